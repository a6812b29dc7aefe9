import PyProof.Rows.All
import Wide.All
import OpenK.AllK
import Wide.FinOn
import Lean
import PyProof.EqAt
import PyProof.EqKinds
import PyProof.TupleCall
import PyProof.MinMaxWalk
import PyProof.Rows.StrJoin2
import PyProof.NeKinds
import PyProof.PassesOwn
import PyProof.StationsW
import PyProof.ExcClass3
import OpenK.KMake
import PyProof.InstStoreFacts
import PyProof.ExcAttrAll.ValueError
import OpenK.KDescr
import OpenK.KOwn
import KE.KIsAll
import PyProof.Rows.ZipGen
import KE.KMinKey
import PyProof.StrWalks
import PyProof.FString5
import KE.KDictSum
import PyProof.DictItems
import KE.KEqDict
import KE.KSortTup
import KE.KLam
import KE.KNestM
import PyProof.DictWalks
import PyProof.NsDelKeeps
import KE.KRevIter
import PyProof.ListNew
import PyProof.DictTruth
import PyProof.Rows.SortStr
import PyProof.Rows.SortWalk
import PyProof.StrOps2
import PyProof.AttrMiss
import PyProof.IsiH_list
import KE.KDictOf
import PyProof.DictUpdate
import PyProof.StrBlockL
import PyProof.Rows.StrNews
import PyProof.MeetsStr
import PyProof.MeetsStr2
import KE.KIntText
import PyProof.StrLawsTight
import PyProof.Rows.StrFirst2
import OpenK.KRaise
import KE.KDictLaws
import PySem.Challenge.RW_boxgalley_k10_texts_that_are_none
set_option Elab.async false
set_option compiler.extract_closed false
set_option bootstrap.genMatcherCode false
set_option linter.all false
set_option maxRecDepth 100000
set_option maxHeartbeats 16000000
theorem bf{p:Prop}(h:p:=by decide +kernel):p:=h
theorem bp{p:Prop}(h:p:=by decide):p:=h
theorem aB{p:Prop}(h:p:=by lia):p:=h
set_option maxHeartbeats 0
open List renaming length_map->AC,getElem?_eq_getElem->B2,length_append->B3,getElem?_map->B6,size_toArray->B8,length_cons->Da,mem_cons_self->De,mem_singleton->Dk,mem_of_getElem?->Do,mem_cons_of_mem->Fk,map_append->KM,append_nil->Ni,mem_append->Os,mem_cons->PP,getElem?_append_right->Re,getD_eq_getElem?_getD->Sk,mem_map->Su,getElem?_append_left->Sv,append_assoc->Sx,map_map->SN,not_mem_nil->SO,map_cons->SQ,eq_nil_of_length_eq_zero->S0,length_drop->Ta,range->Tg,take_of_length_le->Tp,getElem?_of_mem->Tv,flatMap_cons->Tz,mem_append_right->TF,mem_map_of_mem->TH,length_take->TJ,getElem?_eq_some_iff->TK,map_congr_left->TM,getElem_mem->TQ,replicate->TZ,length_reverse->T7,cons_ne_nil->Ub,cons_append->Uc,length_range->Ue,mem_append_left->Ul,lookup_cons->Um,take_succ->UA,mem_filter->UH,take_length->UO,all_eq_true->UW,mem_of_find?_eq_some->UX,find?_eq_none->UY,nil_append->U1,count_append->U2,flatMap_append->U4,flatMap_nil->U5,filter_eq_self->U7,getElem?_drop->U_,length_nil->Vd,take_append_drop->Ve,drop_zero->Vk,mem_range->Vy,find?_cons->VH,lookup->VQ,drop_left->VY,drop_eq_nil_of_le->VZ,drop_drop->V0,nodup_append->V4,length_replicate->V5,length_filter_le->V6,getElem?_eq_none->V7,any_cons->Wa,all_cons->Wb,take_append_of_le_length->We,length->Wf,filterMap_cons->Wj,all_map->Wl,find?_map->Wr,reverse_cons->WA,map_id->WB,sum_cons->WN,mem_filterMap->WO,getElem?_set_self->W9,find?_cons_of_pos->W_,any_map->Xa,forIn_cons->Xf,foldl_cons->Xg,getElem?_reverse->Xk,nodup_cons->Xx,getElem?_set_ne->Xy,filter_append->XY,map_nil->Ye,foldl_append->Yf,ext_getElem?->Yg,any_eq_false->Yh,map_fst_zip->Yr,sum_append->YD,of_mem_zip->YE,length_zip->YF,filter_map->YG,mem_reverse->YK,take_left->Y4,forIn_nil->Y5,any_eq_true->Y6,map_drop->Zz,length_filterMap_le->ZA,find?_range_eq_some->ZC,getElem?_replicate->ZM,getElem?_cons_succ->ZN,filter_cons_of_neg->ZO,range_succ_eq_map->Z5,find?_cons_of_neg->Z6,cons_lt_cons_iff->aak,mem_of_mem_drop->aax,length_dropLast->aay,takeWhile_cons->aaG,reverse_append->aaH,replicate_succ->aaI,getElem?_range->aaJ,zip_cons_cons->aa2,contains_cons->aa3,find?_append->abh,map_snd_zip->aby,map_reverse->abz,map_eq_nil_iff->abA,filter_cons->abB
open PySem.W renaming Frag->B0,mg_of->Sl,findIn->SE,nsIn->SI,mg_none_of->SM,hideAll->SS,keepIn->Td,kitOne->TX,kia_one->TY,mroIn->T3,excIn->T4,hideAll_get->T6,emptyDict->Up,instObj->UZ,of_hideAll->U8,fnOf->U9,any_some->Vq,hasDictIn->Wz,plainGet->WW,isFn->W4,funFrames_hide->W5,notCls->Xs,hideAll_none->Xt,codeIn->Xu,InstAt->Xv,callWith_K->XX,specialIn->X5,plainOver->X6,methodObj->X7,looks_mroIn->Yu,takesIn->Yy,takerIn->Yz,makesIn->YA,OpenLaw->YB,lookIn->YX,instIn->YY,clsIn->Zw,cellsFrom_some->ZY,callWith_K0->aaF,tail_of_in->aaY,isNs_of_in->aaZ,kitx_list->abb,kitx_dict->abc,handedIn->abv
open PySem renaming wpAny_bind->B1,Addr->B4,Value->B5,Shared->FM,wpAny_pure->GE,wpAny->Ki,model->Pp,starEach->P3,mainGlobals->SC,wpAny_mono->SW,Stmt->SX,boot_len->Tc,Program->To,Str->TN,World->TV,Heap->T9,wpAny_truthy_bool->T_,FuncData->Ud,wpAny_holding->Uh,wpAny_field->Ui,keywordEach->Ut,wpAny_Call_Name_kw->Uv,cLine->Uy,wpAny_loadPart_at->UB,foldedSetIterable->UC,sysModules->UF,mem_of_lookup->UG,bootBuiltins->UI,backTo->UJ,wpAny_standAt->UM,Around->UU,codeAny->UV,sizeLine_eq->U6,wpAny_passesOwn->Vb,backToKw->Vc,wpAny_seqItems->Vh,assignEach->Vi,Scope->Vj,wpAny_comprehension_free->VA,plainId_quiet->VB,attributeBase->VC,wpAny_updateSeq->VD,wpAny_loadPart'->VE,wpAny_execs_nil->VG,wpAny_setField_rec->VJ,typeIs_str->VL,call_meets->VM,swapsWith->VP,codeAny_mono->VR,call_meetsIn->VS,valueAt->V_,sliceBounds->Wc,codeAny_builtin->Wh,wpAny_tryCatch->Wm,wpAny_setField->Wn,tupleKind_room_in1->Wo,wpAny_newObj_type->Wu,wpAny_letGo->Wv,excClassObj->Wx,Keyword->WC,behindInMarks->WI,wpAny_call_entry->WR,wpAny_callSpecial?_slot->WS,wpAny_call->W2,wpAny_ite_split->Xb,letOwnedTupleGo->Xc,wpAny_pyIter_revIter->Xl,wpAny_loadPart->Xm,unbindBehindTheSuite->Xn,rawInt->Xo,compEnvC->Xp,intText?->Xr,IsEnum->Xz,tupleKind->XA,standAt->XB,seqItems?->XC,notedBy->XE,argBest->XF,wpAny_isSubtype_exc->XH,wpAny_pyIter_tuple->XT,typeLookup->XU,wpAny_assign_Name->X0,callerA->X4,NameKind->Yd,ExcBaseFacts->Yk,plainObj_wpAny_Assign_Attribute->Ym,wpAny_execs_cons->Yn,updateSeq->Yo,noFill_tuple_add->Yp,DictEntry->Ys,subscripted->Yt,wpAny_specialOf->Yw,wpAny_looks_onW->Yx,relabel->YI,BindsTo->YP,wpAny_rule->YQ,intItems->YR,compPost->YS,atKey->YT,Result->YW,wpAny_attempt->Zt,seq_tuple_add->Zu,stripSame->ZF,raiseStmt->ZG,bindL->ZH,bindC->ZI,IsEnumOut->ZP,wpAny_landsW->ZR,seqIndex_neg->ZT,revObj->ZU,holding->ZV,concat_meets->ZW,Within->ZX,wpAny_storeName_local->aab,wpAny_isTrue_Compare1->aac,exec_Assign_Name_used->aad,codeAny_handlers_test->aae,builtinLookup_eq_fast->aaf,wpAny_throw->aam,wpAny_point->aan,wpAny_of_eq->aao,wpAny_leaving_firstW->aap,underTheClaimsCaller->aaq,seqIndex_of->aar,lookup_relabel_local->aas,codeAny_call_builtin->aat,wpAny_handleBy_cons->aaC,wpAny_call_exc_subU->aaD,wpAny_Name->aaN,refuseLoop->aaO,isInstance->aaP,call_reversed_list->aaQ,builtinsNs->aaR,call->aaX,PlainAttrs->aa0,wpAny_pyIter_list->aa8,wpAny_pyIter_enum->aa9,wpAny_Call_method->aa_,intText_neg->aba,OwnTail->abd,Model->abg,wpAny_pyIter_zip->abl,wpAny_lookBehind->abm,wpAny_Try_except->abn,wpAny_Dict_empty->abo,strValues->abp,pastItsLine_dict->abq,cellsFrom->abt
open PySem.Heap renaming get?_push_of_some->B7,lt_size->Gc,get?_push_size->Ss,get?_update_other->Th,get?_update_self->Tj,FlyingW->TU,SameBut->Ur,size_push->V1,StaysIn->Z8,get?_update_ne->aaK,HeldW->aa5
open Nat renaming le_refl->B9,zero_le->Sm,ne_of_lt->Sy,lt_of_lt_of_le->SA,le_trans->Tf,le_of_ble_eq_true->Ti,lt_irrefl->TR,mul_le_mul_right->Uk,sub_succ_lt_self->Uz,not_lt_zero->U0,toDigits->Vt,le_add_right->Vu,lt_of_le_of_lt->VO,repr->VU,ne_of_gt->VW,le_succ_of_le->VX,succ_le_succ->V9,le_succ->Wd,succ_pos->Wk,toDigits_of_lt_base->WY,le_of_lt->W7,add_comm->W8,min_eq_left->Xe,mul_le_mul->Xw,zero_add->X_,succ_mul->Ya,sub_self->Yb,le_of_eq->Yc,lt_succ_self->Yq,isDigit_of_mem_toDigits->YJ,sub_zero->Z2,lt_or_ge->Z3,add_zero->Z4,le_of_succ_le->abf,min_eq_right->abx
open _root_ renaming decide_eq_true->FB,if_neg->GM,decide_eq_false->GT,absurd->KB,if_pos->KF,of_decide_eq_true->Pv,Decidable->SL,congrArg->Tb,Bool->Tq,Array->Us,decide_eq_true_eq->UD,String->UP,if_false->Wp,if_true->Ww,True->WJ,beq_iff_eq->W3,ne_true_of_eq_false->XI,Unit->aav,DecidableEq->aaz,instDecidableAnd->abr
open PySem.Str renaming length_append->FS,join->Tr,ofString->Ua,empty->WV
open PySem.Value renaming ref->Kf,str->Uj,none->Uo,type->VN,bool->V8,int->WU,isStrOf->XM,builtin->XN,float->aau
open Bool renaming false_ne_true->Om,and_eq_true->Tw,eq_iff_iff->Uu,false_eq_true->US,eq_false_iff->Vp,not_eq_true'->WE,or_eq_true->Xh,true_and->XR,or_false->XS,and_false->Y9
open PyProof.Rows renaming boot_str->On,boot_isinstance->Sw,boot_tuple->SD,envOfC->SY,callWith_type1->TL,boot_all->Ug,boot_list->VT,split_le->V3,AllBare->WH,IntsAre->YL,boot_reversed->Y1,subscriptTail_builtinR->ZS,boot_max->aag,boot_int->aah,Call_->aaB,Subscript_->aaS
open PySem.F renaming plainAttrs_str->Pi,plainAttrs_list->SH,type_list_append->SJ,slot_list_append->SK,type_str_join->S1,slot_str_join->S_,excBase_ValueError->Uq,plain_max_loop->Ux,plainAttrs_dict->UE,type_str_split->UK,slot_str_split->UL,slot_tuple_iterator_next->Vm,slot_dict_update->WK,args_tuple_add_2->WL,entry_tuple_add->WX,entry_max_loop->W0,slot_tuple_add->W6,slot_dict_pop->Xi,slot_dict_get->Xj,slot_dict_itemiterator_iter->XO,args_str_split_2->XZ,entry_str_split->Yj,slot_dict_setdefault->YC,args_tuple_iterator_next_1->YH,entry_tuple_iterator_next->YM,type_str_partition->YZ,slot_str_partition->Y0,type_dict_update->Zx,slot_dict_items->ZJ,args_dict_pop_3->ZK,args_dict_get_3->ZL,entry_dict_pop->ZZ,entry_dict_get->Z0,slot_enumerate_next->aal,plain_extend_loop->aaM
open Option renaming map_eq_some_iff->Sn,bind_some->Uw,map_some->Xd,isSome_iff_exists->aai,isSome_some->aa1,isSome_map->abe,getD_none->abw
open PySem.Txt renaming split->So,join->Sr
open Array renaming toList_append->SF,length_toList->SG,append_assoc->UT,getElem?_toList->Vf,getElem?_eq_some_iff->WG,getElem?_eq_getElem->Y_,find?_toList->aa7
open PySem.PassesOwn renaming never->SU,leaving->X9
open Option.some renaming inj->SV
open Ne renaming symm->SZ
open Or renaming inl->Te,inr->Y3
open PySem.Builtin.Str renaming strSliceIndices->Tn,subAt->abk
open PySem.PyData renaming keyHash->Ts
open Sum renaming inr->Tt,inl->Tu
open True renaming intro->T8
open PySem.NameKind renaming free->UN,cell->Zy
open PySem.Obj renaming mapSeq->UQ,mapFields->U3,data_mapFields->Wq,isFreed_of_fields->aaj
open False renaming elim->UR
open PySem.Builtin.List renaming listExtendWith->Vg,listTooLong->WQ,listLengthHint->YN,listSameRef->ZE,listItems->Z_
open PySem.Builtin.SmallTypes renaming nextOf->Vv,ownedTupleHandOut->XJ,ownedTupleIsFree->XQ
open PySem.Heap.SameBut renaming update->Vz
open ForInStep renaming yield->VI
open PySem.Calls renaming callWith_builtin->V2,spliced_cons->Ws,spliced_nil->Yl,Name_function_global->Y8,evalArgs_plain->aaA
open PySem.Around renaming under_plainId->Wg,under->aaa
open Int renaming natCast_add->Wi,toNat_natCast->Yi,fdiv_eq_ediv_of_nonneg->Y7,zero_add->Z7,emod_lt_of_pos->aa4
open Sum.inr renaming inj->Wy
open Iff renaming rfl->WD
open PySem.Paired renaming length->WM
open And renaming right->W1
open String renaming toList_append->Xq,toList_ofList->aaw
open PySem.Challenge renaming pw_boxgalley_k10_texts_that_are_none->XG
open PySem.SeqAt.RcNeAt renaming lists->XW,lists_lengths->YU,tuples->aaE
open Prod renaming fst->X8,snd->Y2
open PySem.StrLaws renaming strSliceIndices_plain->Yv,sliceIdx_none_lo->Zv,join_split->aaT,subAt_eq->abu
open PySem.Builtin.Builtins renaming bindParams->YO
open PySem.SeqAt renaming EqAt->YV
open List.cons renaming inj->ZD
open Nat.succ renaming inj->Z1
open PySem.Code renaming isFrame->Z9,quiet_builtin->aa6
open PySem.Heap.UpToSlots renaming refl->aaL
open PySem.SeqAt.EqAt renaming str_int->aaU,of_refs->aaV,int_str->aaW
open List.Sublist renaming refl->abi
open PySem.Heap.Ns1 renaming of_empty->abj
open PyProof.Rows.IsTup renaming new->abC
open Option renaming some->O,none->Y
open _root_ renaming List->L,Int->J',Nat->M',Option->O',rfl->U
open PySem renaming Str->Z
open Bool renaming true->T',false->F'
namespace L2
open PySem PySem.Spec PyProof.Rows
abbrev Key:=Sum J' Z
noncomputable def sU:Key->B5->Tq
 | .inl k,v=>Value.isInt k v
 | .inr x,v=>XM x v
noncomputable def RG(w:TV):Key->J'
 | .inl k=>hashInt k
 | .inr x=>hashStr w x
def dh:∀{k:Key}{v:B5},sU k v=T'->(∃i t,k=Tu i/\v=WU i t)\/(∃x t,k=Tt x/\v=Uj x t)
 | .inl i,v,h=>by
  obtain⟨t,e⟩:=Value.isInt_shape (k:=i) (v:=v) h;exact .inl ⟨i,t,U,e⟩
 | .inr x,v,h=>by
  obtain⟨t,e⟩:=Value.isStrOf_shape (x:=x) (v:=v) h;exact .inr ⟨x,t,U,e⟩
def Dw(i:J')(t:Tok):sU (.inl i) (.int i t)=T':=by simp[sU,Value.isInt]
def El(x:Z)(t:Tok):sU (.inr x) (.str x t)=T':=by simp[sU,XM]
def Oa(a b:J'):decide ((Tu a:Key)=Tu b)=(a==b):=by
 by_cases e:a=b
 ·subst e;simp
 ·have h:¬(Tu a:Key)=Tu b:=λq=>e (Sum.inl.inj q);rw[GT h];exact(beq_eq_false_iff_ne.mpr e).symm
def MI(a b:Z):decide ((Tt a:Key)=Tt b)=decide (a=b):=by
 by_cases e:a=b
 ·subst e;simp
 ·have h:¬(Tt a:Key)=Tt b:=λq=>e (Wy q);rw[GT h,GT e]
def M9(a:J')(b:Z):decide ((Tu a:Key)=Tt b)=F':=GT (λq=>nomatch q)
def MQ(a:Z)(b:J'):decide ((Tt a:Key)=Tu b)=F':=GT (λq=>nomatch q)
noncomputable def bx(d:To)(w:TV):PySem.KeyKind d w Key where
 is:=sU
 hash:=RG w
 inj:=λv a b m g=>by
  rcases dh m with⟨i,t,rfl,rfl⟩|⟨x,t,rfl,rfl⟩
  ·rcases dh g with⟨j,u,rfl,e⟩|⟨y,u,rfl,e⟩
   ·injection e with c _;rw[c]
   ·exact nomatch e
  ·rcases dh g with⟨j,u,rfl,e⟩|⟨y,u,rfl,e⟩
   ·exact nomatch e
   ·injection e with c _;rw[c]
 byValue:=λk v h=>by
  rcases dh h with⟨i,t,rfl,rfl⟩|⟨x,t,rfl,rfl⟩<;>rfl
 pyHash:=λf h=>by
  rcases dh f with⟨i,t,rfl,rfl⟩|⟨x,t,rfl,rfl⟩
  ·exact wpAny_pyHash_int h
  ·exact wpAny_pyHash_str h
 eqBool:=λl f h=>by
  rcases dh l with⟨i,t,rfl,rfl⟩|⟨x,t,rfl,rfl⟩
  ·rcases dh f with⟨j,u,rfl,rfl⟩|⟨y,u,rfl,rfl⟩
   ·rw[Oa]at h;exact wpAny_eqBool_int h
   ·rw[M9]at h;exact aaW i t y u _ _ _ _ h
  ·rcases dh f with⟨j,u,rfl,rfl⟩|⟨y,u,rfl,rfl⟩
   ·rw[MQ]at h;exact aaU x t j u _ _ _ _ h
   ·rw[MI]at h;exact wpAny_eqBool_str h
 «strs»:=λk x t v h=>by
  rcases dh h with⟨i,u,rfl,e⟩|⟨y,u,rfl,e⟩
  ·exact nomatch e
  ·injection e with c _
   subst c
   cases v<;>rfl
def xg(a:To)(w:TV)(i:J')(t:Tok):(bx a w).is (.inl i) (.int i t)=T':=Dw i t
def yz(a:To)(w:TV)(x:Z)(t:Tok):(bx a w).is (.inr x) (.str x t)=T':=El x t
inductive V where
 |non|bl (b:Tq)|int (i:J')|str (x:Z)|byt (b:Us UInt8)|flt (b:UInt64)|ref (a:B4)|ty (n:UP)
 deriving aaz
def RelV:V->B5->Prop
 | .non,u=>u=Uo
 | .bl b,u=>u=V8 b
 | .int i,u=>∃t,u=WU i t
 | .str x,u=>∃t,u=Uj x t
 | .byt b,u=>∃t,u=Value.bytes b t
 | .flt b,u=>∃t,u=aau b t
 | .ref a,u=>u=Kf a
 | .ty n,u=>u=VN n
abbrev Vals:L V->L B5->Prop:=Paired RelV
variable{us:L B5}{xs vs:L V}{u:B5}{a b it dx C f:B4}{P prog:To}{h h' B':T9}{w:TV}{A:UU}{E Q:B5->FM->Prop}{M:abg}{N ps:L Z}{ch fp:L B4}{d':Drawn}{g':Us GenState}{i j t' n:M'}{A':L (B4×Obj)}{s s':FM}{x name m V':Z}{v y:V}{e c tg l:Expr}{op op':CmpOp}{pos pos' p apos:Pos}{K:B0}{es:L Expr}{body:L SX}{lo:J'}{mA mg:Z->O' B5}{kw:L (Z×B5)}{U':L Env}{fd:Ud}{kindOf:Z->O' Yd}{S':Vj}
def Vals.length(r:Vals xs us):xs.length=us.length:=WM r
theorem Vals.get:∀{xs:L V}{us:L B5}{i:M'}{x:V},Vals xs us->xs[i]? =O x->∃u,us[i]? =O u/\RelV x u
 |_,_,_,_,.nil,e=>by simp at e
 |_,_,0,_,.cons r _,e=>by simp at e;subst e;exact⟨_,U,r⟩
 |_,_,i+1,x,.cons _ t,e=>by
  obtain⟨u,b,a⟩:=Vals.get (i:=i) (x:=x) t (by simpa using e);exact⟨u,by simpa using b,a⟩
theorem Vals.set{x:V}(r:RelV x u):∀{xs:L V}{us:L B5}(i:M'),Vals xs us->Vals (xs.set i x) (us.set i u)
 |_,_,_,.nil=> .nil
 |_,_,0,.cons _ t=> .cons r t
 |_,_,i+1,.cons q t=> .cons q (Vals.set r i t)
theorem Vals.append:∀{xs b:L V}{us a:L B5},Vals xs us->Vals b a->Vals (xs++b) (us++a)
 |_,_,_,_,.nil,s=>s
 |_,_,_,_,.cons r t,s=> .cons r (Vals.append t s)
theorem Vals.take:∀{xs:L V}{us:L B5}(n:M'),Vals xs us->Vals (xs.take n) (us.take n)
 |_,_,0,_=> .nil
 |_,_,_+1,.nil=> .nil
 |_,_,n+1,.cons r t=> .cons r (Vals.take n t)
theorem Vals.drop:∀{xs:L V}{us:L B5}(n:M'),Vals xs us->Vals (xs.drop n) (us.drop n)
 |_,_,0,r=>r
 |_,_,_+1,.nil=> .nil
 |_,_,n+1,.cons _ t=>Vals.drop n t
def il:O' V->O' B5->Prop
 |some v,O u=>RelV v u
 |none,Y=>WJ
 |_,_=>False
def KV{κ:Type}:L (κ×V)->L (κ×B5)->Prop:=Paired λ(p:κ×V) (q:κ×B5)=>p.1=q.1/\RelV p.2 q.2
def kV:Key->V
 | .inl i=> .int i
 | .inr x=> .str x
inductive HO where
  |lst (xs:L V)
  |tup (xs:L V)
  |dK (K':L (Key×V))|dT (K':L (L Key×V))
  |set (S:J'->Tq) (n:M')
  |ins (C dx:B4) (fs:L (Z×V))
  |own (x:B4)
  |xd (fs:L (Z×V))
  |met (f x:B4)
  |rng (lo hi:J')
  |frz (o:Obj) (u:HO)
  |tbl (ps:Us B5)
  |ext (φ:T9->Prop)
abbrev Hp:=B4->O' HO
noncomputable def upd(H:Hp)(a:B4)(o:HO):Hp:=λb=>if b=a then O o else H b
variable{o:HO}{H H':Hp}
def ag:upd H a o a=O o:=by unfold upd;rw[KF U]
def ax(h:b≠a):upd H a o b=H b:=by unfold upd;rw[GM h]
def KQ{u:HO}:upd (upd H a o) a u=upd H a u:=by
 funext b;unfold upd;split<;>rfl
def wW{u:HO}(h:H a=O o)(h':H b=O u)(d:o≠u):a≠b:=by
 intro e;subst e;rw[h]at h';exact d (SV h')
def aH(h:H a=O o)(h':H b=Y):a≠b:=by
 intro e;subst e;rw[h]at h';cases h'
section
variable(P:To)(w:TV)
def cM(H:Hp)(h:T9)(a:B4):HO->Prop
 | .lst xs=>xs.length<=sizeLine/\∃(b:L B5)(n:M'),Vals xs b/\h.get? a=O {cls:= .type "list",data:= .seq b.toArray n}
 | .tup xs=>xs.length<=sizeLine/\∃b:L B5,Vals xs b/\IsTup h a b.toArray
 | .dK c=>c.length<=sizeLine/\(a==UF)=F'/\∃vs,KV c vs/\h.DictOf (bx P w) a vs
 | .dT c=>c.length<=sizeLine/\(a==UF)=F'/\∃xs:L (L Key×B4×B5),
   Paired (λ(p:L Key×V) (q:L Key×B4×B5)=>p.1=q.1/\H q.2.1=O (.tup (p.1.map kV))/\RelV p.2 q.2.2) c xs/\
   ∃o es g,h.get? a=O o/\o.ExactDict/\o.data= .dict es g/\es.toList=xs.map (entryOfKey (XA (bx P w)))/\(xs.map (·.1)).Nodup
 | .set S n=>h.SetOf (intKind P w) a S n
 | .ins C dx fs=>H dx=O (.own a)/\fs.length<=1000/\dx≠a/\h.get? a=O (UZ C dx)/\
   ∃mA,h.Ns1 dx mA/\(∀f,il (fs.lookup f) (mA f))/\ZX mA (fs.map (·.1))
 | .own _=>∃o,h.get? a=O o
 | .xd fs=>∃mA,h.Ns1 a mA/\∀f,il (fs.lookup f) (mA f)
 | .rng lo i=>∃t u v,h.get? a=O {cls:= .type "range",data:= .fields #[.int lo t,.int i u,.int 1 v]}
 | .frz o u=>h.get? a=O o/\cM H h a u
 | .tbl ps=>h.get? a=O {cls:= .none,data:= .fields ps}
 | .met f x=>h.get? a=O (X7 (.ref f) (.ref x))
 | .ext φ=>φ h/\(∃o,h.get? a=O o)/\∀d e:T9,φ d->(∀o,d.get? a=O o->e.get? a=O o)->φ e
def jE(H:Hp)(h:T9):Prop:=∀a o,H a=O o->cM P w H h a o
end
def cM.lt(x:cM P w H h a o):a<h.objs.size:=by
 cases o with
 |lst xs=>obtain⟨_,_,_,_,e⟩:=x;exact Gc e
 |tup xs=>obtain⟨_,_,_,p⟩:=x;exact p.lt
 |dK b=>obtain⟨_,_,_,_,o,_,_,e,_⟩:=x;exact Gc e
 |dT b=>obtain⟨_,_,_,_,o,_,_,e,_⟩:=x;exact Gc e
 |set S n=>obtain⟨o,_,_,_,e,_⟩:=x;exact Gc e
 |ins C dx fs=>obtain⟨_,_,_,e,_⟩:=x;exact Gc e
 |own y=>obtain⟨_,e⟩:=x;exact Gc e
 |xd fs=>obtain⟨_,⟨_,_,_,e,_⟩,_⟩:=x;exact Gc e
 |rng lo c=>obtain⟨_,_,_,e⟩:=x;exact Gc e
 |frz d u=>obtain⟨e,_⟩:=x;exact Gc e
 |tbl ps=>exact Gc (show h.get? a=O _ from x)
 |met f y=>exact Gc (show h.get? a=O _ from x)
 |ext φ=>obtain⟨_,⟨_,e⟩,_⟩:=x;exact Gc e
theorem Paired.ND{α β:Type}{F G:α->β->Prop}:∀{d:L α}{c:L β},Paired F d c->(∀a b,F a b->G a b)->Paired G d c
 |_,_,.nil,_=> .nil
 |_,_,.cons r t,f=> .cons (f _ _ r) (Paired.ND t f)
def cM.oQ(x:cM P w H h a o)(k:∀b u,(b=a\/H b=O (.own a))->h.get? b=O u->h'.get? b=O u)(F:∀b,H b=O (.own a)->H' b=O (.own a))(B:∀b xs,H b=O (.tup xs)->H' b=O (.tup xs)):cM P w H' h' a o:=by
 induction o with
 |lst xs=>obtain⟨z,j,n,r,e⟩:=x;exact⟨z,j,n,r,k _ _ (.inl U) e⟩
 |tup xs=>obtain⟨z,j,r,g,e,c⟩:=x;exact⟨z,j,r,g,k _ _ (.inl U) e,c⟩
 |dK E=>obtain⟨z,y,vs,r,g,es,i,e,c⟩:=x;exact⟨z,y,vs,r,g,es,i,k _ _ (.inl U) e,c⟩
 |dT E=>
  obtain⟨z,y,xs,r,g,es,i,e,c⟩:=x;exact⟨z,y,xs,Paired.ND r λp q z=>⟨z.1,B _ _ z.2.1,z.2.2⟩,g,es,i,k _ _ (.inl U) e,c⟩
 |set S n=>obtain⟨g,es,i,t,e,c⟩:=x;exact⟨g,es,i,t,k _ _ (.inl U) e,c⟩
 |ins C dx fs=>
  obtain⟨d,z,A,e,mA,⟨l,es,i,s,c⟩,r⟩:=x;exact⟨F _ d,z,A,k _ _ (.inl U) e,mA,⟨l,es,i,k _ _ (.inr d) s,c⟩,r⟩
 |own y=>obtain⟨g,e⟩:=x;exact⟨g,k _ _ (.inl U) e⟩
 |xd fs=>obtain⟨mA,⟨l,es,i,e,c⟩,r⟩:=x;exact⟨mA,⟨l,es,i,k _ _ (.inl U) e,c⟩,r⟩
 |rng lo G=>obtain⟨t,u,v,e⟩:=x;exact⟨t,u,v,k _ _ (.inl U) e⟩
 |frz g u D=>obtain⟨e,q⟩:=x;exact⟨k _ _ (.inl U) e,D q⟩
 |tbl ps=>
  have e:h.get? a=O {cls:= .none,data:= .fields ps}:=x;show h'.get? a=O {cls:= .none,data:= .fields ps};exact k a _ (.inl U) e
 |met f y=>
  have e:h.get? a=O (X7 (.ref f) (.ref y)):=x;show h'.get? a=O (X7 (.ref f) (.ref y));exact k a _ (.inl U) e
 |ext φ=>obtain⟨p,⟨o,e⟩,m⟩:=x;exact⟨m _ _ p λo q=>k _ _ (.inl U) q,⟨o,k _ _ (.inl U) e⟩,m⟩
def jE.lt(x:jE P w H h)(e:H a=O o):a<h.objs.size:=(x a o e).lt
def jE.fresh(x:jE P w H h)(e:h.objs.size<=a):H a=Y:=by
 cases q:H a with
 |none=>rfl
 |some u=>exact KB (SA (x.lt q) e) (TR _)
def jE.kept(x:jE P w H h)(k:∀b u,h.get? b=O u->h'.get? b=O u):jE P w H h':=λa o e=>
 (x a o e).oQ (λb u _ q=>k b u q) (λ_ q=>q) λ_ _ q=>q
def jE.laid(x:jE P w H h)(k:∀b u,h.get? b=O u->h'.get? b=O u)(i:h.objs.size<=a)(d:cM P w (upd H a o) h' a o):jE P w (upd H a o) h':=λb u e=>by
 have f:=x.fresh i;by_cases g:b=a
 ·subst g;rw[ag]at e;cases e;exact d
 ·rw[ax g]at e
  exact(x b u e).oQ (λc v _ q=>k c v q) (λc q=>by rw[ax (aH q f)];exact q) λc xs q=>by rw[ax (aH q f)];exact q
def Rd(H:Hp)(a:B4)(u:HO):Prop:=H a=O u\/∃o,H a=O (.frz o u)
def Rd.ok{u:HO}(r:Rd H a u)(x:jE P w H h):cM P w H h a u:=by
 rcases r with r|⟨o,r⟩
 ·exact x a u r
 ·obtain⟨_,q⟩:=x a _ r;exact q
def QC:O' HO->Prop
 |some (.lst _)=>WJ
 |some (.dK _)=>WJ
 |some (.dT _)=>WJ
 |some (.set _ _)=>WJ
 |some (.ins _ _ _)=>WJ
 |some (.ext _)=>WJ
 |_=>False
section
variable{x e:B4}{o':HO}
def jE.write(ok:jE P w H h)(g:QC (H x))(n:e=x\/H e=O (.own x))(k:∀b u,b≠e->h.get? b=O u->h'.get? b=O u)(j:∃u,h'.get? e=O u)(l:cM P w (upd H x o') h' x o'):jE P w (upd H x o') h':=λb u q=>by
 have d:∀c y,H c=O (.own y)->c≠x:=λc y r z=>by subst z;rw[r]at g;exact g
 have f:∀c xs,H c=O (.tup xs)->c≠x:=λc xs r z=>by subst z;rw[r]at g;exact g
 by_cases i:b=x
 ·subst i;rw[ag]at q;cases q;exact l
 ·rw[ax i]at q;by_cases a:b=e
  ·have m:H b=O (.own x):=by
    rcases n with z|z
    ·exact KB (a.trans z) i
    ·rw[a];exact z
   rw[q]at m;cases m;obtain⟨v,o⟩:=j;exact⟨v,by rw[a];exact o⟩
  ·refine(ok b u q).oQ (λc v hc r=>k c v ?_ r) (λc r=>by rw[ax (d c b r)];exact r) λc xs r=>by rw[ax (f c xs r)];exact r
   rcases hc with rfl|hc
   ·exact a
   ·rintro rfl
    rcases n with z|z
    ·exact d c b hc z
    ·rw[hc]at z;cases z;exact i U
end
structure Un(fs ex:L B4)(H H':Hp)(h h':T9):Prop where
 keep:∀b o,h.get? b=O o->H b=Y->b∉fs->b∉ex->h'.get? b=O o
 slot:∀b o,h.get? b=O o->H b=Y->b∈fs->b∉ex->∃sl,h'.get? b=O {o with slots:=sl}
 free:∀b o,h.get? b=O o->H b=Y->b∉ex->H' b=Y
 there:∀b o,h.get? b=O o->b∉ex->∃o',h'.get? b=O o'
 tups:∀b xs,H b=O (.tup xs)->H' b=O (.tup xs)
 frzs:∀b o u,H b=O (.frz o u)->H' b=O (.frz o u)
 tbls:∀b ps,H b=O (.tbl ps)->∃more,H' b=O (.tbl (ps++more))
section
variable{fs fs' ex ex':L B4}{H1 H2:Hp}{h1 h2:T9}{x e:B4}
def Un.any(u:Un fs ex H H1 h h1){a:Obj}(q:h.get? b=O a)(n:H b=Y)(d:b∉ex):∃e,h1.get? b=O {a with slots:=e}:=by
 by_cases c:b∈fs
 ·exact u.slot b a q n c d
 ·exact⟨a.slots,u.keep b a q n c d⟩
def Un.kept(k:∀b u,h.get? b=O u->h'.get? b=O u):Un fs ex H H h h':=
 ⟨λb a q _ _ _=>k b a q,λb a q _ _ _=>⟨a.slots,k b a q⟩,λ_ _ _ n _=>n,λb a q _=>⟨a,k b a q⟩,λ_ _ q=>q,λ_ _ _ q=>q,λ_ ps q=>⟨#[],by rw[q];simp⟩⟩
def Un.refl:Un fs ex H H h h:=Un.kept λ_ _ q=>q
def Un.laid(k:∀b u,h.get? b=O u->h'.get? b=O u)(d:h.objs.size<=a)(c:H a=Y):Un fs ex H (upd H a o) h h' where
 keep:=λb u q _ _ _=>k b u q
 slot:=λb u q _ _ _=>⟨u.slots,k b u q⟩
 free:=λb u q n _=>by rw[ax (Sy (SA (Gc q) d))];exact n
 there:=λb u q _=>⟨u,k b u q⟩
 tups:=λb xs q=>by rw[ax (aH q c)];exact q
 frzs:=λb u xs q=>by rw[ax (aH q c)];exact q
 tbls:=λb ps q=>⟨#[],by rw[ax (aH q c),q];simp⟩
def Un.write(c:QC (H x))(j:e=x\/H e=O (.own x))(k:∀b u,b≠e->h.get? b=O u->h'.get? b=O u)(d:∃u,h'.get? e=O u):Un fs ex H (upd H x o) h h':=by
 have i:∀b,H b=Y->b≠x:=λb n z=>by subst z;rw[n]at c;exact c
 have g:∀b,H b=Y->b≠e:=λb n z=>by
  subst z
  rcases j with r|r
  ·exact i b n r
  ·rw[n]at r;cases r
 have f:∀b u,H b=O u->¬QC (O u)->b≠x:=λb u q l z=>by subst z;rw[q]at c;exact l c
 refine⟨λb u q n _ _=>k b u (g b n) q,λb u q n _ _=>⟨u.slots,k b u (g b n) q⟩,λb u q n _=>by rw[ax (i b n)];exact n,λb u q _=>?_,
  λb xs q=>by rw[ax (f b _ q λz=>z)];exact q,λb u xs q=>by rw[ax (f b _ q λz=>z)];exact q,λb ps q=>⟨#[],by rw[ax (f b _ q λz=>z),q];simp⟩⟩
 by_cases a:b=e
 ·subst a;exact d
 ·exact⟨u,k b u a q⟩
end
noncomputable def QT(h:T9)(H:Hp):L B4:=(Tg h.objs.size).filter λa=>(H a).isSome
noncomputable def uM(h:T9)(H:Hp):T9:=SS h (QT h H)
def DI(h:T9)(H:Hp):(uM h H).objs.size=h.objs.size:=PySem.W.hideAll_size _ _
def HA{o:Obj}(e:h.get? b=O o)(n:H b=Y):(uM h H).get? b=O o:=
 T6 _ e λa=>by
  have q:(H b).isSome=T':=(UH.mp a).2;rw[n]at q;simp at q
def Kh{o:Obj}(e:(uM h H).get? b=O o):h.get? b=O o/\H b=Y:=by
 have a:h.get? b=O o:=U8 (QT h H) e;refine⟨a,?_⟩
 cases q:H b with
 |none=>rfl
 |some x=>
  have c:b∈QT h H:=List.mem_filter.mpr ⟨Vy.mpr (Gc a),by simp[q]⟩;have z:(uM h H).get? b=Y:=Xt (QT h H) c;rw[z]at e;cases e
structure Mod(K:B0)(mg:Z->O' B5)(B':T9):Prop where
 kin:K.In B'
 glob:B'.Ns SC mg
 blt:∃mb,B'.Ns aaR mb/\∀x:Z,x≠"__name__"->mb x=UI x
 nolimit:B'.NoLimit
structure Cx where
 prog:To
 w:TV
 K:B0
 mg:Z->O' B5
 base:T9
 A:UU
 N:L Z
 s₀:FM
 H₀:Hp
 env:Env
 outer:L Env
 stack:L Env
 ex:L B4
 fn:Z->Tq
 calm:Tq
 pn:L (B4×Obj)
 xe:B5->FM->Prop
def fz(l:L Env):L B4:=l.filterMap (·.frame)
noncomputable abbrev Cx.fs(X:Cx):L B4:=fz X.outer
def QN(a:Vj)(x:Z):Prop:=a.names.lookup x=O .local\/a.names.lookup x=O .cell\/a.names.lookup x=O .free
def Loc(a:Vj)(x:Z):Prop:=a.names.lookup x=O .local\/a.names.lookup x=O .cell
def Look(a:Env)(h:T9)(m:Z->O' B5)(x:Z)(u:B5):Prop:=
 (a.kindOf x=O .local/\m x=O u)\/((a.kindOf x=O .cell\/a.kindOf x=O .free)/\∃c,a.cells.lookup x=O c/\h.IsCell c (O u))
structure Cx.Ok(X:Cx):Prop where
 mod:Mod X.K X.mg X.base
 kind:X.env.scope.kind= .function
 glob:X.env.globals=SC
 blt:X.env.builtins=aaR
 above:X.s₀.heap.objs.size<=X.env.locals
 inj:∀x y c,X.env.cells.lookup x=O c->X.env.cells.lookup y=O c->x=y
 has:∀x,(X.env.kindOf x=O .cell\/X.env.kindOf x=O .free)->∃c,X.env.cells.lookup x=O c
 cab:∀x c,X.fn x=T'->X.env.cells.lookup x=O c->X.s₀.heap.objs.size<=c
 hd:X.calm=T'->X.A.handled=Y
 frames:X.A.frames=O X.stack
 stk:X.stack=X.outer\/(X.stack=X.env::X.outer/\X.env.frame=O X.env.locals)
 exf:∀b∈X.ex,b≠X.env.locals/\∀x c,X.env.cells.lookup x=O c->c≠b
 bs:∀b o,X.base.get? b=O o->X.s₀.heap.get? b=O o/\X.H₀ b=Y
 bsz:X.base.objs.size<=X.s₀.heap.objs.size
 noex:∀b o,X.base.get? b=O o->b∉X.ex
 exfs:∀b∈X.ex,b∉X.fs
 jK:X.s₀.heap.FunFrames X.base X.outer
 frf:∀b∈X.fs,X.H₀ b=Y
structure Inv(X:Cx)(A':L (B4×Obj))(σ:L (O' V))(H:Hp)(s:FM):Prop where
 ok:X.Ok
 os:s.os=X.s₀.os
 bare:WH s.gens
 base:Un X.fs X.ex X.H₀ H X.s₀.heap s.heap
 loc:∃m,s.heap.Ns X.env.locals m/\∀(i:M')(x:Z)(v:V),X.N[i]? =O x->σ[i]? =O (O v)->QN X.env.scope x->∃u,RelV v u/\Look X.env s.heap m x u
 cell:∀x c,X.env.cells.lookup x=O c->∃v,s.heap.IsCell c v
 free:H X.env.locals=Y
 freeC:∀x c,X.env.cells.lookup x=O c->H c=Y
 pin:∀p∈X.pn++A',s.heap.get? p.1=O p.2/\H p.1=Y/\p.1≠X.env.locals/\p.1∉X.fs/\∀v,p.2.data≠ .cell v
 hok:jE X.prog X.w H s.heap
 len:σ.length=X.N.length
variable{X:Cx}
section
variable{σ:L (O' V)}
def Cx.Ok.Rf(ok:X.Ok){o:Obj}(e:X.base.get? b=O o):b∉X.fs:=λa=>by
 have :=(ok.jK.mem a).1;rw[e]at this;cases this
def Inv.bs(I:Inv X A' σ H s):∀b o,X.base.get? b=O o->s.heap.get? b=O o/\H b=Y:=λb o e=>
 ⟨I.base.keep b o (I.ok.bs b o e).1 (I.ok.bs b o e).2 (I.ok.Rf e) (I.ok.noex b o e),I.base.free b o (I.ok.bs b o e).1 (I.ok.bs b o e).2 (I.ok.noex b o e)⟩
def Inv.bk(I:Inv X A' σ H s):∀b o,X.base.get? b=O o->s.heap.get? b=O o:=λb o e=>(I.bs b o e).1
def Inv.mod(I:Inv X A' σ H s):Mod X.K X.mg X.base:=I.ok.mod
def Inv.jG(I:Inv X A' σ H s):X.K.In s.heap:=I.ok.mod.kin.keeps I.bk
def Inv.lt(I:Inv X A' σ H s):X.env.locals<s.heap.objs.size:=let⟨_,hn,_⟩:=I.loc;hn.lt
def Inv.sz(I:Inv X A' σ H s):X.s₀.heap.objs.size<=s.heap.objs.size:=Tf I.ok.above (W7 I.lt)
def Inv.Q4(I:Inv X A' σ H s)(h:s.heap.objs.size<=a):a∉X.fs:=λb=>by
 obtain⟨_,o,c,_⟩:=I.ok.jK.mem b;exact KB (SA (Gc c) (Tf I.sz h)) (TR _)
def Inv.FX(I:Inv X A' σ H s):∀x c,X.env.cells.lookup x=O c->c≠X.env.locals:=λx c e z=>by
 obtain⟨v,o,d,f⟩:=I.cell x c e;obtain⟨m,⟨h,es,g,a,b,_⟩,_⟩:=I.loc;rw[z,a]at d;cases d;rw[b]at f;cases f
def Inv.jK(I:Inv X A' σ H s):s.heap.FunFrames X.base X.outer:=by
 have all:∀(l:L Env),(∀b∈fz l,b∈X.fs)->X.s₀.heap.FunFrames X.base l->s.heap.FunFrames X.base l:=by
  intro l
  induction l with
  |nil=>intro _ _;trivial
  |cons k r p=>
   intro g h;obtain⟨i,⟨a,o,d,n,m,j⟩,q⟩:=h;have c:a∈X.fs:=g a (by unfold fz;rw[Wj,d];exact De);obtain⟨t,e⟩:=I.base.slot a o m (I.ok.frf a c) c λz=>I.ok.exfs a z c;exact⟨i,⟨a,_,d,n,e,j⟩,p (λb f=>g b (by unfold fz;rw[Wj,d];exact Fk _ f)) q⟩
 exact all X.outer (λ_ f=>f) I.ok.jK
def Inv.stack(I:Inv X A' σ H s):s.heap.FunFrames X.base X.stack:=by
 rcases I.ok.stk with e|⟨e,b⟩
 ·rw[e];exact I.jK
 ·rw[e];obtain⟨m,a,_⟩:=I.loc;refine .cons (by rw[I.ok.kind];decide) b a ?_ I.jK;exact Heap.get?_none_of_le (Tf I.ok.bsz I.ok.above)
def Inv.kc(I:Inv X A' σ H s):∀b∈fz X.stack,b∈X.env.locals::X.fs:=λb a=>by
 rcases I.ok.stk with e|⟨e,c⟩
 ·rw[e]at a;exact Fk _ a
 ·rw[e]at a;unfold fz at a;rw[Wj,c]at a;exact a
def Inv.kF(I:Inv X A' σ H s):∀b∈fz X.stack,H b=Y:=λb hb=>by
 rcases PP.mp (I.kc b hb)with e|hb
 ·rw[e];exact I.free
 ·obtain⟨_,o,a,_⟩:=I.ok.jK.mem hb;exact I.base.free b o a (I.ok.frf b hb) λz=>I.ok.exfs b z hb
def Inv.step(I:Inv X A' σ H s)(f:∀b∈ch,(b∈X.ex\/X.s₀.heap.objs.size<=b)/\b≠X.env.locals/\(∀x c,X.env.cells.lookup x=O c->c≠b)/\∀p∈X.pn++A',p.1≠b)(keep:∀b o,b≠X.env.locals->b∉X.fs->b∉ch->s.heap.get? b=O o->H b=Y->h'.get? b=O o)(slot:∀b o,b≠X.env.locals->b∈X.fs->b∉ch->s.heap.get? b=O o->H b=Y->∃E,h'.get? b=O {o with slots:=E})(free:∀b o,b∉ch->s.heap.get? b=O o->H b=Y->H' b=Y)(there:∀b o,b∉ch->s.heap.get? b=O o->∃C,h'.get? b=O C)(tups:∀b xs,H b=O (.tup xs)->H' b=O (.tup xs))(frzs:∀b o u,H b=O (.frz o u)->H' b=O (.frz o u))(tbls:∀b ps,H b=O (.tbl ps)->∃more,H' b=O (.tbl (ps++more)))(T:∀m,s.heap.Ns X.env.locals m->h'.Ns X.env.locals m)(J:jE X.prog X.w H' h')(W:WH g'):
  Inv X A' σ H' {s with heap:=h',gens:=g',drawn:=d',toks:=t'}:=by
 have D:∀b o,X.s₀.heap.get? b=O o->b≠X.env.locals:=λb o e=>Sy (SA (Gc e) I.ok.above)
 have t:∀b o,X.s₀.heap.get? b=O o->b∉X.ex->b∉ch:=λb o e a y=>by
  rcases(f b y).1 with z|z
  ·exact a z
  ·exact KB (SA (Gc e) z) (TR _)
 have g:∀x c,X.env.cells.lookup x=O c->∀v,s.heap.IsCell c v->h'.IsCell c v:=λx c e v ⟨o,A,G⟩=>by
  have h:c∉ch:=λz=>(f c z).2.2.1 x c e U;by_cases N:c∈X.fs
  ·obtain⟨E,q⟩:=slot c o (I.FX x c e) N h A (I.freeC x c e);exact⟨_,q,G⟩
  ·exact⟨o,keep c o (I.FX x c e) N h A (I.freeC x c e),G⟩
 refine⟨I.ok,I.os,W,⟨λb o e n y a=>?_,λb o e n y a=>?_,λb o e n a=>?_,λb o e a=>?_,λb xs e=>tups b xs (I.base.tups b xs e),λb o xs e=>frzs b o xs (I.base.frzs b o xs e),λb ps e=>?_⟩,?_,λx c e=>?_,?_,λx c e=>?_,λp K=>?_,J,I.len⟩
 ·exact keep b o (D b o e) y (t b o e a) (I.base.keep b o e n y a) (I.base.free b o e n a)
 ·obtain⟨E,j⟩:=I.base.slot b o e n y a;obtain⟨F,B⟩:=slot b _ (D b o e) y (t b o e a) j (I.base.free b o e n a);exact⟨F,B⟩
 ·obtain⟨C,j⟩:=I.base.there b o e a;exact free b C (t b o e a) j (I.base.free b o e n a)
 ·obtain⟨C,j⟩:=I.base.there b o e a;exact there b C (t b o e a) j
 ·obtain⟨Q,j⟩:=I.base.tbls b ps e;obtain⟨m2,B⟩:=tbls b _ j;exact⟨Q++m2,by rw[B,UT]⟩
 ·obtain⟨m,S,V⟩:=I.loc;refine⟨m,T m S,λi x v j B R=>?_⟩;obtain⟨u,r,l⟩:=V i x v j B R;refine⟨u,r,?_⟩
  rcases l with l|⟨k,c,e,z⟩
  ·exact .inl l
  ·exact .inr ⟨k,c,e,g x c e _ z⟩
 ·obtain⟨v,z⟩:=I.cell x c e;exact⟨v,g x c e v z⟩
 ·obtain⟨m,⟨o,_,_,A,_⟩,_⟩:=I.loc;exact free _ o (λz=>(f _ z).2.1 U) A I.free
 ·obtain⟨v,o,A,G⟩:=I.cell x c e;exact free c o (λz=>(f c z).2.2.1 x c e U) A (I.freeC x c e)
 ·obtain⟨e,n,M,P,d⟩:=I.pin p K;have h:p.1∉ch:=λz=>(f p.1 z).2.2.2 p K U;exact⟨keep p.1 p.2 M P h e n,free p.1 p.2 h e n,M,P,d⟩
def Inv.un(I:Inv X A' σ H s)(u:Un X.fs [] H H' s.heap h')(d:jE X.prog X.w H' h'):Inv X A' σ H' {s with heap:=h',toks:=t'}:=by
 obtain⟨m,⟨o,es,q,h,r⟩,_⟩:=id I.loc;obtain⟨l,k⟩:=u.any h I.free (by simp)
 exact I.step (g':=s.gens) (d':=s.drawn) (ch:=[]) (λ_ z=>nomatch z) (λb o _ g _ e n=>u.keep b o e n g (by simp)) (λb o _ g _ e n=>u.slot b o e n g (by simp)) (λb o _ e n=>u.free b o e n (by simp)) (λb o _ e=>u.there b o e (by simp)) u.tups u.frzs u.tbls (λt i=>by
  obtain⟨p,f,c,a,j⟩:=i;rw[h]at a;cases a
  exact⟨_,f,c,k,j⟩) d I.bare
def Inv.call(I:Inv X A' σ H s)(u:Un (fz X.stack) ch H H' s.heap h')(h:jE X.prog X.w H' h')(v:WH g')(d:∀b∈ch,(b∈X.ex\/X.s₀.heap.objs.size<=b)/\b≠X.env.locals/\(∀x c,X.env.cells.lookup x=O c->c≠b)/\∀p∈X.pn++A',p.1≠b):
  Inv X A' σ H' {s with heap:=h',gens:=g',drawn:=d',toks:=t'}:=by
 obtain⟨m,⟨o,es,B,k,r⟩,_⟩:=id I.loc;obtain⟨y,i⟩:=u.any k I.free λz=>(d _ z).2.1 U
 exact I.step (ch:=ch) d (λb o i l a e n=>u.keep b o e n (λz=>(PP.mp (I.kc b z)).elim i l) a) (λb o _ _ a e n=>u.any e n a) (λb o a e n=>u.free b o e n a) (λb o a e=>u.there b o e a) u.tups u.frzs u.tbls (λC q=>by
  obtain⟨A,j,g,f,t⟩:=q;rw[k]at f;cases f
  exact⟨_,j,g,i,t⟩) h v
def Inv.turned(I:Inv X A' σ H s)(k:∀b o,b≠it->s.heap.get? b=O o->h'.get? b=O o)(y:H it=Y)(f:it≠X.env.locals)(g:it∈X.ex\/X.s₀.heap.objs.size<=it)(i:∀x c,X.env.cells.lookup x=O c->c≠it)(h:∀p∈X.pn++A',p.1≠it):Inv X A' σ H {s with heap:=h',toks:=t'}:=by
 have d:∀b u,H b=O u->b≠it:=λb u e z=>by rw[z,y]at e;cases e
 refine I.step (g':=s.gens) (d':=s.drawn) (ch:=[it]) (λb j=>?_) (λb o _ _ a e _=>k b o (λz=>a (by simp[z])) e) (λb o _ _ a e _=>⟨o.slots,k b o (λz=>a (by simp[z])) e⟩) (λ_ _ _ _ n=>n)
  (λb o a e=>⟨o,k b o (λz=>a (by simp[z])) e⟩) (λ_ _ e=>e) (λ_ _ _ e=>e) (λb ps e=>⟨#[],by rw[e];simp⟩) (λm l=>?_) (λb u e=>?_) I.bare
 ·have e:b=it:=by simpa using j
  subst e;exact⟨g,f,i,h⟩
 ·obtain⟨o,es,t,w,r⟩:=l;exact⟨o,es,t,k _ o (SZ f) w,r⟩
 ·refine(I.hok b u e).oQ (λc v a q=>k c v ?_ q) (λ_ q=>q) λ_ _ q=>q
  rcases a with z|z
  ·rw[z];exact d b u e
  ·exact d c _ z
def Inv.tok(I:Inv X A' σ H s)(t:M'):Inv X A' σ H {s with toks:=t}:=I.un (h':=s.heap) (t':=t) Un.refl I.hok
def Inv.kept(I:Inv X A' σ H s)(k:∀b u,s.heap.get? b=O u->h'.get? b=O u):Inv X A' σ H {s with heap:=h',toks:=t'}:=I.un (Un.kept k) (I.hok.kept k)
def Inv.laid(I:Inv X A' σ H s)(k:∀b u,s.heap.get? b=O u->h'.get? b=O u)(c:s.heap.objs.size<=a)(d:cM X.prog X.w (upd H a o) h' a o):
  Inv X A' σ (upd H a o) {s with heap:=h',toks:=t'}:=I.un (Un.laid k c (I.hok.fresh c)) (I.hok.laid k c d)
def Inv.write{x e:B4}(I:Inv X A' σ H s)(f:QC (H x))(d:e=x\/H e=O (.own x))(k:∀b u,b≠e->s.heap.get? b=O u->h'.get? b=O u)(a:∃u,h'.get? e=O u)(c:cM X.prog X.w (upd H x o) h' x o):Inv X A' σ (upd H x o) {s with heap:=h',toks:=t'}:=I.un (Un.write f d k a) (I.hok.write f d k a c)
def Inv.BU{a:L (B4×Obj)}(I:Inv X A' σ H s)(h:∀p∈a,s.heap.get? p.1=O p.2/\H p.1=Y/\p.1≠X.env.locals/\p.1∉X.fs/\∀v,p.2.data≠ .cell v):Inv X a σ H s:=
 ⟨I.ok,I.os,I.bare,I.base,I.loc,I.cell,I.free,I.freeC,λp b=>(Os.mp b).elim (λz=>I.pin p (Ul _ z)) (h p),I.hok,I.len⟩
def qm(c:N.Nodup)(a:N[i]? =O x)(b:N[j]? =O x):i=j:=by
 obtain⟨f,d⟩:=TK.mp a;obtain⟨g,e⟩:=TK.mp b;exact(List.getElem_inj c).mp (d.trans e.symm)
def nA{Q:aav->FM->Prop}(I:Inv X A' σ H s)(hN:X.N.Nodup)(R:X.N[i]? =O x)(t:Loc X.env.scope x)(r:RelV v u)(h:∀s',Inv X A' (σ.set i (O v)) H s'->(∃a,Ur a s.heap s'.heap/\(a=X.env.locals\/X.env.cells.lookup x=O a))->Q () s')(hf:X.fn x=T'\/X.env.scope.names.lookup x=O .local:=by first|exact .inl U|exact .inr U|assumption):Ki M A (storeName X.env x u) Q E s:=by
 obtain⟨m,hn,hl⟩:=id I.loc
 have T:(X.env.scope.kind== .class||(X.env.scope.kind== .module&&X.env.locals !=X.env.globals))=F':=by rw[I.ok.kind];rfl
 have D:i<σ.length:=by rw[I.len];exact(TK.mp R).1
 have FX:=I.FX
 have l:∀{a:B4}{h':T9},(∃o,s.heap.get? a=O o/\H a=Y)->Ur a s.heap h'->jE X.prog X.w H h':=λ{a h'} ha f b ob e=>by
  obtain⟨_,_,B⟩:=ha;refine(I.hok b ob e).oQ (λc w' hc q=>(f.2 c ?_).trans q) (λ_ q=>q) λ_ _ q=>q;rintro rfl
  rcases hc with rfl|hc
  ·rw[B]at e;cases e
  ·rw[B]at hc;cases hc
 rcases t with hk|hk
 ·refine aab hk hn (λh' a1 f=>?_) T;obtain⟨oL,_,_,a0,_⟩:=id hn;refine h _ ⟨I.ok,I.os,I.bare,⟨λb o e n F t=>?_,λb o e n F t=>?_,I.base.free,λb o e t=>?_,I.base.tups,I.base.frzs,I.base.tbls⟩,⟨_,a1,λj y v' g C e3=>?_⟩,λy c e=>?_,I.free,I.freeC,λp hp=>?_,l ⟨oL,a0,I.free⟩ f,by simpa using I.len⟩ ⟨_,f,.inl U⟩
  ·exact(f.2 b (Sy (SA (Gc e) I.ok.above))).trans (I.base.keep b o e n F t)
  ·obtain⟨sl,g⟩:=I.base.slot b o e n F t;exact⟨sl,(f.2 b (Sy (SA (Gc e) I.ok.above))).trans g⟩
  ·obtain⟨o',g⟩:=I.base.there b o e t;exact⟨o',(f.2 b (Sy (SA (Gc e) I.ok.above))).trans g⟩
  ·by_cases J:j=i
   ·subst J;rw[R]at g;cases g;rw[W9 D]at C
    cases C
    exact⟨u,r,.inl ⟨hk,by simp⟩⟩
   ·rw[Xy (SZ J)]at C;obtain⟨u',r',q⟩:=hl j y v' g C e3;refine⟨u',r',?_⟩
    rcases q with⟨k,e⟩|⟨k,c,e,z⟩
    ·refine .inl ⟨k,?_⟩;have :y≠x:=λe=>J (qm hN g (e▸R));simp[this,e]
    ·exact .inr ⟨k,c,e,z.sameBut f (FX y c e)⟩
  ·obtain⟨w',z⟩:=I.cell y c e;exact⟨w',z.sameBut f (FX y c e)⟩
  ·obtain⟨e,n,W,nf,d⟩:=I.pin p hp;exact⟨(f.2 p.1 W).trans e,n,W,nf,d⟩
 ·have G:X.fn x=T':=by
   rcases hf with z|z
   ·exact z
   ·rw[z]at hk;cases hk
  obtain⟨c,hc⟩:=I.ok.has x (.inl hk);obtain⟨w',z⟩:=I.cell x c hc;refine wpAny_storeName_cell I.ok.kind hk hc z (λh' S f=>?_);obtain⟨oc,K,P⟩:=id z;refine h {s with heap:=h'} ⟨I.ok,I.os,I.bare,⟨λb o e n F t=>?_,λb o e n F t=>?_,I.base.free,λb o e t=>?_,I.base.tups,I.base.frzs,I.base.tbls⟩,⟨m,hn.sameBut f (SZ (FX x c hc)),λj y v' g C e3=>?_⟩,λy c' e=>?_,I.free,I.freeC,λp hp=>?_,l ⟨oc,K,I.freeC x c hc⟩ f,by simpa using I.len⟩ ⟨c,f,.inr hc⟩
  ·exact(f.2 b (Sy (SA (Gc e) (I.ok.cab x c G hc)))).trans (I.base.keep b o e n F t)
  ·obtain⟨sl,g⟩:=I.base.slot b o e n F t;exact⟨sl,(f.2 b (Sy (SA (Gc e) (I.ok.cab x c G hc)))).trans g⟩
  ·obtain⟨o',g⟩:=I.base.there b o e t;exact⟨o',(f.2 b (Sy (SA (Gc e) (I.ok.cab x c G hc)))).trans g⟩
  ·by_cases J:j=i
   ·subst J;rw[R]at g;cases g;rw[W9 D]at C
    cases C
    exact⟨u,r,.inr ⟨.inl hk,c,hc,S⟩⟩
   ·rw[Xy (SZ J)]at C;obtain⟨u',r',q⟩:=hl j y v' g C e3;refine⟨u',r',?_⟩
    rcases q with q|⟨k,c',e,z'⟩
    ·exact .inl q
    ·refine .inr ⟨k,c',e,z'.sameBut f ?_⟩;rintro rfl;exact J (qm hN g (I.ok.inj _ _ _ e hc▸R))
  ·by_cases V:c'=c
   ·subst V;exact⟨_,S⟩
   ·obtain⟨w2,z2⟩:=I.cell y c' e;exact⟨w2,z2.sameBut f V⟩
  ·obtain⟨e,n,W,nf,d⟩:=I.pin p hp;refine⟨(f.2 p.1 ?_).trans e,n,W,nf,d⟩;intro q;rw[q,K]at e;have q':oc=p.2:=SV e;exact d w' (by rw[<-q'];exact P)
def qG{Q:aav->FM->Prop}(I:Inv X A' σ H s)(a:X.N.Nodup)(c:X.N[i]? =O x)(e:Loc X.env.scope x)(r:RelV v u)(h:∀s',Inv X A' (σ.set i (O v)) H s'->Q () s')(d:X.fn x=T'\/X.env.scope.names.lookup x=O .local:=by first|exact .inl U|exact .inr U|assumption):Ki M A (storeName X.env x u) Q E s:=
 nA I a c e r (λs' b _=>h s' b) d
def Inv.mj(I:Inv X A' σ H s)(g:s'.os=s.os)(u:Un (fz X.stack) ch H H' s.heap s'.heap)(a:jE X.prog X.w H' s'.heap)(f:WH s'.gens)(d:∀b∈ch,(b∈X.ex\/X.s₀.heap.objs.size<=b)/\b≠X.env.locals/\(∀x c,X.env.cells.lookup x=O c->c≠b)/\∀p∈X.pn++A',p.1≠b):Inv X A' σ H' s':=by
 obtain⟨h',g',d',t',h⟩:=s';have e:h=s.os:=g;subst e;exact I.call (g':=g') (t':=t') (d':=d') u a f d
end
abbrev XK:=B5->O' B4->Hp->Prop
abbrev St:=L (O' V)
abbrev VK:=V->Hp->Prop
abbrev TE:=St->Hp->VK->Prop
abbrev TT:=St->Hp->(Tq->Hp->Prop)->Prop
abbrev TA:=St->Hp->(L V->Hp->Prop)->Prop
structure Ends where
 nx:St->Hp->Prop
 rt:VK
 bk:St->Hp->Prop:=λ_ _=>False
 ct:St->Hp->Prop:=λ_ _=>False
abbrev TS:=Ends->St->Hp->Prop
inductive EP(X:Cx)(A':L (B4×Obj))(σ:St)(Q:VK)(u:B5)(s':FM):Prop
 |mk (v:V) (H':Hp) (i:Inv X A' σ H' s') (r:RelV v u) (q:Q v H')
inductive TP(X:Cx)(A':L (B4×Obj))(σ:St)(Q:Tq->Hp->Prop)(b:Tq)(s':FM):Prop
 |mk (H':Hp) (i:Inv X A' σ H' s') (q:Q b H')
inductive AP(X:Cx)(A':L (B4×Obj))(σ:St)(Q:L V->Hp->Prop)(us:L B5)(s':FM):Prop
 |mk (vs:L V) (H':Hp) (i:Inv X A' σ H' s') (r:Vals vs us) (q:Q vs H')
inductive NX(X:Cx)(A':L (B4×Obj))(k:St->Hp->Prop)(s':FM):Prop
 |mk (σ':St) (H':Hp) (i:Inv X A' σ' H' s') (q:k σ' H')
def SP(X:Cx)(A':L (B4×Obj))(D:Ends)(f:Flow)(s':FM):Prop:=
 match f with
 | .next=>NX X A' D.nx s'
 | .brk=>NX X A' D.bk s'
 | .cont=>NX X A' D.ct s'
 | .ret u=>∃v a H',Inv X A' a H' s'/\RelV v u/\D.rt v H'
def PE(X:Cx)(e:Expr)(t:TE):Prop:=
 ∀(A':L (B4×Obj))(s:FM)(σ:St)(H:Hp)(Q:VK),Inv X A' σ H s->t σ H Q->Ki (Pp X.prog X.w) X.A (eval e X.env) (EP X A' σ Q) X.xe s
def PT(X:Cx)(e:Expr)(t:TT):Prop:=
 ∀(A':L (B4×Obj))(s:FM)(σ:St)(H:Hp)(Q:Tq->Hp->Prop),Inv X A' σ H s->t σ H Q->Ki (Pp X.prog X.w) X.A (isTrue e X.env (eval e X.env)) (TP X A' σ Q) X.xe s
def PW(X:Cx)(e:Expr)(t:TT):Prop:=
 ∀(a:Sem B5)(A':L (B4×Obj))(s:FM)(σ:St)(H:Hp)(Q:Tq->Hp->Prop),Inv X A' σ H s->t σ H Q->Ki (Pp X.prog X.w) X.A (isTrue e X.env a) (TP X A' σ Q) X.xe s
def PW.pt{t:TT}(h:PW X e t):PT X e t:=h _
def PA(X:Cx)(es:L Expr)(t:TA):Prop:=
 ∀(pos:Pos)(A':L (B4×Obj))(s:FM)(σ:St)(H:Hp)(Q:L V->Hp->Prop),Inv X A' σ H s->t σ H Q->Ki (Pp X.prog X.w) X.A (spliced (UJ pos (P3 es X.env))) (AP X A' σ Q) X.xe s
def PS(X:Cx)(a:SX)(t:TS):Prop:=
 ∀(A':L (B4×Obj))(s:FM)(σ:St)(H:Hp)(D:Ends),Inv X A' σ H s->t D σ H->Ki (Pp X.prog X.w) X.A (exec a X.env) (SP X A' D) X.xe s
def si(X:Cx)(a:L SX)(t:TS):Prop:=
 ∀(A':L (B4×Obj))(s:FM)(σ:St)(H:Hp)(D:Ends),Inv X A' σ H s->t D σ H->Ki (Pp X.prog X.w) X.A (execs a X.env) (SP X A' D) X.xe s
def cR{α:Type}{t:Sem α}{Q b:α->FM->Prop}(h:Ki M A t Q E s)(c:∀a s,Q a s->b a s):Ki M A t b E s:=SW h c λ_ _ x=>x
variable{σ:St}{ta te:TE}{tc:TT}{tb:TS}
section
inductive OD(i:M')(σ:St)(H:Hp)(Q:VK):Prop
 |mk (v:_) (c0:σ[i]? =O (O v)) (c1:Q v H)
def eA(i:M'):TE:=λσ H Q=>OD i σ H Q
def tC(v:V):TE:=λ_ H Q=>Q v H
def MP(j:X.N[i]? =O x)(n:QN X.env.scope x)(f:(x==("__debug__":Z))=F':=by decide)(d:(x==("__classdict__":Z))=F':=by decide):PE X (.Name x pos) (eA i):=by
 intro A' s σ H Q I h;obtain⟨v,e,h⟩:=h;obtain⟨m,p,k⟩:=I.loc;obtain⟨u,r,l⟩:=k i x v j e n;have b:EP X A' σ Q u s:=⟨v,H,I,r,h⟩
 rcases l with⟨hk,o⟩|⟨hk,c,g,a⟩
 ·exact aaN (wpAny_loadName_local I.ok.kind hk p o b) f
 ·rcases hk with hk|hk
  ·exact aaN (wpAny_loadName_cell I.ok.kind hk g a b) f
  ·exact aaN (wpAny_loadName_free I.ok.kind hk g a b d) f
def af{i j pos}:PE X (.Constant (.int i) j pos) (tC (.int i)):=λ_ _ _ H _ I h=>wpAny_Constant_int ⟨.int i,H,I.tok _,⟨_,U⟩,h⟩
def fj{b j pos}:PE X (.Constant (.bool b) j pos) (tC (.bl b)):=λ_ _ _ H _ I h=>Constant_bool ⟨.bl b,H,I,U,h⟩
def zB{j pos}:PE X (.Constant .none j pos) (tC .non):=λ_ _ _ H _ I h=>Constant_none ⟨.non,H,I,U,h⟩
def ak{x j pos}:PE X (.Constant (.str x) j pos) (tC (.str x)):=λ_ _ _ H _ I h=>Calls.Constant_str ⟨.str x,H,I.tok _,⟨_,U⟩,h⟩
def Gl(X:Cx)(x:Z):Prop:=X.env.kindOf x=O .globalImplicit
def iE(I:Inv X A' σ H s)(a:Gl X x)(b:X.mg x=O u)(h:Q u s)(c:(x==("__debug__":Z))=F':=by decide):Ki (Pp X.prog X.w) X.A (eval (.Name x pos) X.env) Q E s:=
 Y8 I.ok.kind a (Calls.loadGlobal_global (by rw[I.ok.glob];exact I.mod.glob.keeps I.bk) b h) c
def ip(I:Inv X A' σ H s)(a:Gl X x)(e:X.mg x=Y)(b:UI x=O u)(h:Q u s)(c:x≠"__name__":=by decide)(f:(x==("__debug__":Z))=F':=by decide):Ki (Pp X.prog X.w) X.A (eval (.Name x pos) X.env) Q E s:=by
 obtain⟨i,g,d⟩:=I.mod.blt;exact Y8 I.ok.kind a (Calls.loadGlobal_builtin (by rw[I.ok.glob];exact I.mod.glob.keeps I.bk) e (by rw[I.ok.blt];exact g.keeps I.bk) ((d x c).trans b) h) f
def aV(a:Gl X x)(b:X.mg x=O u)(r:RelV v u)(c:(x==("__debug__":Z))=F':=by decide):PE X (.Name x pos) (tC v):=
 λ_ _ _ H _ I h=>iE I a b ⟨v,H,I,r,h⟩ c
def fF(a:Gl X x)(d:X.mg x=Y)(b:UI x=O u)(r:RelV v u)(c:x≠"__name__":=by decide)(e:(x==("__debug__":Z))=F':=by decide):PE X (.Name x pos) (tC v):=
 λ_ _ _ H _ I h=>ip I a d b ⟨v,H,I,r,h⟩ c e
variable{a b:Expr}{tb:TE}
def PC(X:Cx)(op:CmpOp)(a b:Expr)(t:TE):Prop:=
 ∀(A':L (B4×Obj))(s:FM)(σ:St)(H:Hp)(Q:VK),Inv X A' σ H s->t σ H Q->
  Ki (Pp X.prog X.w) X.A (eval a X.env) (λv d=>Ki (Pp X.prog X.w) X.A (eval b X.env) (λu c=>Ki (Pp X.prog X.w) X.A (compareOp op v u) (EP X A' σ Q) X.xe c) X.xe d) X.xe s
inductive RI(Q:Tq->Hp->Prop)(x:V)(H1:Hp):Prop
 |mk (c:_) (c0:x= .bl c) (c1:Q c H1)
def tB(t:TE):TT:=λσ H Q=>t σ H λx a=>RI Q x a
def GD{t:TE}(h:PC X op a b t)(e:WI op b=F':=by first|exact nobehind _ (by decide) (by decide)|rfl):PT X (.Compare a [op] [b] pos) (tB t):=by
 intro A' s σ H Q I l;refine aac (cR (h A' s σ H _ I l) λv o e=>cR e λu m j=>cR j λc n ⟨x,k,g,f,i⟩=>?_) e;obtain⟨d,rfl,q⟩:=i
 cases f
 exact T_ ⟨k,g,q⟩
def b_{t:TE}(h:PE X e t)(g:∀a,isTrue e X.env a=(do let v<-a;XB e.pos;ZV [v] (truthy v)):=by intro _;rfl):PT X e (tB t):=by
 intro A' s σ H Q I j;refine isTrue_plain (cR (h A' s σ H _ I j) λv k ⟨x,i,c,b,f⟩=>?_) (g _);obtain⟨d,rfl,q⟩:=f
 cases b
 exact T_ ⟨i,c,q⟩
variable{tA tB':TT}{rest:L Expr}
def Mq(t u:TT):TT:=λσ H Q=>t σ H λc a=>if c=T' then u σ a Q else Q F' a
def R_(t u:TT):TT:=λσ H Q=>t σ H λc a=>if c=T' then Q T' a else u σ a Q
def PV(t:TT):TT:=λσ H Q=>t σ H λc a=>Q (!c) a
def bU(b:PT X a tA):PW X (.BoolOp .And [a] pos) tA:=by
 intro d A' s σ H Q I h;refine isTrue_and (cR (b A' s σ H Q I h) λc f e=>?_)
 cases c with
 |true=>exact isTrue_and_nil e
 |false=>exact e
def vq(b:PT X a tA):PW X (.BoolOp .Or [a] pos) tA:=by
 intro d A' s σ H Q I h;refine isTrue_or (cR (b A' s σ H Q I h) λc f e=>?_)
 cases c with
 |false=>exact isTrue_or_nil e
 |true=>exact e
def cn(g:PT X a tA)(k:PW X (.BoolOp .And (b::rest) pos) tB'):PW X (.BoolOp .And (a::b::rest) pos) (Mq tA tB'):=by
 intro i A' s σ H Q I h;refine isTrue_and (cR (g A' s σ H _ I h) λc j ⟨e,d,f⟩=>?_)
 cases c with
 |true=>exact k i A' j σ e Q d f
 |false=>exact⟨e,d,f⟩
def yy(g:PT X a tA)(k:PW X (.BoolOp .Or (b::rest) pos) tB'):PW X (.BoolOp .Or (a::b::rest) pos) (R_ tA tB'):=by
 intro i A' s σ H Q I h;refine isTrue_or (cR (g A' s σ H _ I h) λc j ⟨e,d,f⟩=>?_)
 cases c with
 |true=>exact⟨e,d,f⟩
 |false=>exact k i A' j σ e Q d f
def fL(d:PT X a tA):PT X (.UnaryOp .Not a pos) (PV tA):=by
 intro A' s σ H Q I h;exact isTrue_not (cR (d A' s σ H (λc e=>Q (!c) e) I h) λ_ _ h=>by obtain⟨a,b,c⟩:=h;exact⟨a,b,c⟩)
def Lv(ta tb:TE):TE:=λσ H Q=>ta σ H λx a=>∃c,x= .bl c/\if c=T' then tb σ a Q else Q (.bl F') a
def P4(ta tb:TE):TE:=λσ H Q=>ta σ H λx a=>∃c,x= .bl c/\if c=T' then Q (.bl T') a else tb σ a Q
def Oj(ta:TE):TE:=λσ H Q=>ta σ H λx a=>∃c,x= .bl c/\Q (.bl (!c)) a
def cI{op}{t:TE}(h:PE X a t):PE X (.BoolOp op [a] pos) t:=λA' s σ H Q I b=>BoolOp_one (h A' s σ H Q I b)
def bC(i:PE X a ta)(k:PE X (.BoolOp .And (b::rest) pos) tb):PE X (.BoolOp .And (a::b::rest) pos) (Lv ta tb):=by
 intro A' s σ H Q I h;refine BoolOp_and (cR (i A' s σ H _ I h) λv j ⟨x,f,e,g,d⟩=>?_);obtain⟨c,rfl,d⟩:=d
 cases g
 refine T_ ?_
 cases c with
 |true=>exact k A' j σ f Q e d
 |false=>exact⟨.bl F',f,e,U,d⟩
def A8(i:PE X a ta)(k:PE X (.BoolOp .Or (b::rest) pos) tb):PE X (.BoolOp .Or (a::b::rest) pos) (P4 ta tb):=by
 intro A' s σ H Q I h;refine BoolOp_or (cR (i A' s σ H _ I h) λv j ⟨x,f,e,g,d⟩=>?_);obtain⟨c,rfl,d⟩:=d
 cases g
 refine T_ ?_
 cases c with
 |false=>exact k A' j σ f Q e d
 |true=>exact⟨.bl T',f,e,U,d⟩
def GX(f:PE X a ta):PE X (.UnaryOp .Not a pos) (Oj ta):=by
 intro A' s σ H Q I h;refine UnaryOp_ (cR (f A' s σ H _ I h) λv i ⟨x,g,e,d,b⟩=>?_);obtain⟨c,rfl,b⟩:=b
 cases d
 exact not_of (T_ ⟨.bl (!c),g,e,U,b⟩)
def R4(t:TT)(ta tb:TE):TE:=λσ H Q=>t σ H λc a=>if c=T' then ta σ a Q else tb σ a Q
def E_(k:PT X c tA)(j:PE X a ta)(l:PE X b tb):PE X (.IfExp c a b pos) (R4 tA ta tb):=by
 intro A' s σ H Q I h;refine wpAny_IfExp (cR (k A' s σ H _ I h) λd i ⟨f,e,g⟩=>?_)
 cases d with
 |true=>exact j A' i σ f Q e g
 |false=>exact l A' i σ f Q e g
end
def bu(K:B0)(H:Hp)(a:B4)(xs:L V):Prop:=
 Rd H a (.lst xs)\/
  ∃(o:Obj)(b:Us B5)(n:M'),K.lookup a=O o/\o.cls= .type "list"/\o.dict=Y/\o.data= .seq b n/\b.size<=sizeLine/\Vals xs b.toList
def bq(K:B0)(H:Hp)(a:B4)(xs:L V):Prop:=
 Rd H a (.tup xs)\/
  ∃(o:Obj)(b:Us B5)(n:M'),K.lookup a=O o/\o.cls= .type "tuple"/\o.data= .seq b n/\b.size<=sizeLine/\Vals xs b.toList
noncomputable def RF:B5->O' V
 | .none=>O .non
 | .bool b=>O (.bl b)
 | .int i _=>O (.int i)
 | .str x _=>O (.str x)
 | .bytes b _=>O (.byt b)
 | .float b _=>O (.flt b)
 | .ref a=>O (.ref a)
 | .type n=>O (.ty n)
 |_=>Y
def RelV.abs{x:V}(r:RelV x u):RF u=O x:=by
 cases x with
 |non=>cases r;rfl
 |bl _=>cases r;rfl
 |int _=>obtain⟨t,rfl⟩:=r;rfl
 |str _=>obtain⟨t,rfl⟩:=r;rfl
 |byt _=>obtain⟨t,rfl⟩:=r;rfl
 |flt _=>obtain⟨t,rfl⟩:=r;rfl
 |ref _=>cases r;rfl
 |ty _=>cases r;rfl
def RelV.inj{x:V}(r:RelV x u)(q:RelV y u):x=y:=SV (r.abs.symm.trans q.abs)
theorem Vals.inj:∀{xs a:L V}{us:L B5},Vals xs us->Vals a us->xs=a
 |_,_,_,.nil,.nil=>rfl
 |_,_,_,.cons r t,.cons b t'=>by rw[r.inj b,Vals.inj t t']
section
variable{ys:L V}
def bu.of(h:H a=O (.lst xs)):bu K H a xs:= .inl (.inl h)
def bq.of(h:H a=O (.tup xs)):bq K H a xs:= .inl (.inl h)
theorem Inv.list(I:Inv X A' σ H s)(h:bu X.K H a xs):∃b:L B5,Vals xs b/\PlainL s.heap a b.toArray/\xs.length<=sizeLine:=by
 rcases h with h|⟨o,b,n,d,c,f,g,i,r⟩
 ·obtain⟨z,b,n,r,e⟩:=h.ok I.hok;exact⟨b,r,⟨_,n,e,U,U,U⟩,z⟩
 ·refine⟨b.toList,r,⟨o,n,I.jG a o d,c,f,by simpa using g⟩,?_⟩;have e:=r.length;simp only[SG]at e
  lia
theorem Inv.tuple(I:Inv X A' σ H s)(h:bq X.K H a xs):∃b:L B5,Vals xs b/\IsTup s.heap a b.toArray/\xs.length<=sizeLine:=by
 rcases h with h|⟨o,b,n,d,c,f,g,r⟩
 ·obtain⟨z,b,r,p⟩:=h.ok I.hok;exact⟨b,r,p,z⟩
 ·refine⟨b.toList,r,⟨o,I.jG a o d,c,n,by simpa using f⟩,?_⟩;have e:=r.length;simp only[SG]at e
  lia
def Inv.mD(I:Inv X A' σ H s)(h:bu X.K H a xs)(h':bu X.K H a ys):xs=ys:=by
 obtain⟨c,r,⟨o,n,e,_,_,d⟩,_⟩:=I.list h;obtain⟨b,g,⟨k,j,f,_,_,d'⟩,_⟩:=I.list h';rw[e]at f;cases f;rw[d]at d'
 injection d' with i _
 have :c=b:=by simpa using Tb Array.toList i
 subst this;exact r.inj g
def Inv.tO(I:Inv X A' σ H s)(h:bq X.K H a xs)(h':bq X.K H a ys):xs=ys:=by
 obtain⟨c,r,⟨o,e,_,n,d⟩,_⟩:=I.tuple h;obtain⟨b,g,⟨k,f,_,j,d'⟩,_⟩:=I.tuple h';rw[e]at f;cases f;rw[d]at d'
 injection d' with i _
 have :c=b:=by simpa using Tb Array.toList i
 subst this;exact r.inj g
end
noncomputable abbrev Cx.sC(X:Cx)(E:B5->FM->Prop):Cx:={X with xe:=E}
noncomputable abbrev Cx.Mh(X:Cx):Cx:=X.sC λ_ _=>False
def Cx.Ok.sC(ok:X.Ok)(E:B5->FM->Prop):(X.sC E).Ok:=
 ⟨ok.mod,ok.kind,ok.glob,ok.blt,ok.above,ok.inj,ok.has,ok.cab,ok.hd,ok.frames,ok.stk,ok.exf,ok.bs,ok.bsz,ok.noex,ok.exfs,ok.jK,ok.frf⟩
def Cx.Ok.j_(ok:(X.sC E).Ok):X.Ok:=
 ⟨ok.mod,ok.kind,ok.glob,ok.blt,ok.above,ok.inj,ok.has,ok.cab,ok.hd,ok.frames,ok.stk,ok.exf,ok.bs,ok.bsz,ok.noex,ok.exfs,ok.jK,ok.frf⟩
def Inv.sC(I:Inv X A' σ H s)(E:B5->FM->Prop):Inv (X.sC E) A' σ H s:=⟨I.ok.sC E,I.os,I.bare,I.base,I.loc,I.cell,I.free,I.freeC,I.pin,I.hok,I.len⟩
def Inv.j_(I:Inv (X.sC E) A' σ H s):Inv X A' σ H s:=⟨I.ok.j_,I.os,I.bare,I.base,I.loc,I.cell,I.free,I.freeC,I.pin,I.hok,I.len⟩
def SP.j_{D:Ends}{f:Flow}(h:SP (X.sC E) A' D f s'):SP X A' D f s':=by
 cases f with
 |next=>obtain⟨a,H',I,q⟩:=h;exact⟨a,H',I.j_,q⟩
 |brk=>obtain⟨a,H',I,q⟩:=h;exact⟨a,H',I.j_,q⟩
 |cont=>obtain⟨a,H',I,q⟩:=h;exact⟨a,H',I.j_,q⟩
 |ret u=>obtain⟨v,a,H',I,r,q⟩:=h;exact⟨v,a,H',I.j_,r,q⟩
def si.Mh{a:L SX}{t:TS}(h:si X.Mh a t):si X a t:=λA' s σ H D I b=>
 SW (h A' s σ H D (I.sC _) b) (λ_ _ q=>q.j_) λ_ _ z=>UR z
section
variable{st:SX}{rest:L SX}{t u:TS}
def rz:TS:=λD σ H=>D.nx σ H
def Es(t u:TS):TS:=λD σ H=>t {D with nx:=u D} σ H
def aD:si X [] rz:=λ_ _ σ H _ I h=>VG ⟨σ,H,I,h⟩
def ah(b:PS X st t)(c:si X rest u):si X (st::rest) (Es t u):=by
 intro A' s σ H D I h;refine Yn (cR (b A' s σ H {D with nx:=u D} I h) λf e q=>?_)
 cases f with
 |next=>
  obtain⟨a,H',d,q⟩:=q;exact c A' e a H' D d q
 |ret v=>exact q
 |brk=>exact q
 |cont=>exact q
def ai(a:PS X st t):si X [st] t:=by
 intro A' s σ H D I h;refine Yn (cR (a A' s σ H D I h) λf b q=>?_)
 cases f with
 |next=>exact VG q
 |ret v=>exact q
 |brk=>exact q
 |cont=>exact q
def Inv.quiet(I:Inv X A' σ H s):interactive X.env=F':=by simp[interactive,I.ok.kind]
def Ib(te:TE):TS:=λD σ H=>te σ H λ_ a=>D.nx σ a
def cK(a:PE X e te)(f:VP e Y pos.line X.env=pure F':=by rfl):PS X (.Expr e pos) (Ib te):=by
 intro A' s σ H D I h;exact wpAny_Expr_any (cR (a A' s σ H _ I h) λv i ⟨x,b,c,g,d⟩=>⟨σ,b,c,d⟩) I.quiet f
def sf(te:TE):TS:=λD σ H=>te σ H D.rt
def ar(b:PE X e te):PS X (.Return (O e) pos) (sf te):=by
 intro A' s σ H D I h;exact wpAny_Return_some (cR (b A' s σ H _ I h) λv g ⟨x,c,d,a,f⟩=>⟨x,σ,c,d,a,f⟩)
def xx(c:TT)(t u:TS):TS:=λD σ H=>c σ H λb a=>if b=T' then t D σ a else u D σ a
def aO{a b:L SX}(k:PT X c tc)(j:si X a t)(l:si X b u):PS X (.If c a b pos) (xx tc t u):=by
 intro A' s σ H D I h;refine wpAny_If (cR (k A' s σ H _ I h) λd i ⟨g,e,f⟩=>?_)
 cases d with
 |true=>exact j A' i σ g D e f
 |false=>exact l A' i σ g D e f
end
abbrev TG:=V->St->Hp->(St->Hp->Prop)->Prop
abbrev Ko:=L V->St->Hp->(St->Hp->Prop)->Prop
def PG(X:Cx)(a:Expr)(t:TG):Prop:=
 ∀(A':L (B4×Obj))(s:FM)(σ:St)(H:Hp)(v:V)(u:B5)(Q:St->Hp->Prop),Inv X A' σ H s->RelV v u->t v σ H Q->
  Ki (Pp X.prog X.w) X.A (assign a X.env u) (λ_ s'=>∃b H',Inv X A' b H' s'/\Q b H') X.xe s
def QH(X:Cx)(b:L Expr)(t:Ko):Prop:=
 ∀(A':L (B4×Obj))(s:FM)(σ:St)(H:Hp)(vs:L V)(us:L B5)(Q:St->Hp->Prop),Inv X A' σ H s->Vals vs us->t vs σ H Q->
  Ki (Pp X.prog X.w) X.A (assignInOrder ((Vi b X.env).map (·.2)) us) (λ_ s'=>∃a H',Inv X A' a H' s'/\Q a H') X.xe s
abbrev NI:=V->V->V->Hp->(Hp->Prop)->Prop
def Qf(X:Cx)(t:NI):Prop:=
 ∀(A':L (B4×Obj))(s:FM)(σ:St)(H:Hp)(o i v:V)(a b u:B5)(Q:Hp->Prop),Inv X A' σ H s->RelV o a->RelV i b->RelV v u->t o i v H Q->
  Ki (Pp X.prog X.w) X.A (setItem a b u) (λ_ s'=>∃H',Inv X A' σ H' s'/\Q H') X.xe s
variable{g:TG}
def eY(i:M'):TG:=λv σ H Q=>Q (σ.set i (O v)) H
def aZ(a:X.N.Nodup)(c:X.N[i]? =O x)(e:Loc X.env.scope x)(d:X.fn x=T'\/X.env.scope.names.lookup x=O .local:=by first|exact .inl U|exact .inr U|assumption):PG X (.Name x pos) (eY i):=by
 intro A' s σ H v u Q I r h;exact X0 (qG I a c e r (λs' b=>⟨_,H,b,h⟩) d)
def Oy:Ko:=λvs σ H Q=>vs=[]/\Q σ H
inductive MN(t:TG)(u:Ko)(vs:L V)(σ:St)(H:Hp)(Q:St->Hp->Prop):Prop
 |mk (v:_) (r:_) (c0:vs=v::r) (c1:t v σ H λσ' H'=>u r σ' H' Q)
def Fb(t:TG)(u:Ko):Ko:=λvs σ H Q=>MN t u vs σ H Q
def iF:QH X [] Oy:=by
 intro A' s σ H vs us Q I r h;obtain⟨e,h⟩:=h;subst e
 cases r
 exact assignInOrder_nil ⟨σ,H,I,h⟩
def cj{t:TG}{u:Ko}(l:PG X e t)(f:QH X es u)(b:(Vi (e::es) X.env).map (·.2)=assign e X.env::(Vi es X.env).map (·.2):=by rfl):QH X (e::es) (Fb t u):=by
 intro A' s σ H vs us Q I r h;obtain⟨v,m,g,h⟩:=h;subst g
 cases r with
 |cons r i=>
  rw[b];refine assignInOrder_cons (cR (l A' s σ H _ _ _ I r h) λ_ k ⟨a,j,c,d⟩=>?_);exact f A' k a j _ _ Q c i d
inductive QB(K:B0)(n:M')(t:Ko)(v:V)(σ:St)(H:Hp)(Q:St->Hp->Prop):Prop
 |mk (a:_) (xs:_) (c0:v= .ref a) (c1:bq K H a xs) (c2:xs.length=n) (c3:t xs σ H Q)
def Ov(K:B0)(n:M')(t:Ko):TG:=λv σ H Q=>QB K n t v σ H Q
def kl{k:M'}{t:Ko}(m:X.calm=T')(h:QH X es t)(w:(Vi es X.env).length=n:=by rfl)(c:(Vi es X.env).findIdx? (·.1)=Y:=by rfl):PG X (.Tuple es k pos) (Ov X.K n t):=by
 intro A' s σ H v u Q I r d;obtain⟨a,xs,l,q,g,d⟩:=d;subst l
 cases r
 obtain⟨i,f,p,y⟩:=I.tuple q;refine assign_Tuple_tuple (I.ok.hd m) p (by simp[w,<-g,f.length]) c λh' x=>?_;have j:Inv X A' σ H {s with heap:=h'}:=I.kept (t':=s.toks) λb o e=>x b o (Sy (Gc e)) e;exact h A' _ σ H xs _ Q j (by simpa using f) d
def Q6(a d:TE)(t:NI):TG:=λv σ H Q=>a σ H λo c=>d σ c λi e=>t o i v e λb=>Q σ b
def GY{o i:Expr}{c d:TE}{t:NI}(D:PE X o c)(m:PE X i d)(E:Qf X t)(l:∀v,assign (.Subscript o i pos) X.env v=(do
   let a<-ZV [v] (eval o X.env)
   let b<-ZV [v,a] (eval i X.env)
   XB pos
   ZV [v,a,b] (setItem a b v)
   release [v,a,b] []):=by intro _;rfl):PG X (.Subscript o i pos) (Q6 c d t):=by
 intro A' s σ H v u Q I r h;rw[l];refine B1 (Uh (cR (D A' s σ H _ I h) λa p ⟨x,C,f,e,g⟩=>?_));refine B1 (Uh (cR (m A' p σ C _ f g) λb w ⟨y,j,A,n,q⟩=>?_));refine B1 (UM (B1 (Uh (cR (E A' w σ j x y v a b u _ A e n r q) λ_ F ⟨B,z,k⟩=>?_))));exact wpAny_release ⟨σ,B,z,k⟩
def lO(te:TE)(g:TG):TS:=λD σ H=>te σ H λx a=>g x σ a D.nx
def vg(m:PE X e te)(l:PG X tg g)(i:swapsWithSole [tg] e pos.line X.env=pure F':=by rfl)(o:swappedStores [tg] e X.env=pure Y:=by rfl)(r:(Vi [tg] X.env).map (·.2)=[assign tg X.env]:=by rfl):PS X (.Assign [tg] e pos) (lO te g):=by
 intro A' s σ H D I h;refine wpAny_Assign_stores (cR (m A' s σ H _ I h) λv p ⟨x,n,j,f,k⟩=>?_) i o;rw[r]
 exact cR (l A' p σ n x v _ j f k) λ_ t q=>by obtain⟨a,b,c,d⟩:=q;exact⟨a,b,c,d⟩
def zV(a:X.N.Nodup)(g:X.N[i]? =O x)(n:Loc X.env.scope x)(j:PE X e te)(m:VP e (O (.Name x pos')) pos.line X.env=pure F':=by rfl)(l:X.fn x=T'\/X.env.scope.names.lookup x=O .local:=by first|exact .inl U|exact .inr U|assumption):
  PS X (.Assign [.Name x pos'] e pos) (lO te (eY i)):=by
 intro A' s σ H D I h;refine wpAny_Assign_Name (cR (j A' s σ H _ I h) λv p ⟨y,k,c,b,d⟩=>?_) m;exact qG c a g n b (λo f=>⟨_,k,f,d⟩) l
def Mb(c:TT)(tb:TS):TS:=λD σ H=>∃W:M'->St->Hp->Prop,(∃m,W m σ H)/\∀m σ H,W m σ H->
 c σ H λb d=>if b=T' then∃N:St->Hp->Prop,(∀a H',N a H'->∃e,e<m/\W e a H')/\tb {D with nx:=N,ct:=N,bk:=D.nx} σ d else D.nx σ d
def xT(q:PassesOwn (Pp X.prog X.w) X.A X.env X.xe)(z:PT X c tc)(G:si X body tb):PS X (.While c body [] pos) (Mb tc tb):=by
 intro A' s σ H D I h;obtain⟨W,⟨B,E⟩,e⟩:=h;refine wpAny_While (codeAny_whileLoop (λn s'=>∃g H',Inv X A' g H' s'/\W n g H') ?_ B ⟨σ,H,I,E⟩);rintro n C ⟨d,x,y,w1⟩;refine Vb q (cR (z A' C d x _ y (e n d x w1)) λb F ⟨r,u,k⟩=>?_)
 cases b with
 |true=>
  obtain⟨N,t,k⟩:=k;rw[KF U];refine Vb q (cR (G A' F d r _ u k) λf J j=>?_)
  cases f with
  |next=>
   obtain⟨a,i,o,m⟩:=j;obtain⟨p,l,w3⟩:=t a i m;exact⟨p,l,a,i,o,w3⟩
  |cont=>
   obtain⟨a,i,o,m⟩:=j;obtain⟨p,l,w3⟩:=t a i m;exact⟨p,l,a,i,o,w3⟩
  |brk=>exact j
  |ret v=>exact j
 |false=>
  rw[GM Om];exact VG ⟨d,r,u,k⟩
structure It where
 go:M'->Hp->Prop
 yld:M'->Hp->V->Hp->Prop
 stop:M'->Hp->Prop
def km(X:Cx)(A':L (B4×Obj))(H:Hp)(b:B4):Prop:=
 H b=Y/\b≠X.env.locals/\b∉X.fs/\(b∈X.ex\/X.s₀.heap.objs.size<=b)/\(∀x c,X.env.cells.lookup x=O c->c≠b)/\∀p∈X.pn++A',p.1≠b
def Inv.oS(I:Inv X A' σ H s)(a:s.heap.objs.size<=b)(f:H' b=Y):km X A' H' b:=by
 refine⟨f,VW (SA I.lt a),I.Q4 a,.inr (Tf I.sz a),λx c e z=>?_,λp d z=>?_⟩
 ·obtain⟨v,q⟩:=I.cell x c e;exact KB (SA q.lt (by rw[z];exact a)) (TR _)
 ·exact KB (SA (Gc (I.pin p d).1) (by rw[z];exact a)) (TR _)
structure Turn(P:To)(w:TV)(K:B0)(tg:Expr)(J:It)(fp:L B4)(it:B4)(tn:M'->T9->Prop):Prop where
 mem:it∈fp
 obj:∀i h,tn i h->∀b∈fp,∃o,h.get? b=O o/\∀v,o.data≠ .cell v
 keep:∀i h h',tn i h->(∀b∈fp,∀o,h.get? b=O o->h'.get? b=O o)->tn i h'
 item:∀(X:Cx),X.prog=P->X.w=w->X.K=K->X.calm=T'->∀(i:M')(A':L (B4×Obj))(s:FM)(σ:St)(H:Hp)(E:B5->FM->Prop),Inv X A' σ H s->(∀b∈fp,km X A' H b)->tn i s.heap->J.go i H->
  Ki (Pp P w) X.A (pyNext (.ref it)) (λr s1=>∃u,r=O u/\
   Ki (Pp P w) X.A (Xc tg (.ref it) u) (λ_ s2=>∃x H',Inv X A' σ H' s2/\RelV x u/\J.yld i H x H'/\tn (i+1) s2.heap/\∀b∈fp,H' b=Y) E s1) E s
 done:∀(X:Cx),X.prog=P->X.w=w->X.K=K->X.calm=T'->∀(i:M')(A':L (B4×Obj))(s:FM)(σ:St)(H:Hp)(E:B5->FM->Prop),Inv X A' σ H s->(∀b∈fp,km X A' H b)->tn i s.heap->J.stop i H->
  Ki (Pp P w) X.A (pyNext (.ref it)) (λr s1=>r=Y/\Inv X A' σ H s1) E s
 self:∀(A:UU)(i:M')(s:FM)(Q:B5->FM->Prop)(E:B5->FM->Prop),tn i s.heap->Q (.ref it) s->Ki (Pp P w) A (pyIter (.ref it)) Q E s
abbrev TI:=St->Hp->(It->Hp->Prop)->Prop
inductive RT(X:Cx)(A':L (B4×Obj))(σ:St)(tg:Expr)(R:It->Hp->Prop)(itv:B5)(s2:FM):Prop
 |mk (it:B4) (fp:L B4) (tn:M'->T9->Prop) (J:It) (H':Hp) (c0:itv= .ref it) (c1:Inv X A' σ H' s2) (c2:Turn X.prog X.w X.K tg J fp it tn) (c3:tn 0 s2.heap) (c4:∀b∈fp,km X A' H' b) (c5:R J H')
def PI(X:Cx)(tg a:Expr)(b:TI):Prop:=
 ∀(A':L (B4×Obj))(s:FM)(σ:St)(H:Hp)(R:It->Hp->Prop),Inv X A' σ H s->b σ H R->
  Ki (Pp X.prog X.w) X.A (eval a X.env) (λv c=>Ki (Pp X.prog X.w) X.A (pyIter v) (RT X A' σ tg R) X.xe c) X.xe s
def wg{o:Obj}{n:UP}{vs:Us B5}{Q:aav->FM->Prop}(c:s.heap.get? it=O o)(b:o.cls= .type n)(e:o.data= .fields vs)(d:["enumerate","zip","dict_itemiterator","dict_reverseitemiterator","odict_iterator","itertools.zip_longest","itertools.pairwise"].contains n=F')(a:Q () s):Ki M A (Xc tg (.ref it) u) Q E s:=by
 unfold Xc
 cases tg<;>first
  |exact GE a
  |(cases u<;>first
    |exact GE a
    | (refine B1 (wpAny_load c ?_)
       rw[b,e];show Ki M A (if(["enumerate","zip","dict_itemiterator","dict_reverseitemiterator","odict_iterator","itertools.zip_longest","itertools.pairwise"].contains n&&vs[0]? ==O (Xo _))=T' then _ else _) Q E s;rw[GM (by intro h;rw[d,Bool.false_and]at h;cases h)]
       exact GE a))
noncomputable def MU(K:B0)(a:B4):It:=
 ⟨λi H=>∃xs x,bu K H a xs/\xs[i]? =O x,λi H x H'=>H'=H/\∀xs,bu K H a xs->xs[i]? =O x,λi H=>∃xs,bu K H a xs/\xs.length<=i⟩
noncomputable def L7(K:B0)(a:B4):It:=
 ⟨λi H=>∃xs x,bq K H a xs/\xs[i]? =O x,λi H x H'=>H'=H/\∀xs,bq K H a xs->xs[i]? =O x,λi H=>∃xs,bq K H a xs/\xs.length<=i⟩
noncomputable def IF(lo:J')(n:M'):It:=⟨λi _=>i<n,λi H x H'=>H'=H/\x= .int (lo+i),λi _=>n<=i⟩
theorem DM(a it:B4):Turn P w K tg (MU K a) [it] it (λi h=>h.IsListIter it a i) where
 mem:=by simp
 obj:=λi h f b g=>by
  have e:b=it:=by simpa using g
  subst e;obtain⟨o,e,c,d⟩:=f;exact⟨o,e,λv z=>by rw[d]at z;cases z⟩
 keep:=λi h h' f k=>f.at λo e=>k it (by simp) o e
 item:=by
  intro X D t n J i A' s σ H E I l f C;subst D t n;obtain⟨xs,x,m,G⟩:=C;obtain⟨y,A,p,V⟩:=I.list m;obtain⟨u,T,R⟩:=A.get G;obtain⟨B,f1,f2,q,r,F⟩:=l it (by simp);refine wpAny_pyNext_list_item f p.isList (x:=u) (by simpa using T) λh' j N=>?_;have M:Inv X A' σ H {s with heap:=h'}:=I.turned (t':=s.toks) (λb o g e=>(N.2 b g).trans e) B f1 q r F;obtain⟨o,e,c,d⟩:=id j;exact⟨u,U,wg (s:={s with heap:=h'}) e c d (by decide) ⟨x,H,M,R,⟨U,λW S=>by rw[I.mD S m];exact G⟩,j,λb g=>(l b g).1⟩⟩
 done:=by
  intro X D t n J i A' s σ H E I l f C;subst D t n;obtain⟨xs,m,G⟩:=C;obtain⟨y,A,p,V⟩:=I.list m;obtain⟨B,f1,f2,q,r,F⟩:=l it (by simp);have hl:=A.length;exact wpAny_pyNext_list_end (I.ok.hd J) f p.isList (by simp;lia) λh' Q=>⟨U,I.turned (t':=s.toks) (λb o g e=>Q b o g e) B f1 q r F⟩
 self:=λ_ _ _ _ _ f h=>wpAny_pyIter_listiter f h
theorem zD(a it:B4):Turn P w K tg (L7 K a) [it] it (λi h=>h.IsTupleIter it a i) where
 mem:=by simp
 obj:=λi h f b j=>by
  have e:b=it:=by simpa using j
  subst e;obtain⟨o,e,c,d⟩:=f;exact⟨o,e,λv z=>by rw[d]at z;cases z⟩
 keep:=λi h h' f k=>f.at λo e=>k it (by simp) o e
 item:=by
  intro X D y q J i A' s σ H E I m f C;subst D y q;obtain⟨xs,x,n,G⟩:=C;obtain⟨g,A,p,V⟩:=I.tuple n;obtain⟨u,T,R⟩:=A.get G;obtain⟨B,f1,f2,r,t,F⟩:=m it (by simp);refine wpAny_pyNext_tuple_item f (show s.heap.IsTuple a g.toArray from p) (x:=u) (by simpa using T) λh' l N=>?_;have M:Inv X A' σ H {s with heap:=h'}:=I.turned (t':=s.toks) (λb o j e=>(N.2 b j).trans e) B f1 r t F;obtain⟨o,e,c,d⟩:=id l;exact⟨u,U,wg (s:={s with heap:=h'}) e c d (by decide) ⟨x,H,M,R,⟨U,λW S=>by rw[I.tO S n];exact G⟩,l,λb j=>(m b j).1⟩⟩
 done:=by
  intro X D y q J i A' s σ H E I m f C;subst D y q;obtain⟨xs,n,G⟩:=C;obtain⟨g,A,p,V⟩:=I.tuple n;obtain⟨B,f1,f2,r,t,F⟩:=m it (by simp);have hl:=A.length;exact wpAny_pyNext_tuple_end (I.ok.hd J) f (show s.heap.IsTuple a g.toArray from p) (by simp;lia) λh' Q=>⟨U,I.turned (t':=s.toks) (λb o j e=>Q b o j e) B f1 r t F⟩
 self:=λ_ _ _ _ _ f h=>wpAny_pyIter_tupleiter f h
theorem zl(it:B4)(lo:J')(n:M'):Turn P w K tg (IF lo n) [it] it (λi h=>IsRangeIter h it (lo+(i:M')*1) ((n:J')-(i:M')) 1) where
 mem:=by simp
 obj:=λi h a b c=>by
  have e:b=it:=by simpa using c
  subst e
  exact⟨_,a,λv z=>by
   have F:Data.fields _=Data.cell v:=z
   cases F⟩
 keep:=λi h h' a k=>k it (by simp) _ a
 item:=by
  intro X u p g m i A' s σ H E I f a r;subst u p g;obtain⟨q,f1,f2,j,l,x⟩:=f it (by simp);have W:=Walks.range (prog:=X.prog) (w:=X.w) (I.ok.hd m) it lo 1 n;refine W.item i s _ _ r a λv h' y D d C=>?_;obtain⟨t,rfl⟩:=D;have A:Inv X A' σ H {s with heap:=h',toks:=y}:=I.turned (λb o c e=>C b o (by simpa using c) e) q f1 j l x;refine⟨_,U,wg (s:={s with heap:=h',toks:=y}) (n:="range_iterator") d U U (by decide) ⟨.int (lo+i),H,A,⟨t,?_⟩,⟨U,U⟩,d,λb c=>(f b c).1⟩⟩;rw[Int.mul_one]
 done:=by
  intro X u p g m i A' s σ H E I f a r;subst u p g;obtain⟨q,f1,f2,j,l,x⟩:=f it (by simp);exact wpAny_pyNext_range_end (I.ok.hd m) a (by have :n<=i:=r;lia) λh' B=>⟨U,I.turned (t':=s.toks) (λb o c e=>B b o c e) q f1 j l x⟩
 self:=λ_ _ _ _ _ a h=>wpAny_pyIter_rangeiter a h
inductive Nn(K:B0)(R:It->Hp->Prop)(x:V)(H1:Hp):Prop
 |mk (a:_) (c0:x= .ref a) (c1:(∃xs,bu K H1 a xs)) (c2:R (MU K a) H1)
def Bk(K:B0)(tl:TE):TI:=λσ H R=>tl σ H λx a=>Nn K R x a
inductive OF(K:B0)(R:It->Hp->Prop)(x:V)(H1:Hp):Prop
 |mk (a:_) (c0:x= .ref a) (c1:(∃xs,bq K H1 a xs)) (c2:R (L7 K a) H1)
def Mo(K:B0)(tl:TE):TI:=λσ H R=>tl σ H λx a=>OF K R x a
def ff{tl:TE}(f:PE X l tl):PI X tg l (Bk X.K tl):=by
 intro A' s σ H R I h;refine cR (f A' s σ H _ I h) λv d ⟨x,m,c,g,j⟩=>?_;obtain⟨a,e,⟨xs,n⟩,q⟩:=j;subst e
 cases g
 obtain⟨i,r,p,t⟩:=c.list n;refine aa8 p.isList ?_;refine⟨d.heap.objs.size,[d.heap.objs.size],_,_,m,U,c.kept (t':=d.toks) λb o e=>B7 _ e,DM a _,⟨_,Ss _ U,U,U⟩,λb k=>?_,q⟩
 have e:b=d.heap.objs.size:=by simpa using k
 subst e;exact c.oS (B9 _) (c.hok.fresh (B9 _))
def gT{tl:TE}(g:PE X l tl):PI X tg l (Mo X.K tl):=by
 intro A' s σ H R I h;refine cR (g A' s σ H _ I h) λv c ⟨x,m,d,i,j⟩=>?_;obtain⟨a,e,⟨xs,n⟩,q⟩:=j;subst e
 cases i
 obtain⟨f,r,p,t⟩:=d.tuple n;refine XT (show c.heap.IsTuple a f.toArray from p) ?_;refine⟨c.heap.objs.size,[c.heap.objs.size],_,_,m,U,d.kept (t':=c.toks) λb o e=>B7 _ e,zD a _,⟨_,Ss _ U,U,U⟩,λb k=>?_,q⟩
 have e:b=c.heap.objs.size:=by simpa using k
 subst e;exact d.oS (B9 _) (d.hok.fresh (B9 _))
theorem xC{R:It->Hp->Prop}{a:J'}{t u v:Tok}{d:M'}(I:Inv X A' σ H s)(f: -(2^62)<=lo)(i:lo<2^62)(h: -(2^62)<=a)(k:a<2^62)(q:R (IF lo (a-lo).toNat) H):Ki (Pp X.prog X.w) X.A (pyIter (.ref s.heap.objs.size)) (RT X A' σ tg R) E {s with heap:=s.heap.push {cls:= .type "range",data:= .fields #[.int lo t,.int a u,.int 1 v]},toks:=d}:=by
 refine wpAny_pyIter_range (IsRange.new ..) (small_one f i h k) ?_;have c:Inv X A' σ H {s with heap:=s.heap.push {cls:= .type "range",data:= .fields #[.int lo t,.int a u,.int 1 v]},toks:=d}:=I.kept λb o e=>B7 _ e
 refine⟨(s.heap.push {cls:= .type "range",data:= .fields #[.int lo t,.int a u,.int 1 v]}).objs.size,[(s.heap.push {cls:= .type "range",data:= .fields #[.int lo t,.int a u,.int 1 v]}).objs.size],_,_,H,U,
  c.kept (t':=d) λb o e=>B7 _ e,zl _ lo (a-lo).toNat,?_,λb l=>?_,q⟩
 ·have j:lo+((0:M'):J')*1=lo:=by simp
  have g:(((a-lo).toNat:M'):J')-((0:M'):J')=Builtin.Range.rangeSize lo a 1:=by rw[rangeSize_one];split<;>lia
  show IsRangeIter _ _ (lo+((0:M'):J')*1) ((((a-lo).toNat:M'):J')-((0:M'):J')) 1;rw[j,g];exact Ss _ U
 ·have e:b=(s.heap.push {cls:= .type "range",data:= .fields #[.int lo t,.int a u,.int 1 v]}).objs.size:=by simpa using l
  subst e;exact c.oS (B9 _) (c.hok.fresh (B9 _))
inductive Nm(R:It->Hp->Prop)(vs:L V)(H1:Hp):Prop
 |mk (j:J') (c0:vs=[.int j]) (c1: -(2^62)<=j) (c2:j<2^62) (c3:R (IF 0 j.toNat) H1)
def P_(ta:TA):TI:=λσ H R=>ta σ H λvs a=>Nm R vs a
def Ql(ta:TA):TI:=λσ H R=>ta σ H λvs a=>∃i j:J',vs=[.int i,.int j]/\(-(2^62)<=i/\i<2^62/\ -(2^62)<=j/\j<2^62)/\R (IF i (j-i).toNat) a
theorem cW{a:Expr}{ta:TA}(g:Gl X "range")(f:X.mg "range"=Y)(i:PA X [a] ta)(m:P3 [a] X.env=[(F',eval a X.env)]:=by rfl):PI X tg (.Call (.Name "range" p) [a] [] pos) (P_ ta):=by
 intro A' s σ H R I h;refine aaB (ip I g f boot_range (TL (cR (i pos A' s σ H _ I h) λus o ⟨vs,n,d,c,b⟩=>?_) m U));obtain⟨j,e,b,l,q⟩:=b;subst e
 cases c with
 |cons r k=>
  cases k
  obtain⟨t,rfl⟩:=r;exact call_range_1 (xC d (by lia) (by lia) b l (by simpa using q))
def ue{a b:Expr}{ta:TA}(u:Gl X "range")(m:X.mg "range"=Y)(v:PA X [a,b] ta)(x:P3 [a,b] X.env=[(F',eval a X.env),(F',eval b X.env)]:=by rfl)(c:P3 [b] X.env=[(F',eval b X.env)]:=by rfl):
  PI X tg (.Call (.Name "range" p) [a,b] [] pos) (Ql ta):=by
 intro A' s σ H R I h;refine aaB (ip I u m boot_range (TL (cR (v pos A' s σ H _ I h) λus z ⟨vs,y,l,g,d⟩=>?_) (by rw[x,c]) (by rw[c];rfl)));obtain⟨i,j,e,⟨d,w,n,k⟩,q⟩:=d;subst e
 cases g with
 |cons r f=>
  cases f with
  |cons o f=>
   cases f
   obtain⟨t,rfl⟩:=r;obtain⟨t',rfl⟩:=o;exact call_range_2 (xC l d w n k q)
def Oz(e:TI)(g:TG)(tb:TS):TS:=λD σ H=>e σ H λJ d=>∃W:M'->M'->St->Hp->Prop,(∃m,W 0 m σ d)/\∀i m σ H,W i m σ H->
 (J.stop i H/\D.nx σ H)\/(J.go i H/\∃N:St->Hp->Prop,(∀a H',N a H'->∃c,c<m/\W (i+1) c a H')/\∀x H',J.yld i H x H'->g x σ H' λb f=>tb {D with nx:=N,ct:=N,bk:=D.nx} b f)
noncomputable def qe(fp:L B4)(h:T9):L (B4×Obj):=fp.filterMap λb=>(h.get? b).map λo=>(b,o)
def lL{o:Obj}(a:b∈fp)(e:h.get? b=O o):(b,o)∈qe fp h:=WO.mpr ⟨b,a,by rw[e];rfl⟩
def Ck{p:B4×Obj}(a:p∈qe fp h):p.1∈fp/\h.get? p.1=O p.2:=by
 obtain⟨b,d,e⟩:=List.mem_filterMap.mp a
 cases q:h.get? b with
 |none=>rw[q]at e;cases e
 |some o=>
  rw[q]at e;have c:(b,o)=p:=SV e;subst c;exact⟨d,q⟩
def Inv.pinned(I:Inv X A' σ H s)(i:∀b∈fp,km X A' H b)(h:∀b∈fp,∃o,s.heap.get? b=O o/\∀v,o.data≠ .cell v):Inv X (A'++qe fp s.heap) σ H s:=
 I.BU λp f=>(Os.mp f).elim (λz=>I.pin p (TF _ z)) λz=>by
  obtain⟨c,e⟩:=Ck z;obtain⟨g,f1,f2,_⟩:=i p.1 c;obtain⟨o,a,d⟩:=h p.1 c;rw[e]at a;cases a;exact⟨e,g,f1,f2,d⟩
def Inv.lS{a:L (B4×Obj)}(I:Inv X (A'++a) σ H s):Inv X A' σ H s:=I.BU λp b=>I.pin p (TF _ (Ul _ b))
def dq{y:Expr}{wi:TI}(C:PassesOwn (Pp X.prog X.w) X.A X.env X.xe)(hc:X.calm=T')(hi:PI X tg y wi)(hg:PG X tg g)(p:si X body tb)(hs:∀x,UC y X.env x=pure x:=by intro _;rfl):PS X (.For tg y body [] pos) (Oz wi g tb):=by
 intro A' s σ H D I h;refine wpAny_For (cR (hi A' s σ H _ I h) λv s1 h1=>cR h1 λa1 s2 h2=>?_) hs;obtain⟨it,fp,tn,J,H2,e,I2,T,R,f2,W,⟨m0,w0⟩,E⟩:=h2;subst e;have t:∀{H':Hp},(∀b∈fp,H' b=Y)->∀b∈fp,km X A' H' b:=λhn b p=>⟨hn b p,(f2 b p).2⟩;refine codeAny_forLoop_any (λn s'=>∃i c H',Inv X A' c H' s'/\tn i s'.heap/\(∀b∈fp,H' b=Y)/\W i n c H') ?_ m0 ⟨0,σ,H2,I2,R,λb p=>(f2 b p).1,w0⟩;rintro n s3 ⟨i,l,P,I3,F,M,w3⟩
 rcases E i n l P w3 with⟨G,qn⟩|⟨go,N,hN,step⟩
 ·refine Vb C (cR (T.done X U U U hc i A' s3 l P X.xe I3 (t M) F G) λr s4 ⟨hr,I4⟩=>?_);subst hr;exact VG ⟨l,P,I4,qn⟩
 ·refine Vb C (cR (T.item X U U U hc i A' s3 l P X.xe I3 (t M) F go) λr s4 ⟨u,hr,h4⟩=>?_);subst hr;refine Vb C (cR h4 λ_ s5 ⟨x,H5,I5,r5,y5,B,a0⟩=>?_);have V:=I5.pinned (t a0) (T.obj _ _ B);refine Vb C (cR (hg _ s5 l H5 x u _ V r5 (step x H5 y5)) λ_ s6 ⟨Q,H6,I6,q6⟩=>?_);refine Vb C (cR (p _ s6 Q H6 _ I6 q6) λf S z=>?_)
  have j:∀{a:St}{q:Hp},Inv X (A'++qe fp s5.heap) a q S->N a q->∃m,m<n/\∃i c H',Inv X A' c H' S/\tn i S.heap/\(∀b∈fp,H' b=Y)/\W i m c H':=λ{a q} k K=>by
   obtain⟨m',hm,w7⟩:=hN a q K;refine⟨m',hm,i+1,a,q,k.lS,T.keep _ _ _ B λb p o e=>(k.pin (b,o) (TF _ (TF _ (lL p e)))).1,λb p=>?_,w7⟩;obtain⟨o,e,d⟩:=T.obj _ _ B b p;exact(k.pin (b,o) (TF _ (TF _ (lL p e)))).2.1
  cases f with
  |next=>obtain⟨a,q,k,K⟩:=z;exact j k K
  |cont=>obtain⟨a,q,k,K⟩:=z;exact j k K
  |brk=>obtain⟨a,q,k,z⟩:=z;exact⟨a,q,k.lS,z⟩
  |ret v=>obtain⟨x7,a,q,k,r7,z⟩:=z;exact⟨x7,a,q,k.lS,r7,z⟩
theorem mV{D:Ends}(b:M'->St->Hp->Prop)(s:b 0 σ H)(k:∀i σ H,i<=xs.length->b i σ H->bu K H a xs)(l:∀i x σ H,xs[i]? =O x->b i σ H->g x σ H λd h=>tb {D with nx:=b (i+1),ct:=b (i+1),bk:=D.nx} d h)(n:∀σ H,b xs.length σ H->D.nx σ H):
  ∃W:M'->M'->St->Hp->Prop,(∃m,W 0 m σ H)/\∀i m σ H,W i m σ H->
   ((MU K a).stop i H/\D.nx σ H)\/((MU K a).go i H/\∃N:St->Hp->Prop,(∀c H',N c H'->∃j,j<m/\W (i+1) j c H')/\∀x H',(MU K a).yld i H x H'->g x σ H' λd h=>tb {D with nx:=N,ct:=N,bk:=D.nx} d h):=by
 refine⟨λi m σ H=>m=xs.length-i/\i<=xs.length/\b i σ H,⟨xs.length,by simp,Sm _,s⟩,?_⟩;rintro i m σ H ⟨rfl,r,p⟩;have q:=k i σ H r p;by_cases f:i<xs.length
 ·refine .inr ⟨⟨xs,xs[i],q,by simp[f]⟩,b (i+1),λc H' o=>⟨xs.length-(i+1),by lia,U,f,o⟩,λx H' y=>?_⟩;obtain⟨e,y⟩:=y;subst e;exact l i x σ _ (y xs q) p
 ·have e:i=xs.length:=by lia
  subst e;exact .inl ⟨⟨xs,q,B9 _⟩,n σ H p⟩
theorem Lc{D:Ends}(b:M'->St->Hp->Prop)(s:b 0 σ H)(k:∀i σ H,i<=xs.length->b i σ H->bq K H a xs)(l:∀i x σ H,xs[i]? =O x->b i σ H->g x σ H λd h=>tb {D with nx:=b (i+1),ct:=b (i+1),bk:=D.nx} d h)(n:∀σ H,b xs.length σ H->D.nx σ H):
  ∃W:M'->M'->St->Hp->Prop,(∃m,W 0 m σ H)/\∀i m σ H,W i m σ H->
   ((L7 K a).stop i H/\D.nx σ H)\/((L7 K a).go i H/\∃N:St->Hp->Prop,(∀c H',N c H'->∃j,j<m/\W (i+1) j c H')/\∀x H',(L7 K a).yld i H x H'->g x σ H' λd h=>tb {D with nx:=N,ct:=N,bk:=D.nx} d h):=by
 refine⟨λi m σ H=>m=xs.length-i/\i<=xs.length/\b i σ H,⟨xs.length,by simp,Sm _,s⟩,?_⟩;rintro i m σ H ⟨rfl,r,p⟩;have q:=k i σ H r p;by_cases f:i<xs.length
 ·refine .inr ⟨⟨xs,xs[i],q,by simp[f]⟩,b (i+1),λc H' o=>⟨xs.length-(i+1),by lia,U,f,o⟩,λx H' y=>?_⟩;obtain⟨e,y⟩:=y;subst e;exact l i x σ _ (y xs q) p
 ·have e:i=xs.length:=by lia
  subst e;exact .inl ⟨⟨xs,q,B9 _⟩,n σ H p⟩
theorem di{D:Ends}(a:M'->St->Hp->Prop)(o:a 0 σ H)(j:∀i σ H,i<n->a i σ H->g (.int (lo+i)) σ H λd f=>tb {D with nx:=a (i+1),ct:=a (i+1),bk:=D.nx} d f)(k:∀σ H,a n σ H->D.nx σ H):
  ∃W:M'->M'->St->Hp->Prop,(∃m,W 0 m σ H)/\∀i m σ H,W i m σ H->
   ((IF lo n).stop i H/\D.nx σ H)\/((IF lo n).go i H/\∃N:St->Hp->Prop,(∀c H',N c H'->∃h,h<m/\W (i+1) h c H')/\∀x H',(IF lo n).yld i H x H'->g x σ H' λd f=>tb {D with nx:=N,ct:=N,bk:=D.nx} d f):=by
 refine⟨λi m σ H=>m=n-i/\i<=n/\a i σ H,⟨n,by simp,Sm _,o⟩,?_⟩;rintro i m σ H ⟨rfl,q,p⟩;by_cases b:i<n
 ·refine .inr ⟨b,a (i+1),λc H' l=>⟨n-(i+1),by lia,U,b,l⟩,λx H' y=>?_⟩;obtain⟨e,y⟩:=y;subst e y;exact j i σ _ b p
 ·have e:i=n:=by lia
  subst e;exact .inl ⟨B9 _,k σ H p⟩
abbrev R2:=V->V->Hp->VK->Prop
def je(X:Cx)(f:B5->B5->Sem B5)(r:R2):Prop:=
 ∀(A':L (B4×Obj))(s:FM)(σ:St)(H:Hp)(x y:V)(v u:B5)(Q:VK),Inv X A' σ H s->RelV x v->RelV y u->r x y H Q->
  Ki (Pp X.prog X.w) X.A (f v u) (EP X A' σ Q) X.xe s
def Q0(X:Cx)(f:B5->Sem B5)(r:V->Hp->VK->Prop):Prop:=
 ∀(A':L (B4×Obj))(s:FM)(σ:St)(H:Hp)(x:V)(v:B5)(Q:VK),Inv X A' σ H s->RelV x v->r x H Q->
  Ki (Pp X.prog X.w) X.A (f v) (EP X A' σ Q) X.xe s
def e_(X:Cx)(f:B5)(r:L V->Hp->VK->Prop):Prop:=
 ∀(A':L (B4×Obj))(s:FM)(σ:St)(H:Hp)(xs:L V)(us:L B5)(Q:VK),Inv X A' σ H s->Vals xs us->r xs H Q->
  Ki (Pp X.prog X.w) X.A (call f us) (EP X A' σ Q) X.xe s
def ix(r:R2)(ta tb:TE):TE:=λσ H Q=>ta σ H λx a=>tb σ a λy b=>r x y b Q
def RS(r:V->Hp->VK->Prop)(ta:TE):TE:=λσ H Q=>ta σ H λx a=>r x a Q
inductive Si(C:J'->J'->Prop)(g:J'->J'->V)(x:V)(y:V)(H:Hp)(Q:VK):Prop
 |mk (i:_) (j:_) (c0:x= .int i) (c1:y= .int j) (c2:C i j) (c3:Q (g i j) H)
def rI(C:J'->J'->Prop)(g:J'->J'->V):R2:=λx y H Q=>Si C g x y H Q
inductive RC(g:J'->J'->V)(x:V)(y:V)(H:Hp)(Q:VK):Prop
 |mk (i:_) (j:_) (c0:x= .int i) (c1:y= .int j) (c2:Q (g i j) H)
def wc(g:J'->J'->V):R2:=λx y H Q=>RC g x y H Q
inductive R5(g:J'->V)(x:V)(H:Hp)(Q:VK):Prop
 |mk (i:_) (c0:x= .int i) (c1:Q (g i) H)
def rU(g:J'->V):V->Hp->VK->Prop:=λx H Q=>R5 g x H Q
variable{r r':R2}
section
variable{a b:Expr}{tb tc:TE}
def MG(t:PE X a ta)(r:PE X b tb){R:V->V->Hp->Prop}(I:Inv X A' σ H s)(h:ta σ H λx i=>tb σ i λy c=>R x y c){f:B5->B5->Sem B5}(q:∀v u g x y c,Inv X A' σ c g->RelV x v->RelV y u->R x y c->Ki (Pp X.prog X.w) X.A (f v u) Q X.xe g):
  Ki (Pp X.prog X.w) X.A (eval a X.env) (λv e=>Ki (Pp X.prog X.w) X.A (eval b X.env) (λu d=>Ki (Pp X.prog X.w) X.A (f v u) Q X.xe d) X.xe e) X.xe s:=by
 refine cR (t A' s σ H _ I h) λv p ⟨x,i,k,j,l⟩=>?_;refine cR (r A' p σ i _ k l) λu g ⟨y,c,m,n,o⟩=>?_;exact q v u g x y c m j n o
def aE{op:Operator}(i:je X (binaryOp op) r)(f:PE X a ta)(k:PE X b tb):PE X (.BinOp a op b pos) (ix r ta tb):=by
 intro A' s σ H Q I h;exact wpAny_BinOp (MG f k I h λv u d x y e g j c q=>i A' d σ e x y v u Q g j c q)
def OK{op:UnaryOp}{r:V->Hp->VK->Prop}(i:Q0 X (unaryOp op) r)(b:PE X a ta):PE X (.UnaryOp op a pos) (RS r ta):=by
 intro A' s σ H Q I h;exact UnaryOp_ (cR (b A' s σ H _ I h) λv g ⟨x,e,d,c,f⟩=>i A' g σ e x v Q d c f)
def OL{f:B5->B5->Sem B5}{C:J'->J'->Prop}{g:J'->J'->J'}(a:∀(i j:J')(t u:Tok)(s:FM)(Q:B5->FM->Prop)(E:B5->FM->Prop),C i j->Q (.int (g i j) s.toks) {s with toks:=s.toks+1}->Ki (Pp X.prog X.w) X.A (f (.int i t) (.int j u)) Q E s):
  je X f (rI C λi j=> .int (g i j)):=by
 intro A' s σ H x y v u Q I d b h;obtain⟨i,j,rfl,rfl,c,q⟩:=h;obtain⟨t,rfl⟩:=d;obtain⟨t',rfl⟩:=b;exact a i j t t' s _ _ c ⟨.int (g i j),H,I.tok _,⟨_,U⟩,q⟩
def PM{f:B5->B5->Sem B5}{g:J'->J'->J'}(a:∀(i j:J')(t u:Tok)(s:FM)(Q:B5->FM->Prop)(E:B5->FM->Prop),Q (.int (g i j) s.toks) {s with toks:=s.toks+1}->Ki (Pp X.prog X.w) X.A (f (.int i t) (.int j u)) Q E s):
  je X f (wc λi j=> .int (g i j)):=by
 intro A' s σ H x y v u Q I c b h;obtain⟨i,j,rfl,rfl,q⟩:=h;obtain⟨t,rfl⟩:=c;obtain⟨t',rfl⟩:=b;exact a i j t t' s _ _ ⟨.int (g i j),H,I.tok _,⟨_,U⟩,q⟩
def K_{f:B5->B5->Sem B5}{g:J'->J'->Tq}(a:∀(i j:J')(t u:Tok)(s:FM)(Q:B5->FM->Prop)(E:B5->FM->Prop),Q (.bool (g i j)) s->Ki (Pp X.prog X.w) X.A (f (.int i t) (.int j u)) Q E s):
  je X f (wc λi j=> .bl (g i j)):=by
 intro A' s σ H x y v u Q I c b h;obtain⟨i,j,rfl,rfl,q⟩:=h;obtain⟨t,rfl⟩:=c;obtain⟨t',rfl⟩:=b;exact a i j t t' s _ _ ⟨.bl (g i j),H,I,U,q⟩
def Rg(i j:J'):Prop:=0<j/\j<1073741824
def Ng(i j:J'):Prop:=0<=j/\j<=1000000/\i.natAbs<2^64
def Fl(i j:J'):Prop:=(-(2^64)<i/\i<2^64)\/(-(2^64)<j/\j<2^64)
def Fl.ok{i j:J'}(h:Fl i j):IntMulOk i j:=by
 rcases h with⟨b,a⟩|⟨b,a⟩
 ·exact .of_left (intBits_le_64 b a)
 ·exact .of_right (intBits_le_64 b a)
def bS:je X (binaryOp .Add) (wc λi j=> .int (i+j)):=PM λ_ _ _ _ _ _ _ q=>add_int q
def gv:je X (binaryOp .Sub) (wc λi j=> .int (i-j)):=PM λ_ _ _ _ _ _ _ q=>sub_int q
def qK:je X (binaryOp .Mult) (rI Fl λi j=> .int (i*j)):=OL λ_ _ _ _ _ _ _ a q=>mul_int q a.ok
theorem vW:je X (binaryOp .FloorDiv) (rI Rg λi j=> .int (i/j)):=OL λi j _ _ _ _ _ a q=>by
 have c:(0:J')<j:=a.1;have b:j<1073741824:=a.2;exact floordiv_int (by lia) (by rw[Y7 i (by lia)];exact q) (.inl (PyProof.noPylong_small (by lia)))
theorem jB:je X (binaryOp .Mod) (rI (λ_ j=>0<j) λi j=> .int (i%j)):=OL λi j _ _ _ _ _ a q=>by
 have b:(0:J')<j:=a;exact mod_int' (by lia) (by rw[Int.fmod_eq_emod_of_nonneg i (by lia)];exact q)
def lI:je X (binaryOp .Pow) (rI Ng λi j=> .int (i^j.toNat)):=OL λ_ _ _ _ _ _ _ a q=>pow_int_small a.1 a.2.1 a.2.2 q
def R3{f:B5->Sem B5}{g:J'->J'}(a:∀(i:J')(t:Tok)(s:FM)(Q:B5->FM->Prop)(E:B5->FM->Prop),Q (.int (g i) s.toks) {s with toks:=s.toks+1}->Ki (Pp X.prog X.w) X.A (f (.int i t)) Q E s):
  Q0 X f (rU λi=> .int (g i)):=by
 intro A' s σ H x v Q I b h;obtain⟨i,rfl,q⟩:=h;obtain⟨t,rfl⟩:=b;exact a i t s _ _ ⟨.int (g i),H,I.tok _,⟨_,U⟩,q⟩
def Ms:Q0 X (unaryOp .USub) (rU λi=> .int (-i)):=R3 λ_ _ _ _ _ q=>neg_int q
end
noncomputable def J0:V->V->Tq
 | .non,.non=>T'| .non,.int _=>T'| .int _,.non=>T'| .non,.bl _=>T'| .bl _,.non=>T'| .non,.str _=>T'| .str _,.non=>T'
 | .int _,.int _=>T'| .bl _,.bl _=>T'| .str _,.str _=>T'| .byt _,.byt _=>T'
 | .int _,.str _=>T'| .str _,.int _=>T'| .bl _,.str _=>T'| .str _,.bl _=>T'
 |_,_=>F'
inductive RB(x:V)(y:V)(H:Hp)(Q:VK):Prop
 |mk (c0:J0 x y=T') (c1:Q (.bl (decide (x=y))) H)
def Qn:R2:=λx y H Q=>RB x y H Q
inductive Q7(x:V)(y:V)(H:Hp)(Q:VK):Prop
 |mk (c0:J0 x y=T') (c1:Q (.bl (!decide (x=y))) H)
def Oc:R2:=λx y H Q=>Q7 x y H Q
def BN{i j:J'}:decide (V.int i=V.int j)=(i==j):=by
 rw[Uu];simp
def F6{i j:Tq}:decide (V.bl i=V.bl j)=(i==j):=by
 rw[Uu];simp
def BX{i j:Z}:decide (V.str i=V.str j)=(i==j):=by
 rw[Uu];simp
def BO{i j:Us UInt8}:decide (V.byt i=V.byt j)=(i.toList==j.toList):=by
 rw[Uu]
 cases i
 cases j
 simp
section
variable{a b:Expr}{tb tc:TE}
def bZ{Q:VK}{k a:Tq}(I:Inv X A' σ H s)(q:Q (.bl k) H)(e:k=a):EP X A' σ Q (.bool a) s:=by
 subst e;exact⟨.bl k,H,I,U,q⟩
def lT:je X (compareOp .Eq) Qn:=by
 intro A' s σ H x y v u Q I c a h;obtain⟨b,q⟩:=h
 cases x with
 |non=>
  cases c
  cases y with
  |non=>cases a;exact PySem.EqNone.eq_none_none (bZ I q (by simp))
  |bl j=>cases a;exact PySem.EqNone.eq_none_bool (bZ I q (by simp))
  |int j=>obtain⟨t',rfl⟩:=a;exact PySem.EqNone.eq_none_int (bZ I q (by simp))
  |str j=>obtain⟨t',rfl⟩:=a;exact PySem.EqNone.eq_none_str (bZ I q (by simp))
  |_=>exact KB (show F'=T' from b) Om
 |bl i=>
  cases c
  cases y with
  |non=>cases a;exact PySem.EqNone.eq_bool_none (bZ I q (by simp))
  |bl j=>cases a;exact eq_bool (bZ I q F6)
  |str j=>obtain⟨t',rfl⟩:=a;exact PySem.EqMixed.eq_bool_str (bZ I q (by simp))
  |_=>exact KB (show F'=T' from b) Om
 |int i=>
  obtain⟨t,rfl⟩:=c
  cases y with
  |non=>cases a;exact PySem.EqNone.eq_int_none (bZ I q (by simp))
  |int j=>obtain⟨t',rfl⟩:=a;exact eq_int (bZ I q BN)
  |str j=>obtain⟨t',rfl⟩:=a;exact PySem.EqMixed.eq_int_str (bZ I q (by simp))
  |_=>exact KB (show F'=T' from b) Om
 |str i=>
  obtain⟨t,rfl⟩:=c
  cases y with
  |non=>cases a;exact PySem.EqNone.eq_str_none (bZ I q (by simp))
  |bl j=>cases a;exact PySem.EqMixed.eq_str_bool (bZ I q (by simp))
  |int j=>obtain⟨t',rfl⟩:=a;exact PySem.EqMixed.eq_str_int (bZ I q (by simp))
  |str j=>obtain⟨t',rfl⟩:=a;exact eq_str (bZ I q BX)
  |_=>exact KB (show F'=T' from b) Om
 |byt i=>
  obtain⟨t,rfl⟩:=c
  cases y with
  |byt j=>obtain⟨t',rfl⟩:=a;exact PySem.W.eq_bytes (bZ I q BO)
  |_=>exact KB (show F'=T' from b) Om
 |_=>cases y<;>exact KB (show F'=T' from b) Om
def BI:je X (compareOp .NotEq) Oc:=by
 intro A' s σ H x y v u Q I c a h;obtain⟨b,q⟩:=h
 cases x with
 |non=>
  cases c
  cases y with
  |non=>cases a;exact PySem.EqNone.ne_none_none (bZ I q (by simp))
  |bl j=>cases a;exact PySem.EqNone.ne_none_bool (bZ I q (by simp))
  |int j=>obtain⟨t',rfl⟩:=a;exact PySem.EqNone.ne_none_int (bZ I q (by simp))
  |str j=>obtain⟨t',rfl⟩:=a;exact PySem.EqNone.ne_none_str (bZ I q (by simp))
  |_=>exact KB (show F'=T' from b) Om
 |bl i=>
  cases c
  cases y with
  |non=>cases a;exact PySem.EqNone.ne_bool_none (bZ I q (by simp))
  |bl j=>cases a;exact ne_bool (bZ I q (Tb not F6))
  |str j=>obtain⟨t',rfl⟩:=a;exact PySem.EqMixed.ne_bool_str (bZ I q (by simp))
  |_=>exact KB (show F'=T' from b) Om
 |int i=>
  obtain⟨t,rfl⟩:=c
  cases y with
  |non=>cases a;exact PySem.EqNone.ne_int_none (bZ I q (by simp))
  |int j=>obtain⟨t',rfl⟩:=a;exact ne_int (bZ I q (Tb not BN))
  |str j=>obtain⟨t',rfl⟩:=a;exact PySem.EqMixed.ne_int_str (bZ I q (by simp))
  |_=>exact KB (show F'=T' from b) Om
 |str i=>
  obtain⟨t,rfl⟩:=c
  cases y with
  |non=>cases a;exact PySem.EqNone.ne_str_none (bZ I q (by simp))
  |bl j=>cases a;exact PySem.EqMixed.ne_str_bool (bZ I q (by simp))
  |int j=>obtain⟨t',rfl⟩:=a;exact PySem.EqMixed.ne_str_int (bZ I q (by simp))
  |str j=>obtain⟨t',rfl⟩:=a;exact ne_str (bZ I q (Tb not BX))
  |_=>exact KB (show F'=T' from b) Om
 |byt i=>
  obtain⟨t,rfl⟩:=c
  cases y with
  |byt j=>obtain⟨t',rfl⟩:=a;exact PySem.W.ne_bytes (bZ I q (Tb not BO))
  |_=>exact KB (show F'=T' from b) Om
 |_=>cases y<;>exact KB (show F'=T' from b) Om
def O3:je X (compareOp .Lt) (wc λi j=> .bl (decide (i<j))):=K_ λ_ _ _ _ _ _ _ q=>lt_int q
def gi:je X (compareOp .LtE) (wc λi j=> .bl (decide (i<=j))):=K_ λ_ _ _ _ _ _ _ q=>le_int q
def oK:je X (compareOp .Gt) (wc λi j=> .bl (decide (j<i))):=K_ λ_ _ _ _ _ _ _ q=>gt_int q
def Qw:je X (compareOp .GtE) (wc λi j=> .bl (decide (j<=i))):=K_ λ_ _ _ _ _ _ _ q=>ge_int q
def Ml:je X (compareOp .Is) (λx y H Q=>y= .non/\Q (.bl (decide (x= .non))) H):=by
 intro A' s σ H x y v u Q I a b h;obtain⟨rfl,q⟩:=h
 cases b
 refine is_none_gen (bZ I q ?_)
 cases x<;>first
  |(cases a;rfl)
  |(obtain⟨t,rfl⟩:=a;rfl)
def bB(b:Expr)(h:op≠ .In:=by decide)(a:op≠ .NotIn:=by decide):WI op b=F':=by
 have c:(op==CmpOp.In)=F':=by cases op<;>first|rfl|exact KB U h
 have d:(op==CmpOp.NotIn)=F':=by cases op<;>first|rfl|exact KB U a
 cases b<;>simp[WI,c,d]
def dA(j:je X (compareOp op) r)(g:PE X a ta)(l:PE X b tb)(f:WI op b=F'):PE X (.Compare a [op] [b] pos) (ix r ta tb):=by
 intro A' s σ H Q I h;exact wpAny_Compare1 (MG g l I h λv u d x y e i k c q=>j A' d σ e x y v u Q i k c q) f
inductive Mf(Q:Tq->Hp->Prop)(x:V)(H':Hp):Prop
 |mk (k:_) (c0:x= .bl k) (c1:Q k H')
def kh(t:TE):TT:=λσ H Q=>t σ H λx H'=>Mf Q x H'
def bh(w:je X (compareOp op) r)(o:PE X a ta)(E:PE X b tb)(m:WI op b=F'):PT X (.Compare a [op] [b] pos) (kh (ix r ta tb)):=by
 intro A' s σ H Q I h
 refine aac (cR (o A' s σ H _ I h) λv B ⟨x,t,f,d,g⟩=>cR (E A' B σ t _ f g) λu i ⟨y,l,p,A,C⟩=>
  cR (w A' i σ l x y v u _ p d A C) λc F ⟨z,q,j,D,k,e,n⟩=>?_) m
 subst e
 cases D
 exact T_ ⟨q,j,n⟩
def zX(r r':R2)(ta tb tc:TE):TE:=λσ H Q=>ta σ H λx c=>tb σ c λy e=>r x y e λz a=>∃k,z= .bl k/\
 (if k=T' then tc σ a λb d=>r' y b d Q else Q (.bl F') a)
def iv(S:je X (compareOp op) r)(f:je X (compareOp op') r')(w:PE X a ta)(V:PE X b tb)(A:PE X c tc)(t:lastMarks [op,op'] [b,c]=F':=by with_unfolding_all rfl):PE X (.Compare a [op,op'] [b,c] pos) (zX r r' ta tb tc):=by
 intro A' s σ H Q I h
 refine Compare_chain (cR (w A' s σ H _ I h) λv C ⟨x,T,n,m,o⟩=>chain_link (cR (V A' C σ T _ n o) λu K ⟨y,p,R,i,D⟩=>
  cR (S A' K σ p x y v u _ R m i D) λd B ⟨z,l,j,E,k,e,g⟩=>?_)) t
 subst e
 cases E
 refine T_ ?_
 cases k with
 |false=>exact ite_ff ⟨.bl F',l,j,U,g⟩
 |true=>exact ite_tt (chain_last (cR (A A' B σ l _ j g) λP M ⟨N,F,q,G,J⟩=>f A' M σ F y N u P Q q i G J))
def xO(ho:je X (compareOp op) r)(f:je X (compareOp op') r')(C:PE X a ta)(t:PE X b tb)(D:PE X c tc)(A:lastMarks [op,op'] [b,c]=F':=by with_unfolding_all rfl):PT X (.Compare a [op,op'] [b,c] pos) (kh (zX r r' ta tb tc)):=by
 intro A' s σ H Q I h
 refine isTrue_chain (cR (C A' s σ H _ I h) λv G ⟨x,H1,n,m,p⟩=>test_link (cR (t A' G σ H1 _ n p) λu S ⟨y,q,I2,i,J⟩=>
  cR (ho A' S σ q x y v u _ I2 m i J) λd E ⟨z,l,j,K,k,e,g⟩=>?_)) A
 subst e
 cases K
 refine T_ ?_
 cases k with
 |false=>
  obtain⟨k',V,q'⟩:=g
  cases V
  exact ite_ff ⟨l,j,q'⟩
 |true=>
  refine ite_tt (test_last (cR (D A' E σ l _ j g) λw' T ⟨W,M,w,N,P⟩=>cR (f A' T σ M y W u w' _ w i N P) λd' s5 ⟨z2,B,R,r5,k2,o,F⟩=>?_));subst o
  cases r5
  exact T_ ⟨B,R,F⟩
def lC:(sizeLine:M')<2^63:=by rw[U6];decide
def aJ:je X (binaryOp .Add) (λx y H Q=>∃i j,x= .str i/\y= .str j/\i.length+j.length<=sizeLine/\Q (.str (i++j)) H):=by
 intro A' s σ H x y v u Q I b a h;obtain⟨i,j,rfl,rfl,c,q⟩:=h;obtain⟨t,rfl⟩:=b;obtain⟨t',rfl⟩:=a;exact add_str (λt' d=>⟨.str (i++j),H,I.tok _,⟨_,U⟩,q⟩) c
def vals1{x:V}(r:Vals [x] us):∃u,us=[u]/\RelV x u:=by
 cases r with
 |cons b a=>cases a;exact⟨_,U,b⟩
def vals2{x:V}(r:Vals [x,y] us):∃u a,us=[u,a]/\RelV x u/\RelV y a:=by
 cases r with
 |cons b c=>
  cases c with
  |cons d e=>cases e;exact⟨_,_,U,b,d⟩
def Fm:e_ X (.builtin "abs") (λxs H Q=>∃i,xs=[.int i]/\Q (.int (if i<0 then -i else i)) H):=by
 intro A' s σ H xs us Q I r h;obtain⟨i,rfl,q⟩:=h;obtain⟨u,rfl,t,rfl⟩:=vals1 r;exact call_abs_int λu a=>⟨.int (if i<0 then -i else i),H,I.tok _,⟨_,U⟩,q⟩
def DN(b:X.calm=T'):e_ X (.builtin "max") (λxs H Q=>∃i j,xs=[.int i,.int j]/\Q (.int (if j>i then j else i)) H):=by
 intro A' s σ H xs us Q I r h;obtain⟨i,j,rfl,q⟩:=h;obtain⟨u,c,rfl,⟨t,rfl⟩,⟨t',rfl⟩⟩:=vals2 r;refine max_two_ints (I.ok.hd b) λh' d k=>⟨_,H,I.kept k,?_,q⟩;by_cases a:j>i
 ·rw[KF a,KF a];exact⟨_,U⟩
 ·rw[GM a,GM a];exact⟨_,U⟩
def Ed(b:X.calm=T'):e_ X (.builtin "min") (λxs H Q=>∃i j,xs=[.int i,.int j]/\Q (.int (if j<i then j else i)) H):=by
 intro A' s σ H xs us Q I r h;obtain⟨i,j,rfl,q⟩:=h;obtain⟨u,c,rfl,⟨t,rfl⟩,⟨t',rfl⟩⟩:=vals2 r;refine min_two_ints (I.ok.hd b) λh' d k=>⟨_,H,I.kept k,?_,q⟩;by_cases a:j<i
 ·rw[KF a,KF a];exact⟨_,U⟩
 ·rw[GM a,GM a];exact⟨_,U⟩
def Fs:e_ X (.builtin "ord") (λxs H Q=>∃x,xs=[.str x]/\x.length=1/\Q (.int (x.cps.getD 0 0:M')) H):=by
 intro A' s σ H xs us Q I r h;obtain⟨x,rfl,a,q⟩:=h;obtain⟨u,rfl,t,rfl⟩:=vals1 r;exact ord_of_one a ⟨.int _,H,I.tok _,⟨_,U⟩,q⟩
end
structure B_(h:T9)(x dx C:B4)(mA:Z->O' B5):Prop where
 obj:h.get? x=O (UZ C dx)
 ns:h.Ns1 dx mA
 ne:dx≠x
def CF(n:h.Ns1 dx mA):∃c,h.get? dx=O c/\∀name,YX name c=O (mA name):=by
 obtain⟨o,es,l,k,j,f,_,i⟩:=n;refine⟨o,k,λname=>?_⟩;have e:=i name;unfold nsFind findBy at e;rw[<-aa7]at e;unfold YX;rw[j];dsimp only
 split
 ·rename_i y q
  rw[q]at e;exact Tb O e
 ·rename_i q
  rw[q]at e
  have a:es.toList.any (·.refKey)=F':=by
   rw[Yh];intro y d;obtain⟨z,t,b⟩:=f y (Array.mem_toList_iff.mp d);simp[DictEntry.refKey,b]
  have g:¬es.toList.any (·.refKey)=T':=by rw[a];exact Om
  rw[GM g];exact Tb O e
def B_.look{x:B4}(I:B_ h x dx C mA):∃a,Xv h x (UZ C dx) C (O a)/\∀name,YX name a=O (mA name):=
 let⟨a,ho,hl⟩:=CF I.ns
 ⟨a,⟨I.obj,U,U,ho⟩,hl⟩
section
variable{x:B4}{v:B5}
def get_map{a:Tq}(X:K.In s.heap)(I:B_ s.heap x dx C mA)(c:WW K C name=T')(f:Wz K C=T')(g:SE K (.ref C) name=O Y)(e:mA name=O v)(b:abv v=T')(h:Q v {s with toks:=s.toks+1}):
  Ki (Pp prog w) A (getAttr (.ref x) name a) Q E s:=by
 obtain⟨i,J,d⟩:=I.look;exact PySem.W.get_value X J (PySem.W.plainGet_of c).1 (PySem.W.findObj_own f g U (by rw[d,e])) b h
theorem Jx{ns:L Z}{Q:aav->FM->Prop}(X:K.In s.heap)(I:B_ s.heap x dx C mA)(t:SE K (.ref C) "__setattr__"=O (O (.builtin "object.__setattr__")))(k:X6 K C=T')(o:Yz K C name=O Y)(m:Wz K C=T')(p:ZX mA ns)(j:ns.length<=sizeLine)(h:∀h',B_ h' x dx C (λy=>if y=name then O v else mA y)->Ur dx s.heap h'->Q () {s with heap:=h',toks:=s.toks+2}):
  Ki (Pp prog w) A (setAttr (.ref x) name v) Q E s:=by
 obtain⟨D,J,z⟩:=I.look;refine PySem.W.set_plain X J t (PySem.W.osa_open (s:={s with toks:=s.toks+1}) (r:=Y) X J k o λb=>?_);obtain⟨B,n,g⟩:=Vq m;have u:s.heap.get? x=O ⟨.ref C,O dx,.plain,#[]⟩:=I.obj;refine B1 (GE (B1 (B1 (Xm u (B1 (PySem.W.Looks.here (s:={s with toks:=s.toks+1}) (PySem.W.looks_clsIn X n) ?_))))));rw[g];refine GE (a:=O dx) (B1 (GE (B1 ?_)));refine wpAny_nsSet1 (s:={s with toks:=s.toks+1}) I.ns λh' d c=>?_;obtain⟨F,l,q,i,e,f⟩:=d.count (PySem.Within.cons name v p);refine B1 (abm i (by rw[e];exact abq (Tf f (by rw[Da];lia))) ?_);exact GE (h _ ⟨(c.2 _ (SZ I.ne)).trans I.obj,d,I.ne⟩ c)
def F0{R:YW->FM->Prop}{vs:L B5}(X:K.In s.heap)(e:YA K C=T')(b:SE K (.ref C) "__init__"=O (O (.ref f)))(c:PySem.W.typeIn K (.ref f)=O (.type "function"))(h:UV (Pp prog w) (A.under (.builtin "type.__call__" ⟨.ref C::vs,kw⟩)) (.call (.ref f) ⟨.ref (s.heap.objs.size+1)::vs,kw⟩) (PySem.W.InitBack (s.heap.objs.size+1) R)
   {s with heap:=(s.heap.push Up).push (UZ C s.heap.objs.size)}):
  UV (Pp prog w) A (.call (.ref C) ⟨vs,kw⟩) R s:=by
 obtain⟨i,g,d,t,j⟩:=s;exact PySem.W.make_core (PySem.W.makes_of X e) (PySem.W.looks_findIn X b) (λa=>PySem.W.bind_fn X a c) (.inl U) h
end
noncomputable def kY(f:Z)(v:V):L (Z×V)->L (Z×V)
 |[]=>[(f,v)]
 |(g,x)::r=>if g=f then(g,v)::r else(g,x)::kY f v r
theorem oJ(f g:Z)(v:V):∀fs:L (Z×V),(kY f v fs).lookup g=if g=f then O v else fs.lookup g
 |[]=>by
  show VQ g [(f,v)]=_;by_cases h:g=f
  ·have a:(g==f)=T':=beq_iff_eq.mpr h;simp only[VQ,a,KF h]
  ·have a:(g==f)=F':=beq_eq_false_iff_ne.mpr h;simp only[VQ,a,GM h]
 |(k,x)::r=>by
  have c:=oJ f g v r;rw[show kY f v ((k,x)::r)=(if k=f then(k,v)::r else(k,x)::kY f v r)from U];by_cases b:k=f
  ·rw[KF b];by_cases h:g=k
   ·have a:(g==k)=T':=beq_iff_eq.mpr h;simp only[VQ,a,KF (h.trans b)]
   ·have a:(g==k)=F':=beq_eq_false_iff_ne.mpr h;simp only[VQ,a,GM (λe:g=f=>h (e.trans b.symm))]
  ·rw[GM b];by_cases h:g=k
   ·have a:(g==k)=T':=beq_iff_eq.mpr h;simp only[VQ,a,GM (λe:g=f=>b (h.symm.trans e))]
   ·have a:(g==k)=F':=beq_eq_false_iff_ne.mpr h;simp only[VQ,a];exact c
theorem nU(f:Z)(v:V):∀fs:L (Z×V),f∈(kY f v fs).map (·.1)/\∀g,g∈fs.map (·.1)->g∈(kY f v fs).map (·.1)
 |[]=>⟨by simp[kY],λg h=>by simp at h⟩
 |(k,x)::r=>by
  obtain⟨c,b⟩:=nU f v r;rw[show kY f v ((k,x)::r)=(if k=f then(k,v)::r else(k,x)::kY f v r)from U];by_cases a:k=f
  ·rw[KF a];subst a;exact⟨by simp,λg h=>by simpa using h⟩
  ·rw[GM a];refine⟨?_,λg h=>?_⟩
   ·rw[SQ];exact Fk _ c
   ·rw[SQ]at h⊢
    rcases PP.mp h with e|e
    ·exact List.mem_cons.mpr (.inl e)
    ·exact Fk _ (b g e)
theorem oO(f:Z)(v:V):∀fs:L (Z×V),(kY f v fs).length<=fs.length+1
 |[]=>by simp[kY]
 |(k,x)::r=>by
  have b:=oO f v r;rw[show kY f v ((k,x)::r)=(if k=f then(k,v)::r else(k,x)::kY f v r)from U];by_cases a:k=f
  ·rw[KF a,Da,Da];lia
  ·rw[GM a,Da,Da];lia
def il.some_of{o:O' B5}(r:il (O v) o):∃u,o=O u/\RelV v u:=by
 cases o with
 |none=>exact(show False from r).elim
 |some u=>exact⟨u,U,r⟩
def il.none_of{o:O' B5}(r:il Y o):o=Y:=by
 cases o with
 |none=>rfl
 |some u=>exact(show False from r).elim
def DX(r:RelV v u):abv u=T':=by
 cases v with
 |non=>cases(show u=Uo from r);rfl
 |bl b=>cases(show u=V8 b from r);rfl
 |int i=>obtain⟨t,e⟩:=(show∃t,u=WU i t from r);cases e;rfl
 |str x=>obtain⟨t,e⟩:=(show∃t,u=Uj x t from r);cases e;rfl
 |byt b=>obtain⟨t,e⟩:=(show∃t,u=Value.bytes b t from r);cases e;rfl
 |flt b=>obtain⟨t,e⟩:=(show∃t,u=aau b t from r);cases e;rfl
 |ref a=>cases(show u=Kf a from r);rfl
 |ty n=>cases(show u=VN n from r);rfl
section
variable{fs fs':L (Z×V)}
def uw(b:jE P w H h)(e:H a=O (.ins C dx fs)):∃mA,B_ h a dx C mA/\(∀f,il (fs.lookup f) (mA f))/\ZX mA (fs.map (·.1))/\fs.length<=1000/\H dx=O (.own a):=by
 obtain⟨d,z,g,c,mA,n,r,q⟩:=(show cM P w H h a (.ins C dx fs)from b a _ e);exact⟨mA,⟨c,n,g⟩,r,q,z,d⟩
end
structure LA(K:B0)(C:B4):Prop where
 pg:WW K C WV=T'
 hd:Wz K C=T'
 po:X6 K C=T'
 sa:SE K (.ref C) "__setattr__"=O (O (.builtin "object.__setattr__"))
def LA.get(c:LA K C)(f:Z):WW K C f=T':=c.pg
def iL(K:B0)(C:B4)(f:Z):Prop:=SE K (.ref C) f=O Y
def iL.O8{f:Z}(n:iL K C f):Yz K C f=O Y:=by
 unfold Yz;rw[show SE K (.ref C) f=O Y from n];rfl
section
variable{fs:L (Z×V)}{f:Z}
def Ai{b:Tq}(I:Inv X A' σ H s)(e:H a=O (.ins C dx fs))(c:LA X.K C)(n:iL X.K C f)(l:fs.lookup f=O v)(h:∀u s',Inv X A' σ H s'->RelV v u->Q u s'):Ki (Pp X.prog X.w) A (getAttr (.ref a) f b) Q E s:=by
 obtain⟨mA,d,r,_,_,_⟩:=uw I.hok e;obtain⟨u,i,g⟩:=il.some_of (v:=v) (o:=mA f) (by rw[<-l];exact r f);exact get_map I.jG d (c.get f) c.hd n i (DX g) (h u _ (I.tok _) g)
theorem Am{Q:aav->FM->Prop}(I:Inv X A' σ H s)(e:H a=O (.ins C dx fs))(c:LA X.K C)(n:iL X.K C f)(B:fs.length<1000)(l:RelV y u)(h:∀s',Inv X A' σ (upd H a (.ins C dx (kY f y fs))) s'->Q () s'):Ki (Pp X.prog X.w) A (setAttr (.ref a) f u) Q E s:=by
 obtain⟨mA,d,r,j,_,k⟩:=uw I.hok e
 have t:(fs.map (·.1)).length<=sizeLine:=by rw[AC,U6];lia
 refine Jx I.jG d c.sa c.po n.O8 c.hd j t λh' i m=>h _ ?_;have hd:∃o,h'.get? dx=O o:=let⟨o,_,_,e',_⟩:=i.ns;⟨o,e'⟩;refine I.write (x:=a) (e:=dx) (by rw[e];exact T8) (.inr k) (λb q v z=>(m.2 b v).trans z) hd ?_;refine⟨by rw[ax d.ne];exact k,?_,d.ne,i.obj,_,i.ns,λg=>?_,λg p=>?_⟩
 ·have :=oO f y fs;lia
 ·show il ((kY f y fs).lookup g) (if g=f then O u else mA g);rw[oJ];by_cases q:g=f
  ·rw[KF q,KF q];exact l
  ·rw[GM q,GM q];exact r g
 ·by_cases q:g=f
  ·rw[q];exact(nU f y fs).1
  ·refine(nU f y fs).2 g (j g λz=>p ?_);show(if g=f then O u else mA g)=Y;rw[GM q];exact z
def Inv.made(I:Inv X A' σ H s):Inv X A' σ (upd (upd H s.heap.objs.size (.own (s.heap.objs.size+1))) (s.heap.objs.size+1) (.ins C s.heap.objs.size []))
  {s with heap:=(s.heap.push Up).push (UZ C s.heap.objs.size)}:=by
 have d:(s.heap.push Up).get? s.heap.objs.size=O Up:=Ss s.heap U
 have i:((s.heap.push Up).push (UZ C s.heap.objs.size)).get? (s.heap.objs.size+1)=O (UZ C s.heap.objs.size):=by
  have :=Ss (s.heap.push Up) (o:=UZ C s.heap.objs.size) U
  rwa [V1]at this
 have f:(s.heap.push Up).Ns s.heap.objs.size (λ_=>Y):=⟨Up,#[],_,d,U,(λe g=>KB g (by simp)),λ_=>U⟩;have h:=I.laid (a:=s.heap.objs.size) (o:= .own (s.heap.objs.size+1)) (h':=s.heap.push Up) (t':=s.toks) (λb u q=>B7 _ q) (B9 _) ⟨_,d⟩;refine h.laid (a:=s.heap.objs.size+1) (o:= .ins C s.heap.objs.size []) (t':=s.toks) (λb u q=>B7 _ q) (Yc (V1 _ _)) ?_;have c:s.heap.objs.size≠s.heap.objs.size+1:=Sy (Yq _);refine⟨by rw[ax c,ag],Sm _,c,i,λ_=>Y,(abj f).at λo q=>B7 _ q,λ_=>T8,λy j=>KB U j⟩
def Ln{a:Env}{f:Z}(c:VC e f a (eval e a)=eval e a)(h:Ki (Pp prog w) A (eval e a) (λo b=>Ki (Pp prog w) A (getAttr o f T') Q E b) E s):Ki (Pp prog w) A (eval (.Attribute e f pos) a) Q E s:=
 Attribute_any_ h (by rw[arm_eval_Attribute,c])
end
inductive PB(K:B0)(f:Z)(Q:VK)(x:V)(H1:Hp):Prop
 |mk (a:_) (C:_) (dx:_) (fs:_) (v:_) (c0:x= .ref a) (c1:H1 a=O (.ins C dx fs)) (c2:LA K C) (c3:iL K C f) (c4:fs.lookup f=O v) (c5:Q v H1)
def RD(K:B0)(ta:TE)(f:Z):TE:=λσ H Q=>ta σ H λx a=>PB K f Q x a
inductive O7(K:B0)(f:Z)(D:Ends)(σ:St)(y:V)(x:V)(H2:Hp):Prop
 |mk (a:_) (C:_) (dx:_) (fs:_) (c0:x= .ref a) (c1:H2 a=O (.ins C dx fs)) (c2:LA K C) (c3:iL K C f) (c4:fs.length<1000) (c5:D.nx σ (upd H2 a (.ins C dx (kY f y fs))))
def Rh(K:B0)(ta tv:TE)(f:Z):TS:=λD σ H=>tv σ H λy a=>ta σ a λx b=>O7 K f D σ y x b
section
variable{o value:Expr}{f:Z}{tpos:Pos}{tv:TE}
def kb(j:PE X e ta)(o:VC e f X.env (eval e X.env)=eval e X.env):PE X (.Attribute e f pos) (RD X.K ta f):=by
 intro A' s σ H Q I h;refine Ln o (cR (j A' s σ H _ I h) λu r ⟨x,k,b,m,a,C,dx,fs,v,ex,g,c,n,l,q⟩=>?_);subst ex;obtain rfl:u=Kf a:=m;exact Ai b g c n l λt p i d=>⟨v,k,i,d,q⟩
def vh(g:PE X o ta)(m:PE X value tv)(w:VP value (O (.Attribute o f pos')) pos.line X.env=pure F'):PS X (.Assign [.Attribute o f pos'] value pos) (Rh X.K ta tv f):=by
 intro A' s σ H D I h;refine Ym (cR (m A' s σ H _ I h) λu j ⟨y,v,d,b,q⟩=>cR (g A' j σ v _ d q) λt B ⟨x,z,r,i,a,C,dx,fs,ex,e,c,n,l,k⟩=>?_) w;subst ex;obtain rfl:t=Kf a:=i;exact Am r e c n l b λA p=>⟨σ,_,p,k⟩
end
section
variable{c:B5}{b:Tq}
inductive oj(K:B0)(H:Hp):V->B5->Prop where
 |non:oj K H .non (.type "NoneType")
 |bl (x:Tq):oj K H (.bl x) (.type "bool")
 |int (i:J'):oj K H (.int i) (.type "int")
 |str (x:Z):oj K H (.str x) (.type "str")
 |flt (x:UInt64):oj K H (.flt x) (.type "float")
 |lst {a:B4} {xs:L V} (e:H a=O (.lst xs)):oj K H (.ref a) (.type "list")
 |frz {a:B4} {o:Obj} {xs:L V} (e:H a=O (.frz o (.lst xs))):oj K H (.ref a) (.type "list")
 |tup {a:B4} {xs:L V} (e:H a=O (.tup xs)):oj K H (.ref a) (.type "tuple")
 |dK {a:B4} {K':L (Key×V)} (e:H a=O (.dK K')):oj K H (.ref a) (.type "dict")
 |dT {a:B4} {K':L (L Key×V)} (e:H a=O (.dT K')):oj K H (.ref a) (.type "dict")
 |ins {a C dx:B4} {fs:L (Z×V)} (e:H a=O (.ins C dx fs)) (cl:LA K C) (ha:SE K (.ref C) "__class__"=O (O (.builtin "object.__class__")))
   (hn:X5 K (.builtin "object.__class__") "__get__"=O (O (.builtin "getset_descriptor.__get__"))) (htk:Yy K (.builtin "object.__class__")=O T')
   (hm:T3 K C (.type "object")=O T'):oj K H (.ref a) (.ref C)
def Dh{x:V}{t:B5}(I:Inv X A' σ H s)(g:RelV x u)(ty:oj X.K H x t)(e:TX X.K t c=O b)(h:∀M,Q (.bool b) {s with toks:=M}):
  Ki (Pp X.prog X.w) A (call (.builtin "isinstance") [u,c]) Q E s:=by
 cases ty with
 |non=>cases(show u=Uo from g);exact TY PySem.W.kitx_none I.jG T8 e (λz=>nomatch z) h
 |bl y=>cases(show u=V8 y from g);exact TY PySem.W.kitx_bool I.jG T8 e (λz=>nomatch z) h
 |int i=>obtain⟨t,q⟩:=(show∃t,u=WU i t from g);cases q;exact TY PySem.W.kitx_int I.jG T8 e (λz=>nomatch z) h
 |str y=>obtain⟨t,q⟩:=(show∃t,u=Uj y t from g);cases q;exact TY PySem.W.kitx_str I.jG T8 e (λz=>nomatch z) h
 |flt y=>obtain⟨t,q⟩:=(show∃t,u=aau y t from g);cases q;exact TY PySem.W.kitx_float I.jG T8 e (λz=>nomatch z) h
 | @lst a xs f=>
  cases(show u=Kf a from g)
  obtain⟨_,_,n,_,j⟩:=(show cM X.prog X.w H s.heap a (.lst xs)from I.hok a _ f);exact TY abb I.jG ⟨_,j,U⟩ e (λz=>nomatch z) h
 | @frz a D xs f=>
  cases(show u=Kf a from g)
  obtain⟨_,_,_,n,_,j⟩:=(show cM X.prog X.w H s.heap a (.frz D (.lst xs))from I.hok a _ f);exact TY abb I.jG ⟨_,j,U⟩ e (λz=>nomatch z) h
 | @tup a xs f=>
  cases(show u=Kf a from g)
  obtain⟨_,_,_,p⟩:=(show cM X.prog X.w H s.heap a (.tup xs)from I.hok a _ f);obtain⟨o,j,k,_⟩:=p;exact TY PySem.W.kitx_tuple I.jG ⟨o,j,k⟩ e (λz=>nomatch z) h
 | @dK a m f=>
  cases(show u=Kf a from g)
  obtain⟨_,_,vs,_,p⟩:=(show cM X.prog X.w H s.heap a (.dK m)from I.hok a _ f);obtain⟨o,es,G,j,k,_⟩:=p;exact TY abc I.jG ⟨o,j,k.1⟩ e (λz=>nomatch z) h
 | @dT a m f=>
  cases(show u=Kf a from g)
  obtain⟨_,_,xs,_,o,es,G,j,k,_⟩:=(show cM X.prog X.w H s.heap a (.dT m)from I.hok a _ f);exact TY abc I.jG ⟨o,j,k.1⟩ e (λz=>nomatch z) h
 | @ins a C dx fs f r B F l v=>
  cases(show u=Kf a from g)
  obtain⟨mA,d,_⟩:=uw I.hok f;obtain⟨N,J,_⟩:=d.look;exact TY (PySem.W.kitx_own (r.get _) r.hd B F l v) I.jG J e (λz=>nomatch z) h
end
structure gk(k:M')(A:UU):Prop where
 hd:A.handled=Y
 dp:A.depth+3*k+5<recursionLimit
 un:A.units+16*k+200<Uy
theorem gk.mono{k:M'}(r:gk k A)(h:j<=k):gk j A:=⟨r.hd,by have :=r.dp;lia,by have :=r.un;lia⟩
theorem gk.deeper{k:M'}(r:gk (k+1) A)(a:Env):gk k (A.deeper a):=
 ⟨r.hd,by have :=r.dp;show A.depth+1+3*k+5<_;lia,by have :=r.un;show A.units+3+16*k+200<_;lia⟩
def zU:(A.under (.builtin "type.__call__" ⟨.ref C::us,kw⟩)).depth=A.depth+1:=by
 first|rfl|simp[aaa,Code.weight,Code.isCreation,Code.isGuard,Code.isCaller,Code.frames,Z9,guardIds]
def Aw:(A.under (.builtin "type.__call__" ⟨.ref C::us,kw⟩)).units=A.units+1:=by
 first|rfl|simp[aaa,Code.cUnits,Code.frames,Z9]
theorem gk.make{k:M'}(r:gk (k+1) A)(C:B4)(us:L B5)(kw:L (Z×B5)):gk k (A.under (.builtin "type.__call__" ⟨.ref C::us,kw⟩)):=
 ⟨r.hd,by have :=r.dp;rw[zU];lia,by have :=r.un;rw[Aw];lia⟩
theorem gk.depth{k:M'}(r:gk k A):A.depth<recursionLimit:=by have :=r.dp;lia
theorem gk.units{k:M'}(r:gk k A):A.units+64<Uy:=by have :=r.un;lia
def dc:TA:=λ_ H Q=>Q [] H
def aY(ta:TE)(a:TA):TA:=λσ H Q=>ta σ H λx b=>a σ b λxs c=>Q (x::xs) c
section
variable{t:TA}
def eO:PA X [] dc:=λ_ _ _ _ H Q I h=>Yl ⟨[],H,I,.nil,h⟩
def bj(f:PE X e te)(m:PA X es t)(n:P3 (e::es) X.env=(F',eval e X.env)::P3 es X.env:=by rfl):PA X (e::es) (aY te t):=by
 intro pos A' s σ H Q I h;rw[n];show Ki _ _ (spliced ((F',eval e X.env)::UJ pos (P3 es X.env))) _ _ s;refine Ws (cR (f A' s σ H _ I h) λu k ⟨x,i,b,a,c⟩=>?_);exact cR (m pos A' k σ i _ b c) λus o ⟨xs,d,g,j,l⟩=>⟨x::xs,d,g,.cons a j,l⟩
inductive LI(Q:VK)(xs:L V)(H1:Hp):Prop
 |mk (c0:xs.length<=sizeLine) (c1:∀p,H1 p=Y->Q (.ref p) (upd H1 p (.tup xs)))
def Jq(t:TA):TE:=λσ H Q=>t σ H λxs a=>LI Q xs a
inductive OO(Q:VK)(xs:L V)(H1:Hp):Prop
 |mk (c0:xs.length<=sizeLine) (c1:∀p,H1 p=Y->Q (.ref p) (upd H1 p (.lst xs)))
def sN(t:TA):TE:=λσ H Q=>t σ H λxs a=>OO Q xs a
def aR{x1}(h:PA X es t):PE X (.Tuple es x1 pos) (Jq t):=by
 intro A' s σ H Q I f;refine wpAny_Tuple_spliced (cR (h pos A' s σ H _ I f) λus a ⟨xs,d,c,r,z,q⟩=>⟨by rw[<-r.length];exact z,?_⟩);have g:d a.heap.objs.size=Y:=c.hok.fresh (B9 _);refine⟨.ref a.heap.objs.size,upd d a.heap.objs.size (.tup xs),c.laid (t':=a.toks) (λb u e=>B7 _ e) (B9 _) ?_,U,q _ g⟩;exact⟨z,us,r,⟨_,Ss _ U,U,_,U⟩⟩
def bt(h:PA X es t):PE X (.List es pos) (sN t):=by
 intro A' s σ H Q I f;refine wpAny_List_spliced (cR (h pos A' s σ H _ I f) λus a ⟨xs,d,c,r,z,q⟩=>⟨by rw[<-r.length];exact z,?_⟩);have g:d a.heap.objs.size=Y:=c.hok.fresh (B9 _);refine⟨.ref a.heap.objs.size,upd d a.heap.objs.size (.lst xs),c.laid (t':=a.toks) (λb u e=>B7 _ e) (B9 _) ?_,U,q _ g⟩;exact⟨z,us,0,r,Ss _ U⟩
end
abbrev Sp:=L V->Hp->VK->XK->Prop
abbrev IE:=L Env->Hp->FM->XK->B5->FM->Prop
structure Ay(P:To)(w:TV)(K:B0)(mg:Z->O' B5)(B':T9)(A:UU)(U':L Env)(s:FM)(H:Hp):Prop where
 frames:A.frames=O U'
 mod:Mod K mg B'
 bs:∀b o,B'.get? b=O o->s.heap.get? b=O o/\H b=Y
 bsz:B'.objs.size<=s.heap.objs.size
 jK:s.heap.FunFrames B' U'
 frf:∀b∈fz U',H b=Y
 hok:jE P w H s.heap
 bare:WH s.gens
inductive CE(U':L Env)(P:To)(w:TV)(H:Hp)(s:FM)(Q:VK)(u:B5)(s':FM):Prop
 |mk (v:V) (H':Hp) (c0:s'.os=s.os) (c1:WH s'.gens) (c2:Un (fz U') [] H H' s.heap s'.heap) (c3:jE P w H' s'.heap) (c4:RelV v u) (c5:Q v H')
def CR(a:IE)(U':L Env)(P:To)(w:TV)(H:Hp)(s:FM)(Q:VK)(E:XK)(r:YW)(s':FM):Prop:=
 match r with
 | .ok (.ret u)=>CE U' P w H s Q u s'
 | .ok _=>False
 | .error e=>a U' H s E e s'
structure aS(P:To)(w:TV)(K:B0)(mg:Z->O' B5)(B':T9)(CX:IE)(k:M')(f:B4)(fd:Ud)(ps:L Z)(sp:Sp):Prop where
 len:∀vs H Q E,sp vs H Q E->vs.length=ps.length
 run:∀(A:UU)(U':L Env)(s:FM)(H:Hp)(args:Args)(us:L B5)(vs:L V)(Q:VK)(E:XK),gk k A->Ay P w K mg B' A U' s H->YP s fd args (ps.zip us)->Vals vs us->sp vs H Q E->
  UV (Pp P w) A (.call (.ref f) args) (CR CX U' P w H s Q E) s
theorem Ay.make(e:Ay P w K mg B' A U' s H)(C:B4)(us:L B5)(kw:L (Z×B5)):
  Ay P w K mg B' (A.under (.builtin "type.__call__" ⟨.ref C::us,kw⟩)) U' s H:=⟨by first|exact e.frames|(simpa[aaa,Code.envs,Z9,pushEnvs]using e.frames),e.mod,e.bs,e.bsz,e.jK,e.frf,e.hok,e.bare⟩
def Inv.NR(I:Inv X A' σ H s):Ay X.prog X.w X.K X.mg X.base X.A X.stack s H:=
 ⟨I.ok.frames,I.ok.mod,I.bs,Tf I.ok.bsz I.sz,I.stack,I.kF,I.hok,I.bare⟩
def Inv.after{Q:VK}(I:Inv X A' σ H s)(h:CE X.stack X.prog X.w H s Q u s'):EP X A' σ Q u s':=by
 obtain⟨v,H',os,a,un,e,r,q⟩:=h;obtain⟨f,g,d,t,c⟩:=s';obtain rfl:c=s.os:=os;exact⟨v,H',I.call (h':=f) (g':=g) (d':=d) (t':=t) (ch:=[]) un e a (λb z=>KB z (by simp)),r,q⟩
def eS(b:Sp)(a:L V)(E:XK)(t:TA):TE:=λσ H Q=>t σ H λvs c=>b (vs++a) c Q E
def Pa(C:B4)(c:Sp)(a:L V)(E:XK)(t:TA):TE:=λσ H Q=>t σ H λvs b=>∀x dx,b x=Y->b dx=Y->dx≠x->
 c (.ref x::(vs++a)) (upd (upd b dx (.own x)) x (.ins C dx [])) (λv d=>v= .non/\Q (.ref x) d) E
def Binds(K:B0)(fd:Ud)(ps:L Z)(a:L B5):Prop:=
 ∀(s:FM)(us:L B5),K.In s.heap->(us++a).length=ps.length->YP s fd ⟨us,[]⟩ (ps.zip (us++a))
def Binds.all(h:∀us:L B5,us.length=ps.length->bindArgs fd ⟨us,[]⟩=pure (ps.zip us)):Binds K fd ps []:=λs us _ a=>by
 rw[Ni]at a⊢;exact .of_eq (h us a)
def Passes(a:IE)(X:Cx)(E:XK):Prop:=∀(A':L (B4×Obj))(σ:St)(H:Hp)(s:FM)(e:B5)(s':FM),Inv X A' σ H s->a X.stack H s E e s'->X.xe e s'
variable{sp:Sp}{CX:IE}
section
variable{k:M'}{dvs:L V}{ds:L B5}{E:XK}{o:Expr}{t:TA}
def NC{Q:VK}(F:aS X.prog X.w X.K X.mg X.base CX k f fd ps sp)(g:gk k X.A)(i:Binds X.K fd ps ds)(d:Vals dvs ds)(j:Passes CX X E)(I:Inv X A' σ H s)(r:Vals vs us)(h:sp (vs++dvs) H Q E):Ki (Pp X.prog X.w) X.A (call (.ref f) us) (EP X A' σ Q) X.xe s:=by
 have b:Vals (vs++dvs) (us++ds):=r.append d
 have c:(us++ds).length=ps.length:=by rw[<-b.length];exact F.len _ _ _ _ h
 refine W2 (VR (F.run X.A X.stack s H ⟨us,[]⟩ (us++ds) (vs++dvs) Q E g I.NR (i s us I.jG c) b h) λr s' a=>?_)
 cases r with
 |error e=>exact j A' σ H s e s' I a
 |ok fl=>
  cases fl with
  |ret u=>exact I.after a
  |next=>exact UR a
  |brk=>exact UR a
  |cont=>exact UR a
def A7(F:aS X.prog X.w X.K X.mg X.base CX k f fd ps sp)(n:gk k X.A)(j:Gl X x)(g:X.mg x=O (.ref f))(d:Td X.K (.ref f)=T')(o:Binds X.K fd ps ds)(i:Vals dvs ds)(u:Passes CX X E)(l:PA X (e::es) t)(b:(x==("__debug__":Z))=F':=by decide)(m:P3 (e::es) X.env=(F',eval e X.env)::P3 es X.env:=by rfl)(a:(UJ pos (P3 es X.env)).any (·.1)=F':=by rfl):
  PE X (.Call (.Name x p) (e::es) [] pos) (eS sp dvs E t):=by
 intro A' s σ H Q I h;refine Uv (iE I j g ?_ b);refine XX (h₀:=X.base) I.ok.mod.kin d (cR (l pos A' s σ H _ I h) λus y ⟨vs,v,c,r,q⟩=>⟨c.jG,?_⟩) m a;exact NC F n o i u c r q
structure Mk(K:B0)(C f:B4):Prop where
 makes:YA K C=T'
 init:SE K (.ref C) "__init__"=O (O (.ref f))
 fn:W4 K (.ref f)=T'
 kp:Td K (.ref C)=T'
def Ih{Q:VK}(M:Mk X.K C f)(F:aS X.prog X.w X.K X.mg X.base CX k f fd ps sp)(p:gk (k+1) X.A)(q:Binds X.K fd ps ds)(n:Vals dvs ds)(t:Passes CX X E)(I:Inv X A' σ H s)(r:Vals vs us)(h:∀x dx,H x=Y->H dx=Y->dx≠x->sp (.ref x::(vs++dvs)) (upd (upd H dx (.own x)) x (.ins C dx [])) (λv m=>v= .non/\Q (.ref x) m) E):
  Ki (Pp X.prog X.w) X.A (call (.ref C) us) (EP X A' σ Q) X.xe s:=by
 have d:=h (s.heap.objs.size+1) s.heap.objs.size (I.hok.fresh (Wd _)) (I.hok.fresh (B9 _)) (Sy (Yq _));have b:=Inv.made (C:=C) I;have c:Vals (V.ref (s.heap.objs.size+1)::(vs++dvs)) (Kf (s.heap.objs.size+1)::(us++ds)):= .cons U (r.append n)
 have g:(Kf (s.heap.objs.size+1)::us++ds).length=ps.length:=by
  have e:=c.length;rw[F.len _ _ _ _ d]at e;exact e.symm
 refine W2 (F0 (f:=f) I.jG M.makes M.init (beq_iff_eq.mp M.fn) (VR (F.run _ X.stack _ _ ⟨Kf (s.heap.objs.size+1)::us,[]⟩ (Kf (s.heap.objs.size+1)::(us++ds)) _ _ E (p.make C us [])
  (b.NR.make C us []) (q _ (Kf (s.heap.objs.size+1)::us) b.jG g) c d) λr s' a=>?_))
 cases r with
 |error e=>exact t A' σ _ _ e s' b a
 |ok fl=>
  cases fl with
  |ret u=>
   obtain⟨v,H',j,i,l,o⟩:=b.after a;subst l;exact⟨i,⟨V.ref (s.heap.objs.size+1),H',j,U,o⟩⟩
  |next=>exact UR a
  |brk=>exact UR a
  |cont=>exact UR a
def JK(M:Mk X.K C f)(F:aS X.prog X.w X.K X.mg X.base CX k f fd ps sp)(m:gk (k+1) X.A)(i:Gl X x)(d:X.mg x=O (.ref C))(n:Binds X.K fd ps ds)(g:Vals dvs ds)(o:Passes CX X E)(j:PA X (e::es) t)(b:(x==("__debug__":Z))=F':=by decide)(l:P3 (e::es) X.env=(F',eval e X.env)::P3 es X.env:=by rfl)(a:(UJ pos (P3 es X.env)).any (·.1)=F':=by rfl):
  PE X (.Call (.Name x p) (e::es) [] pos) (Pa C sp dvs E t):=by
 intro A' s σ H Q I h;refine Uv (iE I i d ?_ b);refine XX (h₀:=X.base) I.ok.mod.kin M.kp (cR (j pos A' s σ H _ I h) λus v ⟨vs,u,c,r,q⟩=>⟨c.jG,?_⟩) l a;exact Ih M F m n g o c r q
end
def PK(X:Cx)(a:L WC)(t:TA):Prop:=
 ∀(pos:Pos)(A':L (B4×Obj))(s:FM)(σ:St)(H:Hp)(Q:L V->Hp->Prop),Inv X A' σ H s->t σ H Q->Ki (Pp X.prog X.w) X.A (evalAll ((Vc pos (Ut a X.env)).map (·.2))) (AP X A' σ Q) X.xe s
section
variable{k:M'}{ks:L Z}{E:XK}{kpos:Pos}{o:Expr}{kws:L WC}{t tk:TA}{nm:O' Z}
def Mx:PK X [] dc:=λ_ _ _ _ H Q I h=>wpAny_evalAll_nil ⟨[],H,I,.nil,h⟩
def Km(f:PE X e te)(m:PK X kws t):PK X (⟨nm,e,kpos⟩::kws) (aY te t):=by
 intro pos A' s σ H Q I h;show Ki _ _ (evalAll ((do let v<-eval e X.env;XB pos;pure v)::(Vc pos (Ut kws X.env)).map (·.2))) _ _ s;refine wpAny_evalAll_cons (B1 (cR (f A' s σ H _ I h) λu k ⟨x,i,b,a,c⟩=>B1 (UM (GE ?_))));exact cR (m pos A' k σ i _ b c) λus n ⟨xs,d,g,j,l⟩=>⟨x::xs,d,g,.cons a j,l⟩
variable{g:L B5->L B5->L B5}{gV:L V->L V->L V}
end
structure ay(N P:L Z)(sc:Vj):Prop where
 kind:sc.kind= .function
 co:sc.isCoroutine=F'
 gen:sc.isGenerator=F'
 nd:N.Nodup
 pre:N.take P.length=P
 par:∀x∈P,sc.names.lookup x=O .local\/sc.names.lookup x=O .cell
 nofree:∀y∈sc.names,y.2≠ .free
theorem sY:∀{binds:L (Z×B5)}{m:Z->O' B5},(∀v,(x,v)∉binds)->ZH kindOf binds m x=m x
 |[],_,_=>rfl
 |(n,v)::r,m,h=>by
  unfold ZH;rw[sY λw a=>h w (Fk _ a)]
  split
  ·have :x≠n:=by rintro rfl;exact h v De
   simp[this]
  ·rfl
theorem s_:∀{binds:L (Z×B5)}{m:Z->O' B5},(∀v,(x,v)∉binds)->ZI kindOf binds m x=m x
 |[],_,_=>rfl
 |(n,v)::r,m,h=>by
  unfold ZI;rw[s_ λw a=>h w (Fk _ a)]
  split
  ·rfl
  ·have :x≠n:=by rintro rfl;exact h v De
   simp[this]
theorem ud{v:B5}:∀{P:L Z}{vs:L B5}{i:M'}{m:Z->O' B5},P.Nodup->P[i]? =O x->vs[i]? =O v->kindOf x=O .local->
  ZH kindOf (P.zip vs) m x=O v
 |[],_,_,_,_,h,_,_=>by simp at h
 |_::_,[],_,_,_,_,h,_=>by simp at h
 |p::P,w::vs,0,m,c,a,b,d=>by
  simp at a b;subst a;subst b;show ZH kindOf ((p,w)::P.zip vs) m p=_;unfold ZH;rw[sY λv e=>(Xx.mp c).1 (YE e).1,KF d];simp
 |p::P,w::vs,i+1,m,c,a,b,d=>by
  show ZH kindOf ((p,w)::P.zip vs) m x=_;unfold ZH;exact ud (i:=i) (Xx.mp c).2 (by simpa using a) (by simpa using b) d
theorem tw{v:B5}:∀{P:L Z}{vs:L B5}{i:M'}{m:Z->O' B5},P.Nodup->P[i]? =O x->vs[i]? =O v->kindOf x≠O .local->
  ZI kindOf (P.zip vs) m x=O v
 |[],_,_,_,_,h,_,_=>by simp at h
 |_::_,[],_,_,_,_,h,_=>by simp at h
 |p::P,w::vs,0,m,c,a,b,d=>by
  simp at a b;subst a;subst b;show ZI kindOf ((p,w)::P.zip vs) m p=_;unfold ZI;rw[s_ λv e=>(Xx.mp c).1 (YE e).1,GM d];simp
 |p::P,w::vs,i+1,m,c,a,b,d=>by
  show ZI kindOf ((p,w)::P.zip vs) m x=_;unfold ZI;exact tw (i:=i) (Xx.mp c).2 (by simpa using a) (by simpa using b) d
noncomputable def start(N:L Z)(vs:L V):St:=vs.map O++TZ (N.length-vs.length) Y
noncomputable def aT(CX:IE)(P:To)(w:TV)(K:B0)(mg:Z->O' B5)(B':T9)(N:L Z)(V':Z)(S':Vj)(f:B4)(b:B5)(A:UU)(U':L Env)(s:FM)(H:Hp)(E:XK):Cx where
 prog:=P
 w:=w
 K:=K
 mg:=mg
 base:=B'
 A:=A.deeper (envOfC V' S' s.heap.objs.size f b)
 N:=N
 s₀:=s
 H₀:=H
 env:=envOfC V' S' s.heap.objs.size f b
 outer:=U'
 stack:=envOfC V' S' s.heap.objs.size f b::U'
 ex:=[]
 calm:=T'
 fn:=λ_=>T'
 pn:=[]
 xe:=λe s'=>Ki (Pp P w) (A.deeper (envOfC V' S' s.heap.objs.size f b)) (leaving (envOfC V' S' s.heap.objs.size f b) e) (λ_ a=>CX U' H s E e a) (λc a=>CX U' H s E c a) s'
def xq{a:Vj}(h:a.names.lookup x=O .cell):∃c,(abt n a.names []).lookup x=O c:=by
 have q:=ZY a.names n [] (.inl h);exact aai.mp q
theorem Cj{B:B5}{D:FM}{E:XK}(S:ay N ps S')(J:A.handled=Y)(g:Ay P w K mg B' A U' s H)(R:vs.length=ps.length)(r:Vals vs us)(x:InCallC s s.heap.objs.size (ZH (envOfC V' S' s.heap.objs.size f B).kindOf (ps.zip us) λ_=>Y) (abt (s.heap.objs.size+1) S'.names []) (ZI (envOfC V' S' s.heap.objs.size f B).kindOf (ps.zip us) λ_=>Y) D):
  Inv (aT CX P w K mg B' N V' S' f B A U' s H E) [] (start N vs) H D:=by
 have G:ps.length<=N.length:=by have :=Tb Wf S.pre;rw[TJ]at this;lia
 obtain⟨t,T,rfl,C⟩:=x.done;have j:∀b:B4,b∉(aT CX P w K mg B' N V' S' f B A U' s H E).ex:=λb z=>KB (show b∈([]:L B4)from z) (by simp)
 refine⟨⟨g.mod,S.kind,U,U,B9 _,λy z c t d=>?_,λy hy=>?_,λy c _ h=>?_,λ_=>J,Around.frames_deeper g.frames,.inr ⟨U,U⟩,λb z=>KB z (j b),g.bs,g.bsz,λb _ _=>j b,λb z=>KB z (j b),g.jK,g.frf⟩,
  rfl,g.bare,Un.kept C,⟨_,x.toInCall.ns,λi y v t d Q=>?_⟩,λy c h=>⟨_,x.cell y c h⟩,g.hok.fresh (B9 _),λy c h=>?_,λp l=>KB (show p∈([]:L (B4×Obj))from l) (by simp),g.hok.kept C,?_⟩
 ·exact name_of_addr x.apart (UG t) (UG d)
 ·have hy:S'.names.lookup y=O .cell\/S'.names.lookup y=O .free:=hy
  rcases hy with hy|hy
  ·exact xq hy
  ·exact KB U (S.nofree _ (UG hy))
 ·exact W7 (x.above y c (UG h))
 ·have o:i<vs.length:=by
   unfold start at d;by_cases o:i<vs.length
   ·exact o
   ·rw[Re (by simpa using o)]at d;rw[ZM]at d
    split at d<;>cases d
  have M:vs[i]? =O v:=by
   unfold start at d;rw[Sv (by simpa using o),B6]at d
   cases e:vs[i]? with
   |none=>rw[e]at d;cases d
   |some a=>rw[e]at d;cases d;rfl
  obtain⟨u,F,I⟩:=r.get M
  have l:ps[i]? =O y:=by
   rw[<-S.pre,List.getElem?_take_of_lt (by lia)];exact t
  have m:ps.Nodup:=by rw[<-S.pre];exact S.nd.sublist (List.take_sublist _ _)
  refine⟨u,I,?_⟩
  rcases S.par y (Do l)with k|k
  ·exact .inl ⟨k,ud m l F k⟩
  ·obtain⟨c,e⟩:=xq (n:=s.heap.objs.size+1) k;refine .inr ⟨.inl k,c,e,?_⟩;have q:=x.cell y c e;rw[tw m l F (by show S'.names.lookup y≠_;rw[k];decide)]at q;exact q
 ·exact g.hok.fresh (W7 (x.above y c (UG h)))
 ·unfold start;show _=N.length;rw[B3,AC,V5]
  lia
def Lu{k:M'}{a:Arguments}{X kV j G g M oc:B5}{an od:O' B4}{B:Us (O' B5)}(lk:K.lookup f=O ⟨oc,od,.func (U9 name V' a body S' X kV j G an g M),B⟩)(z:Xu K g V'=T')(S:ay N ps S')(len:∀vs H Q E,sp vs H Q E->vs.length=ps.length)(h:∀(A:UU)(U':L Env)(s:FM)(H:Hp)(vs:L V)(Q:VK)(E:XK),gk k (A.deeper (envOfC V' S' s.heap.objs.size f g))->sp vs H Q E->
   ∃t,si (aT CX P w K mg B' N V' S' f g A U' s H E) body t/\t {nx:=λ_ H'=>Q .non H',rt:=Q} (start N vs) H):
  aS P w K mg B' CX (k+1) f (U9 name V' a body S' X kV j G an g M) ps sp:=by
 refine⟨len,λA U' s H T us vs Q E F l hb r p=>?_⟩;have hl:=len _ _ _ _ p;have KX:K.In s.heap:=l.mod.kin.keeps λb o e=>(l.bs b o e).1;have D:s.heap.NoLimit:=l.mod.nolimit.keeps λb o e=>(l.bs b o e).1
 have d:∀y∈ps.zip us,S'.names.lookup y.1=O .local\/(S'.names.lookup y.1=O .cell/\((abt (s.heap.objs.size+1) S'.names []).lookup y.1).isSome=T'):=λ⟨n,v⟩ hy=>by
  rcases S.par n (YE hy).1 with q|q
  ·exact .inl q
  ·exact .inr ⟨q,ZY _ _ _ (.inl q)⟩
 refine codeAny_call_function F.depth (KX _ _ lk) U S.co S.gen U (PySem.W.codeRec_of KX z) (hb _ _ _ _ ?_);refine wpAny_newFunctionEnv_cells S.kind d λa0 he R x=>?_;subst he;refine⟨D.keeps x.toInCall.keep,codeAny_func ?_⟩;obtain⟨t,ht,hq⟩:=h A U' s H vs Q E (F.deeper _) p;have I:Inv (aT CX P w K mg B' N V' S' f g A U' s H E) [] (start N vs) H R:=Cj S F.hd l hl r x;refine SW (ht [] R (start N vs) H _ I hq) (λfl s' i=>?_) λe s' i=>i
 have m:∀{c:St}{H':Hp}{v:V}{u:B5},Inv (aT CX P w K mg B' N V' S' f g A U' s H E) [] c H' s'->RelV v u->Q v H'->CE U' P w H s Q u s':=
  λ{c H' v u} J C q=>⟨v,H',J.os,J.bare,J.base,J.hok,C,q⟩
 cases fl with
 |ret u=>
  obtain⟨v,c,H',J,C,q⟩:=i;exact m J C q
 |next=>
  obtain⟨c,H',J,q⟩:=i;exact m (v:=V.non) (u:=Uo) J U q
 |brk=>
  obtain⟨_,_,_,q⟩:=i;exact UR q
 |cont=>
  obtain⟨_,_,_,q⟩:=i;exact UR q
section
variable{t:TA}{id T:UP}{r:L V->Hp->VK->Prop}
def wN(r:L V->Hp->VK->Prop)(t:TA):TE:=λσ H Q=>t σ H λvs a=>r vs a Q
def aI(l:e_ X (.builtin id) r)(j:Gl X x)(i:X.mg x=Y)(d:UI x=O (.builtin id))(k:PA X (e::es) t)(o:x≠"__name__":=by decide)(b:(x==("__debug__":Z))=F':=by decide)(m:P3 (e::es) X.env=(F',eval e X.env)::P3 es X.env:=by rfl)(a:(UJ pos (P3 es X.env)).any (·.1)=F':=by rfl):PE X (.Call (.Name x p) (e::es) [] pos) (wN r t):=by
 intro A' s σ H Q I h;refine Uv (ip I j i d ?_ o b);exact PyProof.Rows.callWith_builtin1 (cR (k pos A' s σ H _ I h) λus q ⟨vs,n,f,c,g⟩=>l A' q σ n vs us Q f c g) m a
def aM(l:e_ X (.type T) r)(j:Gl X x)(i:X.mg x=Y)(d:UI x=O (.type T))(k:PA X (e::es) t)(o:x≠"__name__":=by decide)(b:(x==("__debug__":Z))=F':=by decide)(m:P3 (e::es) X.env=(F',eval e X.env)::P3 es X.env:=by rfl)(a:(UJ pos (P3 es X.env)).any (·.1)=F':=by rfl):PE X (.Call (.Name x p) (e::es) [] pos) (wN r t):=by
 intro A' s σ H Q I h;refine Uv (ip I j i d ?_ o b);exact TL (cR (k pos A' s σ H _ I h) λus q ⟨vs,n,f,c,g⟩=>l A' q σ n vs us Q f c g) m a
end
end L2
namespace HT
open PySem PyProof.Rows
section
variable{prog:To}{w:TV}{A:UU}{E:B5->FM->Prop}{s:FM}
def KU{t b:B4}{d a:L B5}{Q:B5->FM->Prop}(z:IsTup s.heap t d.toArray)(y:IsTup s.heap b a.toArray)(p:d≠[])(B:a=[]->Q (.ref t) s)(x:a≠[]->Q (.ref s.heap.objs.size) {s with heap:=s.heap.push {cls:= .type "tuple",data:= .seq (d++a).toArray}})(l:d.length+a.length<=sizeLine):Ki (Pp prog w) A (binaryOp .Add (.ref t) (.ref b)) Q E s:=by
 obtain⟨⟨cls,dd,data,o⟩,j,r,n,q⟩:=id z;obtain⟨⟨v,f,m,i⟩,c,h,u,g⟩:=id y;simp only at r q h g;subst r q h g
 have e:d.toArray++a.toArray=(d++a).toArray:=by simp
 by_cases k:a=[]
 ·exact ZW ⟨_,j,U⟩ ⟨_,c,U⟩ Yp Zu W6 WX (WL _ _)
   (tuple_addW1 t b d.toArray a.toArray n u dd f o i (by simpa using p) (by simp[k])) ⟨j,c,B k⟩
 ·refine ZW ⟨_,j,U⟩ ⟨_,c,U⟩ Yp Zu W6 WX (WL _ _)
   (tuple_addW2 t b d.toArray a.toArray n u dd f o i (by simpa using p) (by simpa using k) (by rw[B8,B8];exact l)) ⟨j,c,?_⟩
  rw[e];exact x k
noncomputable def sZ(n d:M'):O' J'->M'
 |none=>d
 |some v=>if v<0 then(v+(n:J')).toNat else min v.toNat n
def md(n d:M'):sZ n d Y=d:=rfl
theorem pO(n d k:M'):sZ n d (O (k:J'))=min k n:=by
 show(if(k:J')<0 then((k:J')+(n:J')).toNat else min (k:J').toNat n)=min k n;rw[GM (by lia),Yi]
end
end HT
namespace L2
open PySem PySem.Spec PyProof.Rows
abbrev TO:=St->Hp->(O' J'->Hp->Prop)->Prop
def PO(X:Cx)(e:O' Expr)(t:TO):Prop:=
 ∀(b:L (B4×Obj))(s:FM)(σ:St)(H:Hp)(Q:O' J'->Hp->Prop),Inv X b σ H s->t σ H Q->
  Ki (Pp X.prog X.w) X.A (evalPart e X.env) (λu c=>∃o a,Inv X b σ a c/\IsPart u o/\Q o a) X.xe s
def pC:TO:=λ_ H Q=>Q Y H
inductive Mt(Q:O' J'->Hp->Prop)(x:V)(H1:Hp):Prop
 |mk (i:_) (c0:x= .int i) (c1:Q (O i) H1)
def A1(t:TE):TO:=λσ H Q=>t σ H λx a=>Mt Q x a
def intsAre_of{b:L J'}:∀{a:L B5},Vals (b.map V.int) a->YL a b:=by
 induction b with
 |nil=>intro a r;rw[Ye]at r;cases r;exact .nil
 |cons n b f=>
  intro a r;rw[SQ]at r
  cases r with
  |cons c d=>
   obtain⟨t,e⟩:=c;subst e;exact .cons n t (f d)
variable{X:Cx}{e:Expr}{pos:Pos}{us its its':L B5}{xs ys:L V}{i:J'}{j n t':M'}{A:UU}{H:Hp}{T:UP}{p:B4}{A':L (B4×Obj)}{s:FM}{u v:B5}{x y:V}{σ:St}
section
variable{te:TE}{lo hi:O' Expr}{tl th:TO}{p2:Pos}
def eH:PO X Y pC:=by
 intro A' s σ H Q I h;rw[evalPart_none];exact GE ⟨Y,H,I,.none,h⟩
def eu(h:PE X e te):PO X (O e) (A1 te):=by
 intro A' s σ H Q I f;rw[evalPart_some];refine cR (h A' s σ H _ I f) λu g ⟨x,d,b,a,c⟩=>?_;obtain⟨i,rfl,q⟩:=c;obtain⟨t,rfl⟩:=a;exact⟨O i,d,b,.int i t,q⟩
def Ra(X:Cx)(r:V->O' J'->O' J'->Hp->VK->Prop):Prop:=
 ∀(A':L (B4×Obj))(s:FM)(σ:St)(H:Hp)(x:V)(v a b:B5)(lo hi:O' J')(c:B4)(Q:VK),Inv X A' σ H s->RelV x v->s.heap.IsSliceOf c a b .none->IsPart a lo->IsPart b hi->r x lo hi H Q->
  ∃T d,XU (.type T) "__getitem__"=pure (O (.builtin d))/\s.TypeIs v T/\Ki (Pp X.prog X.w) X.A (getItem v (.ref c)) (EP X A' σ Q) X.xe s
def QJ(r:V->O' J'->O' J'->Hp->VK->Prop)(te:TE)(tl th:TO):TE:=λσ H Q=>te σ H λx b=>tl σ b λl c=>th σ c λu a=>r x l u a Q
def dn{r:V->O' J'->O' J'->Hp->VK->Prop}(N:Ra X r)(p:PE X e te)(B:PO X lo tl)(G:PO X hi th):PE X (.Subscript e (.Slice lo hi Y p2) pos) (QJ r te tl th):=by
 intro A' s σ H Q I h;refine aaS (cR (p A' s σ H _ I h) λv t ⟨x,K,j,g,k⟩=>?_);refine wpAny_Slice (cR (B A' t σ K _ j k) λc C ⟨l,m,F,M,y⟩=>cR (G A' C σ m _ F y) λd a ⟨u,f,D,J,o⟩=>?_);rw[evalPart_none];refine GE ?_;have n:Inv X A' σ f {a with heap:=a.heap.push {cls:= .type "slice",data:= .fields #[c,d,.none]}}:=D.kept (t':=a.toks) λb P q=>B7 _ q;obtain⟨T,R,i,z,E⟩:=N A' {a with heap:=a.heap.push {cls:= .type "slice",data:= .fields #[c,d,.none]}} σ f x v c d l u a.heap.objs.size Q n g (Heap.IsSliceOf.new ..) M J o;show Ki (Pp X.prog X.w) X.A (subscriptTail e (.Slice lo hi Y p2) v (.ref a.heap.objs.size)) (EP X A' σ Q) X.xe {a with heap:=a.heap.push {cls:= .type "slice",data:= .fields #[c,d,.none]}};exact tail_any (ops:=[.ref a.heap.objs.size,v]) z i E (by with_unfolding_all rfl)
noncomputable def mE(xs:L V)(lo hi:O' J'):L V:=(xs.drop (HT.sZ xs.length 0 lo)).take (HT.sZ xs.length xs.length hi-HT.sZ xs.length 0 lo)
theorem xp(xs:L V)(lo hi:O' J'):(mE xs lo hi).length<=xs.length:=by
 unfold mE;rw[TJ,Ta]
 lia
def P5(K:B0):R2:=λx y H Q=>∃a b xs ys,x= .ref a/\y= .ref b/\bq K H a xs/\bq K H b ys/\xs≠[]/\xs.length+ys.length<=sizeLine/\
 (ys=[]->Q (.ref a) H)/\(ys≠[]->∀p,H p=Y->Q (.ref p) (upd H p (.tup (xs++ys))))
def Vals.uz(r:Vals xs us):us=[]↔xs=[]:=by
 cases r with
 |nil=>simp
 |cons _ _=>simp
def BZ:je X (binaryOp .Add) (P5 X.K):=by
 intro A' s σ H x y v u Q I j g h;obtain⟨a,b,xs,ys,rfl,rfl,p,n,m,f,i,k⟩:=h
 cases j
 cases g
 obtain⟨its,d,l,_⟩:=I.tuple p;obtain⟨e,c,p2,_⟩:=I.tuple n;refine HT.KU l p2 (λz=>m (d.uz.mp z)) (λz=>⟨.ref a,H,I,U,i (c.uz.mp z)⟩) (λz=>?_) (by rw[<-d.length,<-c.length];exact f);refine⟨.ref s.heap.objs.size,_,I.laid (t':=s.toks) (o:= .tup (xs++ys)) (λb r q=>B7 _ q) (B9 _) ?_,U,k (λw=>z (c.uz.mpr w)) _ (I.hok.fresh (B9 _))⟩;exact⟨by rw[B3];exact f,_,d.append c,abC _ _⟩
end
noncomputable def M5(n:M')(i:J'):O' M':=if 0<=i then(if i<n then O i.toNat else Y)else if -(n:J')<=i then O (i+n).toNat else Y
noncomputable def oE{α:Type}(xs:L α)(i:J'):O' α:=(M5 xs.length i).bind λj=>xs[j]?
theorem BS(h:M5 n i=O j):seqIndex? i n=O j/\j<n/\ -(n:J')<=i/\i<n:=by
 unfold M5 at h;by_cases b:0<=i
 ·rw[KF b]at h;by_cases a:i<n
  ·rw[KF a]at h;have e:i.toNat=j:=SV h;exact⟨by rw[aar b a,e],by lia,by lia,a⟩
  ·rw[GM a]at h;cases h
 ·rw[GM b]at h;by_cases a: -(n:J')<=i
  ·rw[KF a]at h;have e:(i+n).toNat=j:=SV h;exact⟨by rw[ZT (by lia) a,e],by lia,a,by lia⟩
  ·rw[GM a]at h;cases h
def vy{α:Type}{xs:L α}{v:α}(h:oE xs i=O v):∃j,seqIndex? i xs.length=O j/\xs[j]? =O v/\j<xs.length/\ -(xs.length:J')<=i/\i<xs.length:=by
 unfold oE at h
 cases e:M5 xs.length i with
 |none=>rw[e]at h;cases h
 |some j=>
  rw[e]at h;obtain⟨d,c,a,b⟩:=BS e;exact⟨j,d,h,c,a,b⟩
theorem aG{α:Type}{xs:L α}{v:α}(h:xs[j]? =O v):oE xs (j:J')=O v:=by
 have a:j<xs.length:=(TK.mp h).1
 have e:M5 xs.length (j:J')=O j:=by
  unfold M5;rw[KF (by lia),KF (by lia)];simp
 unfold oE;rw[e];exact h
def pk(b:Expr):Prop:=∀o i,Yt b F' o i=operate [o,i] (getItem o i)
def Ot(X:Cx)(r:R2):Prop:=
 ∀(a slice:Expr)(A':L (B4×Obj))(s:FM)(σ:St)(H:Hp)(x y:V)(v u:B5)(Q:VK),Inv X A' σ H s->RelV x v->RelV y u->r x y H Q->
  Yt slice F' v u=operate [v,u] (getItem v u)->Ki (Pp X.prog X.w) X.A (subscriptTail a slice v u) (EP X A' σ Q) X.xe s
def QG(X:Cx)(a:UP)(r:V->L V->Hp->VK->Prop):Prop:=
 ∀(A':L (B4×Obj))(s:FM)(σ:St)(H:Hp)(x:V)(xs:L V)(v:B5)(us:L B5)(Q:VK),Inv X A' σ H s->RelV x v->Vals xs us->r x xs H Q->
  Ki (Pp X.prog X.w) X.A (call (.builtin a) (v::us)) (EP X A' σ Q) X.xe s
section
variable{a b:Expr}{ta tb:TE}
def jD{r:R2}(k:Ot X r)(g:PE X a ta)(l:PE X b tb)(d:pk b):PE X (.Subscript a b pos) (ix r ta tb):=by
 intro A' s σ H Q I h;exact aaS (MG g l I h λv u e x y f i j c q=>k a b A' e σ f x y v u Q i j c q (d _ _))
inductive Oi(K:B0)(x:V)(y:V)(H:Hp)(Q:VK):Prop
 |mk (p:_) (xs:_) (i:_) (v:_) (c0:x= .ref p) (c1:y= .int i) (c2:bu K H p xs) (c3:oE xs i=O v) (c4:Q v H)
def vj(K:B0):R2:=λx y H Q=>Oi K x y H Q
inductive Qd(K:B0)(x:V)(y:V)(H:Hp)(Q:VK):Prop
 |mk (p:_) (xs:_) (i:_) (v:_) (c0:x= .ref p) (c1:y= .int i) (c2:bq K H p xs) (c3:oE xs i=O v) (c4:Q v H)
def yj(K:B0):R2:=λx y H Q=>Qd K x y H Q
inductive Qa(x:V)(y:V)(H:Hp)(Q:VK):Prop
 |mk (z:_) (i:_) (c:_) (c0:x= .str z) (c1:y= .int i) (c2:z.length<=sizeLine) (c3:oE z.cps.toList i=O c) (c4:Q (.str ⟨#[c]⟩) H)
def Ru:R2:=λx y H Q=>Qa x y H Q
theorem vT:Ot X (vj X.K):=by
 intro d slice A' s σ H x y v u Q I D m h l;obtain⟨p,xs,i,z,rfl,rfl,F,A,q⟩:=h
 cases D
 obtain⟨t,rfl⟩:=m;obtain⟨its,r,e,M⟩:=I.list F;obtain⟨j,b,o,G,C,B⟩:=vy A;obtain⟨w,g,c⟩:=r.get o;have E:=r.length;have J:=lC;have a:EP X A' σ Q w s:=⟨z,H,I,c,q⟩;by_cases k:0<=i
 ·have f:i.toNat=j:=by
   rw[aar k B]at b;exact SV b
  exact item_listR e.isList k (by lia) (by rw[f];simpa using g) a l
 ·have f:(i+(its.toArray.size:J')).toNat=j:=by
   rw[ZT (by lia) C]at b;rw[B8,<-E];exact SV b
  exact ZS (x:=w) e.isList.typeIs slot_list_getitem.lookup
   (wpAny_getItem_list_neg (Q:=λr n=>r=w/\EP X A' σ Q r n) e.isList (by lia) (by rw[B8]<;>lia) (by lia) (by rw[f];simpa using g) ⟨U,a⟩) l
theorem vp:Ot X (yj X.K):=by
 intro c slice A' s σ H x y v u Q I m e h B;obtain⟨p,xs,i,z,rfl,rfl,A,k,q⟩:=h
 cases m
 obtain⟨t,rfl⟩:=e;obtain⟨its,r,d,G⟩:=I.tuple A;obtain⟨j,n,g,C,E,D⟩:=vy k;obtain⟨w,l,a⟩:=r.get g;have o:=r.length;have F:=lC;have b:EP X A' σ Q w s:=⟨z,H,I,a,q⟩
 exact ZS (x:=w) d.typeIs slot_tuple_getitem.lookup
  (getItem_tuple (j:=j) (Q:=λr f=>r=w/\EP X A' σ Q r f) d (by lia) (by lia) (by rw[B8,<-o];exact n) (by simpa using l) ⟨U,b⟩) B
theorem qM:Ot X Ru:=by
 intro a slice A' s σ H x y v u Q I n d h p;obtain⟨z,i,c,rfl,rfl,A,k,q⟩:=h;obtain⟨t,rfl⟩:=n;obtain⟨t',rfl⟩:=d;obtain⟨j,b,f,r,m,l⟩:=vy k
 have o:z.cps.toList.length=z.length:=by simp[Str.length]
 rw[o]at b m l;have w:=lC
 exact tail_any (VL s z t) slot_str_getitem.lookup (getItem_str (c:=c) (by
  have g:decide (i< -(2^63:J'))=F':=GT (by lia);have e:decide (i≥2^63)=F':=GT (by lia)
  rw[g,e,XS]) (by rw[b];simpa using f) ⟨.str ⟨#[c]⟩,H,I.tok _,⟨_,U⟩,q⟩) p
def yN(its:L B5)(n j:M')(u:B5):UQ (·.setIfInBounds j u) {cls:= .type "list",data:= .seq its.toArray n}={cls:= .type "list",data:= .seq (its.set j u).toArray n}:=by
 simp[UQ]
def Inv.lst{A':L (B4×Obj)}{σ:St}{H:Hp}{s:FM}{p:B4}{xs:L V}(I:Inv X A' σ H s)(h:H p=O (.lst xs)):
  ∃(its:L B5)(n:M'),Vals xs its/\s.heap.get? p=O {cls:= .type "list",data:= .seq its.toArray n}/\xs.length<=sizeLine:=by
 obtain⟨z,its,n,r,e⟩:=I.hok p _ h;exact⟨its,n,r,e,z⟩
def Inv.NO{a:M'}{f:Obj->Obj}(I:Inv X A' σ H s)(h:H p=O (.lst xs))(d:s.heap.get? p=O {cls:= .type "list",data:= .seq its.toArray n})(c:f {cls:= .type "list",data:= .seq its.toArray n}={cls:= .type "list",data:= .seq its'.toArray a})(r:Vals ys its')(g:ys.length<=sizeLine)(t:M'):
  Inv X A' σ (upd H p (.lst ys)) {s with heap:=s.heap.update p f,toks:=t}:=by
 have e:(s.heap.update p f).get? p=O {cls:= .type "list",data:= .seq its'.toArray a}:=by
  rw[Tj f d (by rw[c]<;>rfl),c]
 refine I.write (x:=p) (e:=p) (by rw[h];trivial) (.inl U) (λb u i q=>(Th _ _ (SZ i)).trans q) ⟨_,e⟩ ?_;exact⟨g,its',a,r,e⟩
def Py:V->V->V->Hp->(Hp->Prop)->Prop:=λo i v H Q=>∃p xs k j,o= .ref p/\i= .int k/\H p=O (.lst xs)/\M5 xs.length k=O j/\Q (upd H p (.lst (xs.set j v)))
theorem set_list:Qf X Py:=by
 intro A' s σ H o i v E C u Q I y x w h;obtain⟨p,xs,k,j,rfl,rfl,e,z,q⟩:=h
 cases y
 obtain⟨t,rfl⟩:=x;obtain⟨its,n,r,d,A⟩:=I.lst e;obtain⟨a,B,f,g⟩:=BS z;have c:=r.length;have D:=lC
 have l:Inv X A' σ (upd H p (.lst (xs.set j v))) {s with heap:=s.heap.update p (UQ (·.setIfInBounds j u))}:=
  I.NO e d (yN its n j u) (r.set w j) (by rw[List.length_set];exact A) s.toks
 by_cases m:0<=k
 ·have b:k.toNat=j:=by
   rw[aar m g]at a;exact SV a
  exact PySem.W.ki_setAt d m (by lia) (by rw[B8,<-c];exact g) (by rw[b];exact⟨_,l,q⟩)
 ·have b:(k+(its.toArray.size:J')).toNat=j:=by
   rw[ZT (by lia) f]at a;rw[B8,<-c];exact SV a
  exact PySem.W.ki_setBack d (by lia) (by rw[B8,<-c];exact f) (by lia) (by rw[b];exact⟨_,l,q⟩)
theorem ve(a b:O' J')(n:M'):(Wc a b Y n).1=((HT.sZ n 0 a:M'):J')/\(Wc a b Y n).2.1=((HT.sZ n n b:M'):J')/\(Wc a b Y n).2.2=1:=by
 refine⟨?_,?_,U⟩
 ·cases a with
  |none=>simp[Wc,HT.sZ]
  |some i=>
   simp only[Wc,HT.sZ,abw,show(1:J')>0 by decide,Ww];by_cases h:i<0
   ·simp only[h,Ww]<;>lia
   ·simp only[h,Wp]<;>lia
 ·cases b with
  |none=>simp[Wc,HT.sZ]
  |some i=>
   simp only[Wc,HT.sZ,abw,show(1:J')>0 by decide,Ww];by_cases h:i<0
   ·simp only[h,Ww]<;>lia
   ·simp only[h,Wp]<;>lia
def sA(its:L B5)(a b:O' J'):slicePick its.toArray a b Y=((its.drop (HT.sZ its.length 0 a)).take (HT.sZ its.length its.length b-HT.sZ its.length 0 a)).toArray:=by
 obtain⟨e,d,c⟩:=ve a b its.toArray.size;unfold slicePick;rw[e,d,c];simp only[sliceRange_one,pick_run,B8]<;>rfl
inductive O0(K:B0)(x:V)(lo:O' J')(hi:O' J')(H:Hp)(Q:VK):Prop
 |mk (a:_) (xs:_) (c0:x= .ref a) (c1:bu K H a xs) (c2:∀p,H p=Y->Q (.ref p) (upd H p (.lst (mE xs lo hi))))
def Ky(K:B0):V->O' J'->O' J'->Hp->VK->Prop:=λx a b H Q=>O0 K x a b H Q
theorem gq:Ra X (Ky X.K):=by
 intro A' s σ H x v n p d e t Q I i l j g h;obtain⟨a,xs,rfl,m,q⟩:=h
 cases i
 obtain⟨its,r,f,k⟩:=I.list m;have c:=r.length;refine⟨"list",_,slot_list_getitem.lookup,f.isList.typeIs,?_⟩;refine wpAny_getItem_list_slice f.isList l j g .none (by simp) ?_ (by rw[B8]<;>lia);rw[sA,<-c];refine⟨.ref s.heap.objs.size,_,I.laid (t':=s.toks) (o:= .lst (mE xs d e)) (λb u q=>B7 _ q) (B9 _) ?_,U,q _ (I.hok.fresh (B9 _))⟩;exact⟨Tf (xp xs d e) k,_,0,(r.drop (HT.sZ xs.length 0 d)).take (HT.sZ xs.length xs.length e-HT.sZ xs.length 0 d),Ss _ U⟩
noncomputable def iq:V->Tq
 | .non=>T'
 | .bl _=>T'
 | .int _=>T'
 | .str _=>T'
 |_=>F'
noncomputable def tq:V->V->Tq
 | .non,.non=>T'
 | .bl a,.bl b=>a==b
 | .bl a,.int b=>(if a then 1 else 0)==b
 | .int a,.bl b=>a==(if b then 1 else 0)
 | .int a,.int b=>a==b
 | .str a,.str b=>a==b
 |_,_=>F'
def zv(d:RelV y u)(c:RelV x v)(f:iq y=T')(e:iq x=T'):YV A s u v (tq y x):=by
 cases y with
 |non=>
  cases d
  cases x with
  |non=>cases c;exact SeqAt.EqAt.same _
  |bl b=>cases c;exact SeqAt.EqAt.none_bool b
  |int b=>obtain⟨t,rfl⟩:=c;exact SeqAt.EqAt.none_int b t
  |str b=>obtain⟨t,rfl⟩:=c;exact SeqAt.EqAt.none_str b t
  |_=>exact KB (show F'=T' from e) Om
 |bl a=>
  cases d
  cases x with
  |non=>cases c;exact SeqAt.EqAt.bool_none a
  |bl b=>cases c;exact SeqAt.EqAt.bool_bool a b
  |int b=>obtain⟨t,rfl⟩:=c;exact SeqAt.EqAt.bool_int a b t
  |str b=>obtain⟨t,rfl⟩:=c;exact SeqAt.EqAt.bool_str a b t
  |_=>exact KB (show F'=T' from e) Om
 |int a=>
  obtain⟨t',rfl⟩:=d
  cases x with
  |non=>cases c;exact SeqAt.EqAt.int_none a t'
  |bl b=>cases c;exact SeqAt.EqAt.int_bool a t' b
  |int b=>obtain⟨t,rfl⟩:=c;exact SeqAt.EqAt.int_int a t' b t
  |str b=>obtain⟨t,rfl⟩:=c;exact aaW a t' b t
  |_=>exact KB (show F'=T' from e) Om
 |str a=>
  obtain⟨t',rfl⟩:=d
  cases x with
  |non=>cases c;exact SeqAt.EqAt.str_none a t'
  |bl b=>cases c;exact SeqAt.EqAt.str_bool a t' b
  |int b=>obtain⟨t,rfl⟩:=c;exact aaU a t' b t
  |str b=>obtain⟨t,rfl⟩:=c;exact SeqAt.EqAt.str_str a t' b t
  |_=>exact KB (show F'=T' from e) Om
 |_=>exact KB (show F'=T' from f) Om
noncomputable def KO(x:V)(u:B5):Tq:=match u with
 | .none=>tq .non x
 | .bool b=>tq (.bl b) x
 | .int i _=>tq (.int i) x
 | .str z _=>tq (.str z) x
 |_=>F'
def HV(r:RelV y u)(f:iq y=T'):KO x u=tq y x:=by
 cases y with
 |non=>cases r;rfl
 |bl b=>cases r;rfl
 |int i=>obtain⟨t,rfl⟩:=r;rfl
 |str z=>obtain⟨t,rfl⟩:=r;rfl
 |_=>exact KB (show F'=T' from f) Om
theorem uI:∀{xs:L V}{us:L B5},Vals xs us->xs.all iq=T'->us.any (KO x)=xs.any λy=>tq y x
 |_,_,.nil,_=>rfl
 |y::xs,u::us,.cons r t,f=>by
  rw[Wb,Tw]at f;rw[Wa,Wa,HV r f.1,uI t f.2]
theorem rY(b:RelV x v)(a:iq x=T'):∀{xs:L V}{us:L B5},Vals xs us->xs.all iq=T'->∀u∈us,YV A s u v (KO x u)
 |_,_,.nil,_=>λu hu=>by cases hu
 |y::xs,u::us,.cons r t,f=>λc hu=>by
  rw[Wb,Tw]at f
  rcases PP.mp hu with rfl|hu
  ·rw[HV r f.1];exact zv r b f.1 a
  ·exact rY b a t f.2 c hu
noncomputable def tR(x:V)(xs:L V):Tq:=xs.any λy=>tq y x
def yL(K:B0)(a:Tq):R2:=λx y H Q=>∃p xs,y= .ref p/\(bu K H p xs\/bq K H p xs)/\iq x=T'/\xs.all iq=T'/\Q (.bl (if a then !tR x xs else tR x xs)) H
def dj:je X (compareOp .In) (yL X.K F'):=by
 intro A' s σ H x y v u Q I d e h;obtain⟨p,xs,rfl,hq,c,fs,q⟩:=h
 cases e
 rcases hq with hq|hq
 ·obtain⟨its,r,b,f⟩:=I.list hq;refine SeqAt.in_listAt (KO x) b.isList (λw a=>rY d c r fs w (by simpa using a)) ⟨.bl _,H,I,U,?_⟩;rw[show its.toArray.any (KO x)=its.any (KO x)by simp,uI r fs];exact q
 ·obtain⟨its,r,b,f⟩:=I.tuple hq;refine SeqAt.in_tupleAt (KO x) b (λw a=>rY d c r fs w (by simpa using a)) ⟨.bl _,H,I,U,?_⟩;rw[show its.toArray.any (KO x)=its.any (KO x)by simp,uI r fs];exact q
theorem bM:e_ X (.builtin "len") (λxs H Q=>∃p ys,xs=[.ref p]/\(bu X.K H p ys\/bq X.K H p ys)/\Q (.int ys.length) H):=by
 intro A' s σ H xs us Q I r h;obtain⟨p,ys,rfl,hq,q⟩:=h;obtain⟨u,rfl,d⟩:=vals1 r
 cases d
 have f:=lC
 rcases hq with hq|hq
 ·obtain⟨its,b,c,e⟩:=I.list hq;have a:=b.length;exact Calls.call_len_list c.isList (by simp only[B8]<;>lia) ⟨.int ys.length,H,I.tok _,⟨s.toks+1,by rw[B8,a]⟩,q⟩
 ·obtain⟨its,b,c,e⟩:=I.tuple hq;have a:=b.length;exact len_tuple c (by simp only[B8]<;>lia) ⟨.int ys.length,H,I.tok _,⟨s.toks+1,by rw[B8,a]⟩,q⟩
theorem dE:e_ X (.builtin "len") (λxs H Q=>∃z,xs=[.str z]/\z.length<=sizeLine/\Q (.int z.length) H):=by
 intro A' s σ H xs us Q I r h;obtain⟨z,rfl,b,q⟩:=h;obtain⟨u,rfl,t,rfl⟩:=vals1 r;have a:=lC;exact len_str (by lia) ⟨.int z.length,H,I.tok _,⟨_,U⟩,q⟩
theorem lW:e_ X (.type "list") (λxs H Q=>∃p ys,xs=[.ref p]/\(bu X.K H p ys\/bq X.K H p ys)/\∀l,H l=Y->Q (.ref l) (upd H l (.lst ys))):=by
 intro A' s σ H xs us Q I r h;obtain⟨p,ys,rfl,hq,q⟩:=h;obtain⟨u,rfl,x⟩:=vals1 r
 cases x
 have g:∀(its:L B5),Vals ys its->ys.length<=sizeLine->∀(a:T9)(d:M'),(∀b v,s.heap.get? b=O v->a.get? b=O v)->
   a.get? s.heap.objs.size=O {cls:= .type "list",dict:=Y,data:= .seq its.toArray d,slots:=#[]}->EP X A' σ Q (.ref s.heap.objs.size) {s with heap:=a}:=λits c i a d kp e=>
  ⟨.ref s.heap.objs.size,_,I.laid (t':=s.toks) kp (B9 _) (show cM X.prog X.w _ a _ (.lst ys)from⟨i,its,d,c,e⟩),U,q _ (I.hok.fresh (B9 _))⟩
 rcases hq with hq|hq
 ·obtain⟨its,c,t,i⟩:=I.list hq;have f:=c.length;obtain⟨o,m,j,n,k⟩:=t.isList;exact call_list_seq p (.inl U) m j k (λa d kp e=>g its c i a d kp e) (by simp only[B8]<;>lia)
 ·obtain⟨its,c,t,i⟩:=I.tuple hq;have f:=c.length;obtain⟨o,m,j,n,k⟩:=t;exact call_list_seq p (.inr U) m j k (λa d kp e=>g its c i a d kp e) (by simp only[B8]<;>lia)
theorem bw:e_ X (.type "tuple") (λxs H Q=>∃p ys,xs=[.ref p]/\((bu X.K H p ys/\∀l,H l=Y->Q (.ref l) (upd H l (.tup ys)))\/(bq X.K H p ys/\Q (.ref p) H))):=by
 intro A' s σ H xs us Q I r h;obtain⟨p,ys,rfl,h⟩:=h;obtain⟨u,rfl,m⟩:=vals1 r
 cases m
 rcases h with⟨d,q⟩|⟨d,q⟩
 ·obtain⟨its,c,f,i⟩:=I.list d;have j:=c.length;refine call_tuple_list f.isList (λa kp=>?_) (by simp only[B8]<;>lia);have g:Inv X A' σ H {s with heap:=a}:=I.kept (t':=s.toks) kp
  have k:Inv X A' σ (upd H a.objs.size (.tup ys)) {s with heap:=a.push {cls:= .type "tuple",data:= .seq its.toArray}}:=
   g.laid (t':=s.toks) (λb o e=>B7 _ e) (B9 _) (show cM X.prog X.w _ _ _ (.tup ys)from⟨i,its,c,abC _ _⟩)
  exact⟨.ref a.objs.size,_,k,U,q _ (g.hok.fresh (B9 _))⟩
 ·obtain⟨its,c,f,i⟩:=I.tuple d;exact call_tuple_same f ⟨.ref p,H,I,U,q⟩
def Rt(K:B0)(T:UP)(x:V)(H:Hp):Prop:=match x with
 | .str _=>T="str"
 | .int _=>T="int"
 | .ref p=>(T="list"/\∃xs,bu K H p xs)\/(T="tuple"/\∃o,K.lookup p=O o/\o.cls= .type "tuple"/\o.dict=Y)\/
   (T="dict"/\((∃a,H p=O (.dK a))\/∃a,H p=O (.dT a)))\/(T="set"/\∃S n,H p=O (.set S n))
 |_=>False
def Iy(I:Inv X A' σ H s)(r:RelV x v)(ty:Rt X.K T x H):
  s.TypeIs v T/\∀a,v= .ref a->∃g,s.heap.get? a=O g/\g.dict=Y:=by
 cases x with
 |str z=>
  obtain⟨t,rfl⟩:=r
  cases(show T="str"from ty)
  exact⟨VL s z t,λ_ e=>nomatch e⟩
 |int i=>
  obtain⟨t,rfl⟩:=r
  cases(show T="int"from ty)
  exact⟨typeIs_int s i t,λ_ e=>nomatch e⟩
 |ref p=>
  cases r
  rcases ty with⟨rfl,xs,k⟩|⟨rfl,o,b,j,f⟩|⟨rfl,b⟩|⟨rfl,S,n,b⟩
  ·obtain⟨its,_,h,_⟩:=I.list k;refine⟨h.isList.typeIs,λa e=>?_⟩
   cases e
   obtain⟨o,n,e,c,f,_⟩:=h;exact⟨o,e,f⟩
  ·refine⟨⟨o,I.jG p o b,j⟩,λa e=>?_⟩
   cases e
   exact⟨o,I.jG _ o b,f⟩
  ·have z:∃o,s.heap.get? p=O o/\o.ExactDict:=by
    rcases b with⟨l,b⟩|⟨l,b⟩
    ·obtain⟨_,_,_,_,o,_,_,e,ex,_⟩:=I.hok p _ b;exact⟨o,e,ex⟩
    ·obtain⟨_,_,_,_,o,_,_,e,ex,_⟩:=I.hok p _ b;exact⟨o,e,ex⟩
   obtain⟨o,e,ex⟩:=z;refine⟨⟨o,e,ex.1⟩,λa d=>?_⟩
   cases d
   exact⟨o,e,ex.2.1⟩
  ·obtain⟨o,_,_,_,e,ex,_⟩:=I.hok p _ b;refine⟨⟨o,e,ex.1⟩,λa d=>?_⟩
   cases d
   exact⟨o,e,ex.2.1⟩
 |_=>exact UR ty
def Rl(K:B0)(T:UP)(r:V->L V->Hp->VK->Prop)(b:TE):TE:=λσ H Q=>b σ H λx a=>Rt K T x a/\r x [] a Q
def Pf(K:B0)(T:UP)(r:V->L V->Hp->VK->Prop)(b:TE)(t:TA):TE:=λσ H Q=>b σ H λx a=>Rt K T x a/\t σ a λxs c=>r x xs c Q
variable{o:Expr}{es:L Expr}{to:TE}{t:TA}{name:Z}{apos cpos:Pos}{id:UP}{r:V->L V->Hp->VK->Prop}
def ML(g:aa0 T)(c:Slot T name id)(d:typeOf (.builtin id)=pure (.type "method_descriptor"))(k:QG X id r)(m:PE X o to)(b:VC o name X.env (eval o X.env)=eval o X.env:=by rfl)(a:(apos.endLine==cpos.line)=T':=by rfl):PE X (.Call (.Attribute o name apos) [] [] cpos) (Rl X.K T r to):=by
 intro A' s σ H Q I h;refine wpAny_Call_method0_late b a (cR (m A' s σ H _ I h) λv n ⟨x,l,f,e,ty,i⟩=>?_);obtain⟨p,j⟩:=Iy f e ty;exact⟨T,id,g,c,d,p,j,V2 U (PySem.evalArgs_none (k A' n σ l x [] v [] Q f e .nil i))⟩
def bY(m:aa0 T)(d:Slot T name id)(g:typeOf (.builtin id)=pure (.type "method_descriptor"))(w:QG X id r)(B:PE X o to)(y:PA X (e::es) t)(c:VC o name X.env (eval o X.env)=eval o X.env:=by rfl)(f:((UJ cpos (P3 (e::es) X.env)).all (λx=> !x.1)&&(Vc cpos (Ut [] X.env)).all (λx=>x.1.isSome)
   &&decide ((e::es).length+([]:L WC).length+(if([]:L WC).isEmpty then 0 else 1)<30))=T':=by rfl)(b:(apos.endLine==cpos.line)=T':=by rfl)(l:P3 (e::es) X.env=(F',eval e X.env)::P3 es X.env:=by rfl)(a:(UJ cpos (P3 es X.env)).any (·.1)=F':=by rfl):
  PE X (.Call (.Attribute o name apos) (e::es) [] cpos) (Pf X.K T r to t):=by
 intro A' s σ H Q I h;refine wpAny_Call_method_late c f b U (cR (B A' s σ H _ I h) λv D ⟨x,A,j,i,ty,n⟩=>?_);obtain⟨G,u⟩:=Iy j i ty;refine⟨T,id,m,d,g,G,u,?_⟩;have k:=y cpos A' D σ A _ j n;rw[l]at k⊢;refine V2 (by show(F'||(UJ cpos (P3 es X.env)).any (·.1))=F';rw[a]<;>rfl) (aaA ?_);exact cR k λus p ⟨F,q,z,C,E⟩=>w A' p σ q x F v us Q z i C E
end
def EM(X:Cx)(a:UP)(r:V->L V->Hp->VK->Prop):Prop:=
 ∀(A':L (B4×Obj))(s:FM)(σ:St)(H:Hp)(x:V)(xs:L V)(v:B5)(us:L B5)(Q:VK),Inv X A' σ H s->RelV x v->Vals xs us->r x xs H Q->
  Ki (Pp X.prog X.w) X.A (call (.builtin a) (v::us)) (EP X A' σ Q) X.xe s
def Vals.one:∀{x:V}{us:L B5},Vals [x] us->∃u,us=[u]/\RelV x u
 |_,_,.cons r .nil=>⟨_,U,r⟩
def Vals.two:∀{x y:V}{us:L B5},Vals [x,y] us->∃u v,us=[u,v]/\RelV x u/\RelV y v
 |_,_,_,.cons r (.cons q .nil)=>⟨_,_,U,r,q⟩
def Vals.zero:∀{us:L B5},Vals [] us->us=[]
 |_,.nil=>rfl
def Vals.dropLast(h:Vals xs us):Vals xs.dropLast us.dropLast:=by
 induction h with
 |nil=>exact .nil
 |cons r t a=>
  cases t with
  |nil=>exact .nil
  |cons q t'=>exact .cons r a
def Vals.reverse(h:Vals xs us):Vals xs.reverse us.reverse:=by
 induction h with
 |nil=>exact .nil
 |cons r t a=>rw[WA,WA];exact Vals.append a (.cons r .nil)
theorem za{α:Type}(l:L α):l.eraseIdx (l.length-1)=l.dropLast:=by
 induction l with
 |nil=>rfl
 |cons a r c=>
  cases r with
  |nil=>rfl
  |cons b r=>
   have e:(a::b::r).length-1=((b::r).length-1)+1:=by
    have f:(a::b::r).length=r.length+2:=U;have d:(b::r).length=r.length+1:=U
    lia
   rw[e,List.eraseIdx_cons_succ,c]
   all_goals rfl
section
variable{l b:B4}{zs:L V}
def Inv.MD{f:Us B5->Us B5}(I:Inv X A' σ H s)(d:H l=O (.lst xs))(e:s.heap.get? l=O {cls:= .type "list",data:= .seq its.toArray n})(c:f its.toArray=its'.toArray)(a:Vals ys its')(g:ys.length<=sizeLine):
  Inv X A' σ (upd H l (.lst ys)) {s with heap:=s.heap.update l (UQ f),toks:=t'}:=by
 have q:=PySem.IsL.update e f;rw[c]at q;refine I.write (x:=l) (e:=l) (by rw[d];exact trivial) (.inl U) (λi u h b=>(Th s.heap (UQ f) (SZ h)).trans b) ⟨_,q⟩ ?_;exact⟨g,its',_,a,q⟩
def Inv.Ox(I:Inv X A' σ H s)(b:Vals ys its)(a:ys.length<=sizeLine):
  Inv X A' σ (upd H s.heap.objs.size (.lst ys)) {s with heap:=s.heap.push {cls:= .type "list",data:= .seq its.toArray},toks:=t'}:=
 I.laid (λ_ _ q=>B7 _ q) (B9 _) ⟨a,its,0,b,Ss _ U⟩
def Inv.fresh(I:Inv X A' σ H s):H s.heap.objs.size=Y:=I.hok.fresh (B9 _)
def Inv.DE(I:Inv X A' σ H s)(a:H l=O (.lst xs)):xs.length<=sizeLine/\∃(its:L B5)(n:M'),Vals xs its/\xs.length=its.length/\s.heap.get? l=O {cls:= .type "list",data:= .seq its.toArray n}:=by
 obtain⟨z,its,n,r,e⟩:=I.hok l _ a;exact⟨z,its,n,r,r.length,e⟩
theorem F9(h:n<=sizeLine):WQ n=F':=by
 unfold WQ;exact GT (by lia)
end
inductive EU(x:V)(vs:L V)(H:Hp)(Q:VK):Prop
 |mk (l:_) (xs:_) (y:_) (c0:x= .ref l) (c1:vs=[y]) (c2:H l=O (.lst xs)) (c3:xs.length<sizeLine) (c4:Q .non (upd H l (.lst (xs++[y]))))
def Bm:V->L V->Hp->VK->Prop:=λx a H Q=>EU x a H Q
theorem cC:EM X "list.append" Bm:=by
 intro A' s σ H x i v us Q I d b h;obtain⟨l,xs,y,rfl,rfl,a,g,q⟩:=h
 cases d
 obtain⟨u,rfl,c⟩:=b.one;obtain⟨z,its,n,r,f,e⟩:=I.DE a;refine VM F.slot_list_append ⟨_,e,U⟩ F.entry_list_append (F.args_list_append_2 _ _) (PySem.list_append l its.toArray n u (by rw[B8];lia)) ⟨e,?_⟩;refine⟨.non,_,I.MD (its':=its++[u]) a e (by simp) (r.append (.cons c .nil)) ?_,U,q⟩;rw[B3,List.length_singleton]
 lia
def JG:V->L V->Hp->VK->Prop:=λx c H Q=>∃l b xs a,x= .ref l/\c=[.ref b]/\H l=O (.lst xs)/\H b=O (.lst a)/\xs.length+a.length<=sizeLine/\Q .non (upd H l (.lst (xs++a)))
theorem Dj:EM X "list.extend" JG:=by
 intro A' s σ H x y v us Q I j o h;obtain⟨l,b,xs,B,rfl,rfl,f,m,C,q⟩:=h
 cases j
 obtain⟨u,rfl,p⟩:=o.one
 cases p
 obtain⟨z,its,n,r,A,e⟩:=I.DE f;obtain⟨w,a,i,k,t,g⟩:=I.DE m
 have d:its.toArray.size+a.toArray.size<=sizeLine:=by rw[B8,B8];lia
 have c:¬(!its.toArray.isEmpty&&WQ (its.toArray.size+a.toArray.size))=T':=by
  rw[F9 d,Y9];exact Om
 refine VM F.slot_list_extend ⟨_,e,U⟩ F.entry_list_extend (F.args_list_extend_2 _ _)
  (AutoSeq1.list_extend_list_list_0 l its.toArray n b a.toArray i c (by rw[B8];lia) (by lia)) ⟨e,g,?_⟩
 refine⟨.non,_,I.MD (its':=its++a) f e (by simp) (r.append k) ?_,U,q⟩;rw[B3]
 lia
def Rc:V->L V->Hp->VK->Prop:=λx a H Q=>∃l xs y,x= .ref l/\a=[]/\H l=O (.lst xs)/\xs[xs.length-1]? =O y/\Q y (upd H l (.lst xs.dropLast))
theorem M3:EM X "list.pop" Rc:=by
 intro A' s σ H x m v us Q I k f h;obtain⟨l,xs,y,rfl,rfl,c,i,q⟩:=h
 cases k
 have b:=f.zero;subst b;obtain⟨z,its,n,r,d,e⟩:=I.DE c;obtain⟨u,j,g⟩:=r.get i
 have a:its.toArray[its.toArray.size-1]? =O u:=by
  show its.toArray[its.length-1]? =O u;rw[<-Vf,<-d];exact j
 refine VM F.slot_list_pop ⟨_,e,U⟩ F.entry_list_pop (F.args_list_pop_1 _) (MeetsSeq.list_pop_last l its.toArray n u a (by rw[B8];lia)) ⟨e,?_⟩;refine⟨y,_,I.MD (its':=its.dropLast) c e ?_ r.dropLast ?_,g,q⟩
 ·show its.toArray.eraseIdxIfInBounds (its.toArray.size-1)=its.dropLast.toArray;rw[B8,List.eraseIdxIfInBounds_toArray,za]
 ·rw[aay]
  lia
inductive Qg(x:V)(y:V)(H:Hp)(Q:VK):Prop
 |mk (l:_) (b:_) (xs:_) (zs:_) (c0:x= .ref l) (c1:y= .ref b) (c2:H l=O (.lst xs)) (c3:H b=O (.lst zs)) (c4:xs.length+zs.length<=sizeLine) (c5:∀p,H p=Y->Q (.ref p) (upd H p (.lst (xs++zs))))
def Nd:R2:=λx y H Q=>Qg x y H Q
theorem cx:je X (binaryOp .Add) Nd:=by
 intro A' s σ H x y v u Q I g c h;obtain⟨l,b,xs,w,rfl,rfl,j,k,A,q⟩:=h
 cases g
 cases c
 obtain⟨z,its,n,r,t,e⟩:=I.DE j;obtain⟨o,a,p,i,m,d⟩:=I.DE k;refine PySem.P.add_list e d ?_ (by rw[B8,B8];lia)
 have f:its.toArray++a.toArray=(its++a).toArray:=by simp
 rw[f];exact⟨.ref _,_,I.Ox (t':=s.toks) (r.append i) (by rw[B3];lia),U,q _ I.fresh⟩
end L2
namespace Att
open PySem PySem.W PySem.Calls PyProof.Rows
variable{P:Params}{h:T9}{l:OpenLaw}{n:M'}
def oU:∀(c:L J')(d:L B5),WellAll P h d (c.map WData.int)->YL d c:=by
 intro c
 induction c with
 |nil=>
  intro d w;rw[Ye]at w
  cases w
  exact .nil
 |cons n c e=>
  intro d w;rw[SQ]at w
  cases w with
  |cons a b=>
   cases a
   exact .cons _ _ (e _ b)
theorem Dv(w:l.most=O n){args:L WData}{c:L B5}(e:l.row.toRowW.claim.pre args=T')(m:WellAll P h c args):
  ∃a p b,c=[Kf a]/\args=[WData.list (b.map WData.int)]/\h.get? a=O {cls:= .type "list",data:= .seq p.toArray}/\YL p b/\b.length<=n:=by
 have k:WShape.hasAll [] args [.list .int]=T':=(pre_splitW e).1;have o:l.pre.holds [] {args:=args}=T':=(pre_splitW e).2;obtain⟨d,r,rfl,x,t⟩:=hasAllW_cons k;obtain rfl:=hasAllW_nil t;obtain⟨y,rfl,s⟩:=hasW_list x;obtain⟨b,rfl⟩:=items_int s
 have g:b.length<=n:=by
  unfold OpenLaw.pre at o
  have j:(WTm.not (.lt (.lit (.int (n:J'))) (.len (.arg 0)))).holds [] {args:=[.list (b.map .int)]}=T':=by
   have j:=(holds_andW o).1;rw[w]at j;exact j
  have i:=condW_of j (w_not (w_lt w_lit (w_len_list (w_arg U))));rw[AC]at i;refine Nat.le_of_not_lt λq=>?_
  have u:(n:J')<((b.length:M'):J'):=by lia
  first
   |(rw[FB u]at i;exact KB i (by decide))
   |(simp at i;lia)
 cases m with
 |cons w1 w2=>
  cases w2
  cases w1 with
  |list v f=>exact⟨_,_,b,U,U,v,oU b _ f,g⟩
def DF(l:OpenLaw)(args:L WData):l.row.toRowW.claim.post args (.bool T') args=T':=
 postW_of (r:=l.row.toRowW) (X:=(T'==T'))
  (show WShape.has [] (.bool T') .bool=T' by first|rfl|decide|simp[WShape.has,WShape.arms,WShape.armsAll])
  (show(WTm.eq .res (.lit (.bool T'))).value [] {args:=args,res:=O (.bool T'),after:=args}=O (.bool (T'==T'))from w_eq_bool (w_res U) w_lit) U
def yd{q:To}{g:L Z}{J:(Z->O' B5)->T9->Prop}{K:TV->T9->Prop}{d:DefRec}(R:l.most=O n)(B:d.params.defaults=[])(call:∀(w:TV)(e c:FM)(u C:Z->O' B5)(s:B4)(o:Obj)(z x h:B5)(a:B4)(j:L B5)(v:L J'),
   Ground q g [] J w e u C c.heap->K w c.heap->
   c.heap.get? s=O o->o.data= .func (docDef d.name d.params d.body d.scope z x h)->c.heap.CodeRec x d.name->u d.name=O (.ref s)->
   c.heap.get? a=O {cls:= .type "list",data:= .seq j.toArray}->YL j v->v.length<=n->c.gens=#[]->
   UV (Pp l.prog w) X4 (.call (.ref s) ⟨[.ref a],[]⟩) (λr t=>r= .ok (.ret (.bool T'))/\OldK c.heap t.heap/\t.os=c.os/\WH t.gens) c):
  WalkO q g J K l.row.toRowW d [] (λf j=>aaX f j):=by
 intro w e c u C G b s o z x h V kV ho W y I A X H F as p E S D T;obtain rfl:V= .none:=Dflts.none I B;obtain rfl:kV= .none:=Dflts.noKw I;obtain⟨a,j,v,rfl,rfl,m,i,k⟩:=Dv R p D;refine enter_call (VR (call w e c u C s o z x h a j v G b ho (fd_plain W) y A m i k X) λr t hq=>?_);obtain⟨rfl,N,M,Q⟩:=hq;exact⟨.inl ⟨.bool T',.bool T',[],U,λ_=>U,.bool T',DF l _,λ_=>⟨List.Pairwise.nil,λ_ P=>(nomatch P)⟩⟩,N,M,Q⟩
end Att
namespace L2
open PySem PySem.Spec PyProof.Rows
theorem tL:∀{b:L B5}{a:L J'},YL b a->Vals (a.map V.int) b
 |_,_,.nil=> .nil
 |_,_,.cons n t h=> .cons ⟨t,U⟩ (tL h)
def Me(H:Hp):Prop:=∀b,H b=Y\/∃o a,H b=O (.frz o (.lst a))
variable{K:B0}{P:To}{a f l:B4}{fd:Ud}{mg:Z->O' B5}{sp:Sp}{w:TV}{x V' y:Z}{n:M'}{X:Cx}{N ps:L Z}{st:SX}{pos:Pos}{H H':Hp}{xs:L V}{env:Env}{S':Vj}
def Ic{mb:Z->O' B5}{CX:IE}{k:M'}{W:B4}{c:FM}{t:L B5}{G:L J'}(KX:K.In c.heap)(C:c.heap.Ns SC mg)(g:c.heap.Ns aaR mb)(S:∀x:Z,x≠"__name__"->mb x=UI x)(I:c.heap.NoLimit)(hg:c.gens=#[])(Q:c.heap.get? a=O {cls:= .type "list",data:= .seq t.toArray})(hi:YL t G)(hl:G.length<=sizeLine)(hr:gk k X4)(F:∀B':T9,K.In B'->B'.Ns SC mg->aS P w K mg B' CX k W fd [x] sp)(p:∀(s:FM)(u:B5),YP s fd ⟨[u],[]⟩ [(x,u)])(T:∀H:Hp,Me H->bu K H a (G.map V.int)->sp [.ref a] H (λv _=>v= .bl T') λ_ _ _=>False)(R:∀H e i,CX [] H c (λ_ _ _=>False) e i->False):
  UV (Pp P w) X4 (.call (.ref W) ⟨[.ref a],[]⟩) (λr i=>r= .ok (.ret (.bool T'))/\OldK c.heap i.heap/\i.os=c.os/\WH i.gens) c:=by
 have rv:=tL hi;have E:=hi.length
 have l:∀H:Hp,Me H->bu K H a (G.map V.int)->jE P w H c.heap->(∀b,H b≠Y->b=a)->(H a≠Y->K.lookup a=Y)->
   UV (Pp P w) X4 (.call (.ref W) ⟨[.ref a],[]⟩) (λr i=>r= .ok (.ret (.bool T'))/\OldK c.heap i.heap/\i.os=c.os/\WH i.gens) c:=by
  intro H hO hS N hA hK;have f:∀{b:B4}{o:Obj},c.heap.get? b=O o->H b=Y->(uM c.heap H).get? b=O o:=λe n=>HA e n
  have a0:∀{b:B4}{o:Obj}{D:Us Ys}{M:M'},c.heap.get? b=O o->o.data= .dict D M->H b=Y:=λ{b o D M} e d=>by
   cases q:H b with
   |none=>rfl
   |some u=>
    have e':b=a:=hA b (by rw[q];simp);subst e';rw[Q]at e;cases e;have d':Data.seq t.toArray _=Data.dict D M:=d
    cases d'
  have j:∀{b:B4}{m:Z->O' B5},c.heap.Ns b m->(uM c.heap H).Ns b m:=λ{b m} ⟨o,D,M,e,d,r⟩=>⟨o,D,M,f e (a0 e d),d,r⟩
  have y:K.In (uM c.heap H):=λb o e=>f (KX b o e) (by
   cases q:H b with
   |none=>rfl
   |some u=>
    have e':b=a:=hA b (by rw[q];simp);subst e'
    rw[hK (by rw[q];simp)]at e;cases e)
  have hM:Mod K mg (uM c.heap H):=⟨y,j C,⟨mb,j g,S⟩,let⟨mc,h1,h2⟩:=I;⟨mc,j h1,h2⟩⟩;have e0:Ay P w K mg (uM c.heap H) X4 [] c H:=⟨U,hM,λb o e=>Kh e,Yc (DI _ _),trivial,λb g=>KB (show b∈([]:L B4)from g) (by simp),N,.of_eq hg⟩;refine VR ((F _ y (j C)).run X4 [] c H ⟨[.ref a],[]⟩ [.ref a] [.ref a] _ _ hr e0 (p c (.ref a)) (.cons U .nil) (T H hO hS)) λr i h=>?_
  cases r with
  |error e=>exact(R H e i h).elim
  |ok fl=>
   cases fl with
   |next=>exact UR h
   |brk=>exact UR h
   |cont=>exact UR h
   |ret u=>
    obtain⟨v,H',os,A,un,B,r',q⟩:=h;have q':v= .bl T':=q;subst q';obtain rfl:u=V8 T':=r';refine⟨U,OldK.of_keep λb o e=>?_,os,A⟩
    cases q:H b with
    |none=>exact un.keep b o e q (by intro z;exact KB (show b∈([]:L B4)from z) (by simp)) (by simp)
    |some u=>
     rcases hO b with z|⟨ob,xs,z⟩
     ·rw[q]at z;cases z
     ·have z2:=un.frzs b ob _ z;obtain⟨e1,_⟩:=N b _ z;obtain⟨e2,_⟩:=B b _ z2;rw[e]at e1;cases e1;exact e2
 cases X:K.lookup a with
 |some o=>
  have e:=KX a o X;rw[Q]at e
  cases e
  refine l (λ_=>Y) (λ_=> .inl U) (.inr ⟨_,t.toArray,_,X,U,U,U,by rw[B8,E];exact hl,by simpa using rv⟩) (λb u z=>by have J:(Y:O' HO)=O u:=z;cases J) (λb z=>KB U z) λz=>KB U z
 |none=>
  refine l (λb=>if b=a then O (.frz {cls:= .type "list",data:= .seq t.toArray} (.lst (G.map V.int)))else Y) (λb=>?_) (.inl (.inr ⟨{cls:= .type "list",data:= .seq t.toArray},KF U⟩)) (λb u z=>?_) (λb z=>?_) λ_=>X
  ·by_cases g:b=a
   ·exact .inr ⟨_,_,KF g⟩
   ·exact .inl (GM g)
  ·by_cases g:b=a
   ·have J:=(KF g).symm.trans z
    cases J
    subst g;exact⟨Q,by rw[AC];exact hl,t,_,rv,Q⟩
   ·have J:=(GM g).symm.trans z
    cases J
  ·by_cases g:b=a
   ·exact g
   ·exact KB (GM g) z
def KN{l:YB}{k:M'}{q:To}{m:L Z}{XP:(Z->O' B5)->T9->Prop}{M:TV->T9->Prop}{d:DefRec}{K:Params->B0}{CX:TV->IE}{sp:TV->Sp}(hn:l.most=O n)(B:n<=sizeLine)(E:d.params.defaults=[])(hr:gk k X4)(hY:∀(w:TV)(h:T9),M w h->(K w.params).In h)(F:∀(w:TV)(mg:Z->O' B5)(y:B4)(h:T9),(K w.params).In h->h.Ns SC mg->mg d.name=O (.ref y)->
   ∃fd:Ud,(∀(s:FM)(u:B5),YP s fd ⟨[u],[]⟩ [(x,u)])/\
    ∀C:T9,(K w.params).In C->C.Ns SC mg->aS l.prog w (K w.params) mg C (CX w) k y fd [x] (sp w))(I:∀(w:TV)(H:Hp)(a:B4)(t:L J'),t.length<=n->Me H->bu (K w.params) H a (t.map V.int)->sp w [.ref a] H (λv _=>v= .bl T') λ_ _ _=>False)(z:∀(w:TV)(H:Hp)(s:FM)(e:B5)(A:FM),CX w [] H s (λ_ _ _=>False) e A->False):
  PySem.W.WalkO q m XP M l.row.toRowW d [] (λf J=>aaX f J):=by
 refine Att.yd hn E λw N r mg mb y o pm cd X a J t G c ho hd R D p j i hg=>?_;have P:=hY w _ c;obtain⟨fd,S,Q⟩:=F w mg y _ P G.T.g D;exact Ic P G.T.g G.T.b G.T.builtins G.T.nolimit hg p j (Tf i B) hr Q S (λH hO hS=>I w H a t i hO hS) λH e A=>z w H r e A
noncomputable def inClass(s:SX)(j:M'):SX:=match s with
 | .ClassDef _ _ _ a _ _ _ _ _ _ _=>a.getD j (.Pass ⟨0,0,0,0⟩)
 |_=> .Pass ⟨0,0,0,0⟩
noncomputable def jx(s:SX):Arguments:=match s with
 | .FunctionDef _ a _ _ _ _ _ _ _ _=>a
 |_=>{posonlyargs:=[],args:=[],vararg:=Y,kwonlyargs:=[],kw_defaults:=[],kwarg:=Y,defaults:=[]}
noncomputable def fE(s:SX):L SX:=match s with
 | .FunctionDef _ _ b _ _ _ _ _ _ _=>b
 |_=>[]
noncomputable def aj(s:SX):Vj:=match s with
 | .FunctionDef _ _ _ _ _ _ a _ _ _=>a
 |_=>{kind:= .function,names:=[],isGenerator:=F',isCoroutine:=F'}
abbrev dz:IE:=λ_ _ _ _ _ _=>False
abbrev E0:XK:=λ_ _ _=>False
def LJ:Passes dz X E0:=λ_ _ _ _ _ _ _ h=>h.elim
structure c_(K:B0)(x V':Z)(st:SX)(f:B4)(fd:Ud):Prop where
 ex:∃(oc:B5)(od:O' B4)(kV doc pm:B5)(an:O' B4)(C' ct:B5)(osl:Us (O' B5)),
  fd=U9 x V' (jx st) (fE st) (aj st) .none kV doc pm an C' ct/\K.lookup f=O ⟨oc,od,.func fd,osl⟩/\Xu K C' V'=T'
 kp:Td K (.ref f)=T'
section
variable{B':T9}
def c_.ok{k:M'}(F:c_ K x V' st f fd)(S:ay N ps (aj st))(len:∀b H Q E,sp b H Q E->b.length=ps.length)(a:∀(c:B5)(A:UU)(d:L Env)(s:FM)(H:Hp)(b:L V)(Q:VK)(E:XK),gk k (A.deeper (envOfC V' (aj st) s.heap.objs.size f c))->sp b H Q E->
   ∃t,si (aT dz P w K mg B' N V' (aj st) f c A d s H E).Mh (fE st) t/\t {nx:=λ_ H'=>Q .non H',rt:=Q} (start N b) H):aS P w K mg B' dz (k+1) f fd ps sp:=by
 obtain⟨m,r,kV,i,n,p,c,o,j,rfl,lk,e⟩:=F.ex;refine Lu lk e S len λA d s H b Q E l g=>?_;obtain⟨t,h,q⟩:=a c A d s H b Q E l g;exact⟨t,h.Mh,q⟩
def c_.binds(F:c_ K x V' st f fd)(h:∀(kV a c:B5)(g:O' B4)(e d:B5)(b:L B5),b.length=ps.length->bindArgs (U9 x V' (jx st) (fE st) (aj st) .none kV a c g e d) ⟨b,[]⟩=pure (ps.zip b)):Binds K fd ps []:=by
 obtain⟨k,l,kV,a,c,g,e,d,j,rfl,lk,i⟩:=F.ex;exact .all (h kV a c g e d)
def zN{i:B5}{j h:O' B4}{b:Us (O' B5)}{kV a e d g:B5}(l:K.lookup f=O ⟨i,j,.func (U9 x V' (jx st) (fE st) (aj st) .none kV a e h d g),b⟩)(c:Xu K d V'=T')(k:Td K (.ref f)=T'):c_ K x V' st f (U9 x V' (jx st) (fE st) (aj st) .none kV a e h d g):=⟨⟨i,j,kV,a,e,h,d,g,b,U,l,c⟩,k⟩
end
def pv(i:M')(b:X.N[i]? =O x:=by rfl)(d:QN X.env.scope x:=by first|exact Te U|exact Y3 (Te U)|exact Y3 (Y3 U))(c:(x==("__debug__":Z))=F':=by decide)(a:(x==("__classdict__":Z))=F':=by decide):PE X (.Name x pos) (eA i):=MP b d c a
def bW{A B:Prop}(h:B):if F'=T' then A else B:=by
 rw[GM Om];exact h
def dJ{A B:Prop}(h:A):if T'=T' then A else B:=by
 rw[KF U];exact h
def fJ{c A B:Prop}[SL c](a:c->A)(b:¬c->B):if c then A else B:=by
 by_cases h:c
 ·rw[KF h];exact a h
 ·rw[GM h];exact b h
def aa(H H':Hp):Prop:=∀b o,H b=O o->H' b=O o
def aa.refl(H:Hp):aa H H:=λ_ _ h=>h
def aa.trans{d e:Hp}(a:aa H d)(b:aa d e):aa H e:=λc o h=>b c o (a c o h)
def aa.free(e:aa H H')(h:H' l=Option.none):H l=Option.none:=by
 cases q:H l with
 |none=>rfl
 |some o=>
  rw[e l o q]at h
  cases h
def aa.seq(e:aa H H')(h:bu K H a xs):bu K H' a xs:=by
 rcases h with(h|⟨o,h⟩)|h
 ·exact .inl (.inl (e _ _ h))
 ·exact .inl (.inr ⟨o,e _ _ h⟩)
 ·exact .inr h
theorem rr{env:Env}{y:Z}{k:Yd}:∀{a:L (Z×Yd)},
  (a.map λ(n,k)=>if(k==UN&&env.scope.kind== .function&&env.kindOf n==O .cell)then(n,Zy)else(n,k)).lookup y=O k->
   ∃d,a.lookup y=O d/\(k=d\/(d= .free/\k= .cell))
 |[],h=>by simp at h
 |(n,q)::r,h=>by
  have j:= @rr env y k r;rw[SQ]at h;dsimp only at h
  cases c:y==n with
  |true=>
   refine⟨q,by simp[Um,c],?_⟩;by_cases b:(q==UN&&env.scope.kind== .function&&env.kindOf n==O .cell)=T'
   ·rw[KF b]at h;simp only[Um,c]at h
    cases h
    have i:(q==UN)=T':=by
     cases e:q==UN with
     |true=>rfl
     |false=>rw[e]at b;simp at b
    exact .inr ⟨by simpa using i,U⟩
   ·rw[GM b]at h;simp only[Um,c]at h
    cases h
    exact .inl U
  |false=>
   have f:(r.map λ(n,k)=>if(k==UN&&env.scope.kind== .function&&env.kindOf n==O .cell)then(n,Zy)else(n,k)).lookup y=O k:=by
    by_cases b:(q==UN&&env.scope.kind== .function&&env.kindOf n==O .cell)=T'
    ·rw[KF b]at h;simpa only[Um,c]using h
    ·rw[GM b]at h;simpa only[Um,c]using h
   obtain⟨d,e,g⟩:=j f;exact⟨d,by simpa only[Um,c]using e,g⟩
theorem uv:∀(b:L (Z×Yd))(a:L (Z×B4)),(∀y∈b,y.2= .free->∃c,env.cells.lookup y.1=O c)->(∀y c,a.lookup y=O c->env.cells.lookup y=O c)->
  ∃g,(forIn b a λ(x:Z×Yd) (r:L (Z×B4))=>(if(x.2==UN)=T' then(do let c<-cellOf env x.1;pure (VI ((x.1,c)::r)))else pure (VI r):Sem (ForInStep (L (Z×B4)))))=(pure g:Sem (L (Z×B4)))/\
   (∀y c,g.lookup y=O c->env.cells.lookup y=O c)/\(∀y∈b,y.2= .free->∃c,g.lookup y.1=O c)/\∀y c,a.lookup y=O c->∃t,g.lookup y=O t
 |[],a,_,q=>⟨a,U,q,(λy f=>KB f (by simp)),λy c h=>⟨c,h⟩⟩
 |(n,k)::r,a,u,q=>by
  by_cases o:k=UN
  ·obtain⟨c,w⟩:=u (n,k) De o
   have l:∀y d,((n,c)::a).lookup y=O d->env.cells.lookup y=O d:=λy d e=>by
    cases i:y==n with
    |true=>
     simp only[Um,i]at e
     cases e
     have :y=n:=by simpa using i
     rw[this];exact w
    |false=>
     simp only[Um,i]at e;exact q y d e
   obtain⟨g,e,v,s,m⟩:=uv r ((n,c)::a) (λy f=>u y (Fk _ f)) l;have j:∃t,g.lookup n=O t:=m n c (by simp);refine⟨g,?_,v,λy f p=>?_,λy d A=>?_⟩
   ·rw[Xf];dsimp only;rw[KF (by simp[o])]
    have B:cellOf env n=pure c:=by
     unfold cellOf;rw[w]
    rw[B];simp only[pure_bind];exact e
   ·rcases PP.mp f with z|z
    ·subst z;exact j
    ·exact s y z p
   ·cases i:y==n with
    |true=>
     have :y=n:=by simpa using i
     rw[this];exact j
    |false=>exact m y d (by simpa only[Um,i]using A)
  ·obtain⟨g,e,v,s,m⟩:=uv r a (λy f=>u y (Fk _ f)) q;refine⟨g,?_,v,λy f p=>?_,m⟩
   ·rw[Xf];dsimp only;rw[GM (by simpa using o),pure_bind];exact e
   ·rcases PP.mp f with z|z
    ·subst z;exact KB p o
    ·exact s y z p
def pR(i:∀y∈S'.names,y.2= .free->∃c,env.cells.lookup y.1=O c):
  ∃a,closureFor S' env=pure a/\(∀y c,a.lookup y=O c->env.cells.lookup y=O c)/\∀y∈S'.names,y.2= .free->∃c,a.lookup y.1=O c:=by
 obtain⟨a,e,j,b,_⟩:=uv (env:=env) S'.names [] i (λy c h=>by simp at h);refine⟨a,?_,j,b⟩;unfold closureFor;dsimp only
 have d:∀(f g:Z×Yd->L (Z×B4)->Sem (ForInStep (L (Z×B4)))),(∀x r,f x r=g x r)->(forIn S'.names [] f:Sem (L (Z×B4)))=forIn S'.names [] g:=λf g h=>by
  have :f=g:=by funext x r;exact h x r
  rw[this]
 rw[d _ _ (λx r=>?_),e]
 ·rfl
 ·obtain⟨n,k⟩:=x;dsimp only
noncomputable abbrev Cx.comp(X:Cx)(x:Z)(S':Vj)(b:L (Z×B4))(C:B4)(a:L B4)(s:FM)(H:Hp):Cx:=
 {X with N:=x::X.N,s₀:=s,H₀:=H,env:=Xp S' b C X.env,outer:=X.stack,ex:=a,fn:=λ_=>F',pn:=[],xe:=λ_ _=>False}
noncomputable def xZ(S':Vj)(env:Env)(y:Z):Tq:=match S'.names.lookup y with
 |none=>T'
 |some .free=>env.kindOf y==O .cell||env.kindOf y==O .free
 |some _=>F'
structure gC(X:Cx)(x:Z)(S':Vj):Prop where
 kind:S'.kind= .function
 cell:∀y∈S'.names,y.2≠ .cell
 names:∀y∈S'.names,y.2= .local->S'.names.lookup y.1=O .local
 hx:S'.names.lookup x=O .local
 free:∀y∈S'.names,y.2= .free->X.env.kindOf y.1=O .cell\/X.env.kindOf y.1=O .free
 cap:∀y∈X.N,xZ S' X.env y=T'
 nd:(x::X.N).Nodup
def yq(h:S'.names.lookup y=O .free):(y,UN)∈S'.names:=UG h
def Ls(X:Cx)(a:L Expr)(t:TT):Prop:=
 ∀(b:L (B4×Obj))(s:FM)(σ:St)(H:Hp)(Q:Tq->Hp->Prop),Inv X b σ H s->t σ H Q->
  Ki (Pp X.prog X.w) X.A (forIn a T' λc r=>if r=T' then do let ok<-isTrue c X.env (eval c X.env);pure (VI ok)else pure (VI r)) (TP X b σ Q) X.xe s
def gn:TT:=λ_ H Q=>Q T' H
def cv:Ls X [] gn:=λa s σ H Q I h=>by
 rw[Y5];exact GE ⟨H,I,h⟩
def fQ(J:It)(f:Hp)(σ:St)(h:TT)(g:TE)(Q:VK):Prop:=∀D,f D=Y->∃W:M'->M'->Hp->Prop,(∃m,W 0 m (upd f D (.lst [])))/\∀i m H,W i m H->
 (J.stop i H/\Q (.ref D) H)\/(J.go i H/\∀x H',J.yld i H x H'->h (O x::σ) H' λb d=>if b=T' then g (O x::σ) d λy e=>∃c,e D=O (.lst c)/\c.length<sizeLine/\∃a,a<m/\W (i+1) a (upd e D (.lst (c++[y])))
  else∃a,a<m/\W (i+1) a d)
def mx(b:TI)(d:TT)(c:TE):TE:=λσ H Q=>b σ H λJ a=>fQ J a σ d c Q
open AutoSeq1 (wpAny_loadPart')
variable{A:UU}{E Q:B5->FM->Prop}{i kk:M'}{it e:B4}{its:Us B5}{prog:To}{s:FM}{fp:L B4}{old u:B5}{σ:St}{es:L Expr}{us:L B5}
def Nw{t:B4}{x:B5}(a:s.heap.IsTupleIter it t i)(j:s.heap.IsTuple t its)(k:its[i]? =O x)(h:∀d,d.IsTupleIter it t (i+1)->Ur it s.heap d->Q x {s with heap:=d}):Ki (Pp prog w) A (Vv (.ref it)) Q E s:=by
 obtain⟨o,c,g,b⟩:=id a;obtain⟨ol,e,_,l,f⟩:=j;unfold Vv;refine B1 (WS (name:=Ua "__next__") a.typeIs Vm (WR Vm a.typeIs YM ?_ (YH _)))
 (show Ki _ _ (field (.ref it) 0 >>= _) _ _ s);refine B1 (Ui c b (x:= .ref t) U ?_)
 (show Ki _ _ (if(Kf t==Uo)=T' then _ else _) _ _ s);rw[GM (show¬((Kf t==Uo)=T')from Om)]
 (show Ki _ _ (field (.ref it) 1 >>= _) _ _ s);refine B1 (Ui c b (x:= .int i 0) U ?_)
 (show Ki _ _ (XC (.ref t) >>= _) _ _ s);refine B1 (Vh e f ?_)
 simp only[Yi,k];refine B1 (Wn c b (by simp) (GE ⟨x,U,GE (h _ ⟨_,Tj _ c (aaj (Wq b _)),(Obj.cls_mapFields ..).trans g,by rw[Wq b];simp[Xo]⟩ (Vz ..))⟩))
def zJ{t:B4}(j:A.handled=Y)(b:s.heap.IsTupleIter it t i)(l:s.heap.IsTuple t its)(n:its[i]? =Y)(k:∀c e,Heap.ExtBut it s.heap c->(∃o,c.get? e=O o/\o.cls= .type "StopIteration")->E (.ref e) {s with heap:=c}):Ki (Pp prog w) A (Vv (.ref it)) Q E s:=by
 obtain⟨o,f,p,h⟩:=id b;obtain⟨ol,d,_,q,g⟩:=l;unfold Vv;refine B1 (WS (name:=Ua "__next__") b.typeIs Vm (WR Vm b.typeIs YM ?_ (YH _)))
 (show Ki _ _ (field (.ref it) 0 >>= _) _ _ s);refine B1 (Ui f h (x:= .ref t) U ?_)
 (show Ki _ _ (if(Kf t==Uo)=T' then _ else _) _ _ s);rw[GM (show¬((Kf t==Uo)=T')from Om)]
 (show Ki _ _ (field (.ref it) 1 >>= _) _ _ s);refine B1 (Ui f h (x:= .int i 0) U ?_)
 (show Ki _ _ (XC (.ref t) >>= _) _ _ s);refine B1 (Vh d g ?_)
 simp only[Yi,n];refine B1 (YQ (B1 (Wn f h (by simp) ?_)))
 (show Ki _ _ (newExc (.type "StopIteration") [] >>= _) _ _ _);refine B1 ?_
 simp only[newExc,newTuple];refine B1 (Wu ?_ (by size_fits));refine B1 (m:=firstArgMember _ _) (aao (a:=Uo) (by first|rfl|(simp only[firstArgMember];rfl)) (Wu ?_ (by size_fits)));simp only[raiseNew];refine B1 (wpAny_handled ?_)
 first|rw[show A.in1.handled=Y from j]|rw[j]
 exact B1 (GE (aam (k _ _ (((Vz ..).extBut.push _).push _) ⟨_,Ss _ U,U⟩)))
def tH(n:A.handled=Y)(it l:B4)(f:l≠it)(its:Us B5):
  Draws prog w A it [it,l] its.size (λi v=>its[i]? =O v) (λi h=>h.IsTupleIter it l i/\h.IsTuple l its) where
 live:=λ_ _ st=>let⟨o,ho,_⟩:=st.1;⟨o,ho⟩
 frame:=λ_ _ _ st j=>by
  obtain⟨⟨o,e,r⟩,⟨b,d,g⟩⟩:=st;exact⟨⟨o,j it (by simp) o e,r⟩,⟨b,j l (by simp) b d,g⟩⟩
 item:=λi s Q E k st q=>Nw st.1 st.2 (x:=its[i]) (by simp[k]) λp c a=>by
  obtain⟨b,d,g⟩:=st.2;exact q _ p s.toks (by simp[k]) ⟨c,⟨b,a.extBut l b f d,g⟩⟩ a
 done:=λs Q E st m=>zJ n st.1 st.2 (by simp) m
def JH{k:J'}{P:M'->B5->Prop}{St:M'->T9->Prop}(D:Draws prog w A it fp n P St)(R:Xz s.heap e it k old)(N:St i s.heap)(a0:i<n)(K:e≠it)(t:e∉fp)(hQ:∀x r c,P i x->ZP r e it (k+1) x s.heap.objs.size->St (i+1) r->r.get? s.heap.objs.size=O {cls:= .type "tuple",data:= .seq #[.int k c,x]}->
   (∀b o,b≠e->b≠it->s.heap.get? b=O o->r.get? b=O o)->Q (.ref s.heap.objs.size) {s with heap:=r,toks:=c+1}):
  Ki (Pp prog w) A (Builtin.«enumerate.__next__» ⟨[.ref e],[]⟩) (λX s'=>∃v,X= .done (.ret v)/\Q v s') E s:=by
 obtain⟨h,g,d,t0,j⟩:=s
 (show Ki _ _ (field (.ref e) 2 >>= _) _ _ _);refine B1 (Ui R U (x:= .ref it) U ?_)
 refine B1 (D.item i _ _ _ a0 N λx g1 c px c1 z=>?_);have z:Ur it h g1:=z;have M:Xz g1 e it k old:=(z.2 e K).trans R
 (show Ki _ _ (field (.ref e) 3 >>= _) _ _ ⟨g1,g,d,c,j⟩);refine B1 (Ui M U (x:=Xo k) U ?_)
 (show Ki _ _ (field (.ref e) 4 >>= _) _ _ ⟨g1,g,d,c,j⟩);refine B1 (Ui M U (x:= .none) U ?_)
 (show Ki _ _ (mkInt k >>= _) _ _ ⟨g1,g,d,c,j⟩);refine B1 (wpAny_mkInt ?_)
 (show Ki _ _ (setField (.ref e) 3 (Xo (k+1)) >>= _) _ _ ⟨g1,g,d,c+1,j⟩);refine B1 (VJ M (by simp) λg2 I u=>?_)
 have u:Ur e g1 g2:=u;have I:Xz g2 e it (k+1) old:=I
 (show Ki _ _ (setField (.ref e) 4 .none >>= _) _ _ ⟨g2,g,d,c+1,j⟩);refine B1 (VJ I (by simp) λg3 G p=>?_)
 have p:Ur e g2 g3:=p;have G:Xz g3 e it (k+1) old:=G
 (show Ki _ _ (newTuple [.int k c,x] >>= _) _ _ ⟨g3,g,d,c+1,j⟩);refine B1 (wpAny_newTuple ?_)
 have B:Xz (g3.push {cls:= .type "tuple",data:= .seq #[.int k c,x]}) e it (k+1) old:=B7 _ G;generalize m:g3.push {cls:= .type "tuple",data:= .seq #[.int k c,x]}=g4 at B
 have z3:g3.objs.size=h.objs.size:=by rw[p.1,u.1,z.1]
 have le:e<h.objs.size:=Gc R
 have t4:g4.get? h.objs.size=O {cls:= .type "tuple",data:= .seq #[.int k c,x]}:=by rw[<-m,<-z3];exact Ss _ U
 have k4:∀b o,b≠e->b≠it->h.get? b=O o->g4.get? b=O o:=λb o a l f=>by
  rw[<-m];exact B7 _ (p.extBut b o a (u.extBut b o a (z.extBut b o l f)))
 have c4:St (i+1) g4:=D.frame _ _ _ c1 λb f o y=>by
  have a:b≠e:=λq=>t (q▸f);rw[<-m];exact B7 _ (p.extBut b o a (u.extBut b o a y))
 show Ki _ _ (XQ (.ref e) >>= _) _ _ ⟨g4,g,d,c+1,j⟩;rw[z3];refine B1 ?_;unfold XQ;refine B1 (Ui B U (x:= .none) U (GE ?_));simp only[Ww];refine B1 (YQ (B1 (Ui B U (x:=old) U (B1 (VJ B (by simp) λF S H=>?_)))));have H:Ur e g4 F:=H;have S:Xz F e it (k+1) x:=S
 (show Ki _ _ (XJ (.ref e) (.ref h.objs.size) >>= _) _ _ ⟨F,g,d,c+1,j⟩);refine B1 ?_
 unfold XJ;refine B1 (VJ S (by simp) λW J V=>?_);have V:Ur e F W:=V;have J:ZP W e it (k+1) x h.objs.size:=J;refine VJ J (by simp) λC e7 b7=>?_;have b7:Ur e W C:=b7;have e7:ZP C e it (k+1) x h.objs.size:=e7;have T:∀b o,b≠e->g4.get? b=O o->C.get? b=O o:=λb o f y=>b7.extBut b o f (V.extBut b o f (H.extBut b o f y));refine B1 (Wv (GE ⟨_,U,hQ x C c px e7 (D.frame _ _ _ c4 λb f o y=>T b o (λq=>t (q▸f)) y) (T _ _ (VW le) t4) λb o a l f=>T b o a (k4 b o a l f)⟩))
def JR{k:J'}{P:M'->B5->Prop}{St:M'->T9->Prop}{Q:O' B5->FM->Prop}(D:Draws prog w A.in1 it fp n P St)(q:Xz s.heap e it k old)(j:St i s.heap)(m:i<n)(h:e≠it)(l:e∉fp)(r:∀x f g,P i x->ZP f e it (k+1) x s.heap.objs.size->St (i+1) f->f.get? s.heap.objs.size=O {cls:= .type "tuple",data:= .seq #[.int k g,x]}->
   (∀b o,b≠e->b≠it->s.heap.get? b=O o->f.get? b=O o)->Q (O (.ref s.heap.objs.size)) {s with heap:=f,toks:=g+1}):
  Ki (Pp prog w) A (pyNext (.ref e)) Q E s:=by
 have p:s.TypeIs (.ref e) "enumerate":=⟨_,q,U⟩;unfold pyNext
 exact B1 (Zt (WS (name:=Ua "__next__") p aal (WR aal p F.entry_enumerate_next
  (JH D q j m h l λx f g a b c d k=>GE (r x f g a b c d k)) (F.args_enumerate_next_1 _))))
def IK(l:B4)(its:Us B5)(n:M')(b:O' B4)(j:Us (O' B5)):
  Meets (Builtin.«enumerate.__new__» ⟨[.type "enumerate",.ref l],[]⟩) (λ_ R s=>s.heap.get? l=O {cls:= .type "tuple",dict:=b,data:= .seq its n,slots:=j}/\
   R (.ok (.ret (.ref (s.heap.push {cls:= .type "tuple_iterator",data:= .fields #[.ref l,.int 0 0]}).objs.size)))
    {s with heap:=(s.heap.push {cls:= .type "tuple_iterator",data:= .fields #[.ref l,.int 0 0]}).push {cls:= .type "enumerate",data:= .fields #[.none,.bool F',.ref s.heap.objs.size,Xo 0,.none,.none]}}):=
 .of_wp λprog w A R s h=>by
  obtain⟨i,g,d,m,k⟩:=s;obtain⟨a,h⟩:=h;have f:=sub_enumerate;have e:Heap.IsTuple (Shared.heap ⟨i,g,d,m,k⟩) l its:=⟨_,a,U,n,U⟩
  wp_walk using VE a
  refine wpAny_stack_any λst=>GE ?_
  split
  ·rename_i c _ _ _ _ _
   cases(c==VN "enumerate")
   all_goals
    wp_walk using VE a,XT e
    exact⟨_,U,h⟩
  ·wp_walk using VE a,XT e
   exact⟨_,U,h⟩
def HY(u:s.heap.IsTuple l its)(h:∀a,Xz a (s.heap.objs.size+1) s.heap.objs.size 0 .none->a.IsTupleIter s.heap.objs.size l 0->(∀b o,s.heap.get? b=O o->a.get? b=O o)->Q (.ref (s.heap.objs.size+1)) {s with heap:=a}):
  Ki (Pp prog w) A (call (.type "enumerate") [.ref l]) Q E s:=by
 obtain⟨⟨c,e,r,m⟩,k,t,n,p⟩:=u;have g:c= .type "tuple":=t;have f:r= .seq its n:=p;subst g f;refine callType_new F.called_enumerate bp (F.typeCall_enumerate_1 _) (F.newCall_enumerate_1 _) (λd=>F.args_object_init_2 d _) F.entry_enumerate_new (IK l its n e m) ⟨k,?_⟩;have j:(s.heap.push {cls:= .type "tuple_iterator",data:= .fields #[.ref l,.int 0 0]}).objs.size=s.heap.objs.size+1:=V1 ..
 have i:Xz ((s.heap.push {cls:= .type "tuple_iterator",data:= .fields #[.ref l,.int 0 0]}).push {cls:= .type "enumerate",data:= .fields #[.none,.bool F',.ref s.heap.objs.size,Xo 0,.none,.none]}) (s.heap.objs.size+1) s.heap.objs.size 0 .none:=by
  have q:=Ss (s.heap.push {cls:= .type "tuple_iterator",data:= .fields #[.ref l,.int 0 0]}) (o:={cls:= .type "enumerate",data:= .fields #[.none,.bool F',.ref s.heap.objs.size,Xo 0,.none,.none]}) U;rw[j]at q;exact q
 (show _/\_);rw[j]
 exact⟨⟨_,i,U⟩,h _ i ⟨_,B7 _ (Ss _ U),U,U⟩ λb o x=>B7 _ (B7 _ x)⟩
section
variable{A':L (B4×Obj)}{h':T9}
def Inv.nM{t':M'}{ch:L B4}{o:HO}(I:Inv X A' σ H s)(k:∀b u,b∉ch->s.heap.get? b=O u->h'.get? b=O u)(d:∀b∈ch,km X A' H b)(l:s.heap.objs.size<=a)(j:cM X.prog X.w (upd H a o) h' a o):Inv X A' σ (upd H a o) {s with heap:=h',toks:=t'}:=by
 have h:H a=Y:=I.hok.fresh l
 have i:∀b u,H b=O u->b∉ch:=λb u e z=>by rw[(d b z).1]at e;cases e
 refine I.step (g':=s.gens) (d':=s.drawn) (ch:=ch) (λb g=>⟨(d b g).2.2.2.1,(d b g).2.1,(d b g).2.2.2.2.1,(d b g).2.2.2.2.2⟩) (λb o _ _ f e _=>k b o f e) (λb o _ _ f e _=>⟨o.slots,k b o f e⟩)
  (λb u f e n=>by rw[ax (Sy (SA (Gc e) l))];exact n) (λb o f e=>⟨o,k b o f e⟩) (λb xs e=>by rw[ax (aH e h)];exact e) (λb u xs e=>by rw[ax (aH e h)];exact e)
  (λb ps e=>⟨#[],by rw[ax (aH e h),e];simp⟩) (λm t=>?_) (λb u e=>?_) I.bare
 ·obtain⟨p,es,x,y,r⟩:=t;exact⟨p,es,x,k _ p (λz=>(d _ z).2.1 U) y,r⟩
 ·by_cases g:b=a
  ·subst g;rw[ag]at e
   cases e
   exact j
  ·rw[ax g]at e
   refine(I.hok b u e).oQ (λc v f q=>k c v ?_ q) (λc q=>by rw[ax (aH q h)];exact q) λc xs q=>by rw[ax (aH q h)];exact q
   rcases f with z|z
   ·rw[z];exact i b u e
   ·exact i c _ z
end
noncomputable def O6(a:Hp->L V->Prop)(k:J'):It:=
 ⟨λi H=>∃xs x,a H xs/\xs[i]? =O x,λi H x H'=>∃p y,x= .ref p/\H p=Y/\H'=upd H p (.tup [.int (k+i),y])/\∀xs,a H xs->xs[i]? =O y,λi H=>∃xs,a H xs/\xs.length=i⟩
theorem Ie{pt:Pos}(a e it:B4)(k:J')(t:e≠it):
  Turn P w K (.Tuple es kk pt) (O6 (λH xs=>bq K H a xs) k) [e,it] e (λi h=>(∃old,Xz h e it (k+(i:J')) old)/\h.IsTupleIter it a i) where
 mem:=by simp
 obj:=λi h st b l=>by
  obtain⟨⟨old,j⟩,o,c,f,hd⟩:=st
  rcases PP.mp l with z|z
  ·subst z;exact⟨_,j,λv q=>by cases q⟩
  ·have z:b=it:=by simpa using z
   subst z;exact⟨o,c,λv q=>by rw[hd]at q;cases q⟩
 keep:=λi h h' st kk=>by
  obtain⟨⟨old,j⟩,o,c,r⟩:=st;exact⟨⟨old,kk e (by simp) _ j⟩,o,kk it (by simp) o c,r⟩
 item:=by
  intro X hP T hK f i A' s σ H E I J st hg;subst hP T hK;obtain⟨xs,x,N,M⟩:=hg;obtain⟨its,V,p,hz⟩:=I.tuple N;obtain⟨u,hu,ru⟩:=V.get M;obtain⟨⟨old,j⟩,d⟩:=st;have C:s.heap.IsTuple a its.toArray:=p
  have n:a≠it:=λz=>by
   obtain⟨o,c,f,_⟩:=C;obtain⟨o',B,m,_⟩:=d;rw[z,B]at c
   cases c
   rw[m]at f
   injection f with q
   exact KB q bp
  have W:e≠a:=λz=>by
   obtain⟨o,c,f,_⟩:=C;rw[<-z,j]at c
   cases c
   injection f with q
   exact KB q bp
  have D:=tH (prog:=X.prog) (w:=X.w) (A:=X.A.in1) (I.ok.hd f) it a n its.toArray
  have lt:i<its.toArray.size:=by
   rw[B8];exact(TK.mp hu).1
  refine JR D j ⟨d,C⟩ lt t (λz=>?_) λy g F py eo Q tt kp=>?_
  ·rcases PP.mp z with z|z
   ·exact t z
   ·exact W (by simpa using z)
  ·have ey:y=u:=by
    have q:its.toArray[i]? =O y:=py
    have q2:its.toArray[i]? =O u:=by simpa using hu
    rw[q2]at q;exact(SV q).symm
   subst ey;refine⟨_,U,wpAny_letOwnedTupleGo_enum eo λg2 R S=>?_⟩;have le:e<s.heap.objs.size:=Gc j
   have li:it<s.heap.objs.size:=by
    obtain⟨o,c,_⟩:=d;exact Gc c
   have a1:g2.get? s.heap.objs.size=O {cls:= .type "tuple",data:= .seq #[.int (k+i) F,y]}:=(S.2 _ (VW le)).trans tt;have nT:H s.heap.objs.size=Y:=I.fresh
   have I1:Inv X A' σ (upd H s.heap.objs.size (.tup [.int (k+i),x])) {s with heap:=g2,toks:=F+1}:=by
    refine I.nM (t':=F+1) (ch:=[e,it]) (λb o l q=>?_) J (B9 _) ⟨?_,[.int (k+i) F,y],.cons ⟨F,U⟩ (.cons ru .nil),⟨_,a1,U,0,U⟩⟩
    ·have G:b≠e:=λz=>l (by simp[z]);have a0:b≠it:=λz=>l (by simp[z]);exact(S.2 b G).trans (kp b o G a0 q)
    ·show 2<=sizeLine;decide
   have e1:k+((i+1:M'):J')=k+(i:J')+1:=by lia
   refine⟨.ref s.heap.objs.size,_,I1,U,⟨_,x,U,nT,U,λys hy=>?_⟩,⟨⟨y,by rw[e1];exact R⟩,?_⟩,λb l=>?_⟩
   ·rw[I.tO hy N];exact M
   ·obtain⟨⟨o,c,r⟩,_⟩:=Q;exact⟨o,(S.2 it t.symm).trans c,r⟩
   ·rcases PP.mp l with z|z
    ·subst z;rw[ax (Sy le)];exact(J b (by simp)).1
    ·have z:b=it:=by simpa using z
     subst z;rw[ax (Sy li)];exact(J b (by simp)).1
 done:=by
  intro X hP T hK f i A' s σ H E I J st hg;subst hP T hK;obtain⟨xs,N,M⟩:=hg;obtain⟨its,V,p,hz⟩:=I.tuple N;obtain⟨⟨old,j⟩,d⟩:=st;have C:s.heap.IsTuple a its.toArray:=p
  have n:a≠it:=λz=>by
   obtain⟨o,c,f,_⟩:=C;obtain⟨o',B,m,_⟩:=d;rw[z,B]at c
   cases c
   rw[m]at f
   injection f with q
   exact KB q bp
  have D:=tH (prog:=X.prog) (w:=X.w) (A:=X.A.in1) (I.ok.hd f) it a n its.toArray
  have ei:its.toArray.size=i:=by
   rw[B8,<-V.length];exact M
  obtain⟨f0,f1,f2,f3,f4,f5⟩:=J it (by simp);refine wpAny_pyNext_enum_endD D j (by rw[ei];exact⟨d,C⟩) λh' eb=>⟨U,I.turned (t':=s.toks) (λb o l q=>eb b o l q) f0 f1 f3 f4 f5⟩
 self:=λ_ _ _ _ _ st h=>by
  obtain⟨⟨old,j⟩,_⟩:=st;exact aa9 j h
section
variable{pt:Pos}
def Rm(K:B0)(c:TA):TI:=λσ H R=>c σ H λd b=>∃a,d=[.ref a]/\(∃xs,bq K b a xs)/\R (O6 (λH xs=>bq K H a xs) 0) b
theorem HZ{l:Expr}{j:TA}{p:Pos}(y:Gl X "enumerate")(r:X.mg "enumerate"=Y)(v:PA X [l] j)(n:P3 [l] X.env=[(F',eval l X.env)]:=by rfl):
  PI X (.Tuple es kk pt) (.Call (.Name "enumerate" p) [l] [] pos) (Rm X.K j):=by
 intro i s σ H R I h;refine aaB (ip I y r boot_enumerate (TL (cR (v pos i s σ H _ I h) λus c ⟨D,k,d,m,o⟩=>?_) n U));obtain⟨a,e,⟨xs,A⟩,q⟩:=o;subst e;obtain⟨u,e,w⟩:=vals1 m;subst e;obtain rfl:u=Kf a:=w;obtain⟨its,E,B,F⟩:=d.tuple A;refine HY (show c.heap.IsTuple a its.toArray from B) λt g f kp=>?_;have x:Inv X i σ k {c with heap:=t}:=d.kept (t':=c.toks) kp;refine aa9 g ⟨c.heap.objs.size+1,[c.heap.objs.size+1,c.heap.objs.size],_,_,k,U,x,Ie a _ _ 0 (Nat.succ_ne_self _),⟨⟨.none,by rw[show(0:J')+((0:M'):J')=0 by lia];exact g⟩,f⟩,λb C=>?_,q⟩
 rcases PP.mp C with z|z
 ·subst z;exact d.oS (Wd _) (d.hok.fresh (Wd _))
 ·have z:b=c.heap.objs.size:=by simpa using z
  subst z;exact d.oS (B9 _) (d.hok.fresh (B9 _))
end
theorem HP{Sq:Hp->L V->Prop}{k:J'}{g:TG}{j:TS}{D:Ends}(b:M'->St->Hp->Prop)(w:b 0 σ H)(n:∀i σ H,i<=xs.length->b i σ H->Sq H xs)(o:∀i x p σ H,xs[i]? =O x->H p=Y->b i σ H->g (.ref p) σ (upd H p (.tup [.int (k+i),x])) λd h=>j {D with nx:=b (i+1),ct:=b (i+1),bk:=D.nx} d h)(s:∀σ H,b xs.length σ H->D.nx σ H):
  ∃W:M'->M'->St->Hp->Prop,(∃m,W 0 m σ H)/\∀i m σ H,W i m σ H->
   ((O6 Sq k).stop i H/\D.nx σ H)\/((O6 Sq k).go i H/\∃N:St->Hp->Prop,(∀c H',N c H'->∃l,l<m/\W (i+1) l c H')/\∀x H',(O6 Sq k).yld i H x H'->g x σ H' λd h=>j {D with nx:=N,ct:=N,bk:=D.nx} d h):=by
 refine⟨λi m σ H=>m=xs.length-i/\i<=xs.length/\b i σ H,⟨xs.length,by simp,Sm _,w⟩,?_⟩;rintro i m σ H ⟨rfl,v,p⟩;have q:=n i σ H v p;by_cases f:i<xs.length
 ·refine .inr ⟨⟨xs,xs[i],q,by simp[f]⟩,b (i+1),λc H' u=>⟨xs.length-(i+1),aB,U,f,u⟩,λx H' y=>?_⟩;obtain⟨a,z,t,A,r,y⟩:=y;subst t r;exact o i z a σ H (y xs q) A p
 ·have e:i=xs.length:=by lia
  subst e;exact .inl ⟨⟨xs,q,U⟩,s σ H p⟩
theorem uD:∀{a:L Z}{us:L B5},Vals (a.map V.str) us->StrsAre us a
 |[],_,.nil=> .nil
 |y::a,_,.cons r t=>by
  obtain⟨b,e⟩:=(show∃b,_=Uj y b from r);subst e;exact .cons _ _ (uD t)
def rJoin(K:B0):V->L V->Hp->VK->Prop:=λx c H Q=>∃z b a,x= .str z/\c=[.ref b]/\bu K H b (a.map V.str)/\(a.map (·.length)).sum+a.length*z.length<=16777216/\Q (.str (Sr z a)) H
def fH:EM X "str.join" (rJoin X.K):=by
 intro w s σ H x y v us Q I j m h;obtain⟨z,b,d,e,c,l,p,q⟩:=h;subst e c;obtain⟨t,f⟩:=(show∃t,v=Uj z t from j);subst f;obtain⟨u,a,n⟩:=m.one;subst a;obtain rfl:u=Kf b:=n;obtain⟨its,r,o,i⟩:=I.list l;exact join_list o.isList (by simpa using uD r) p λg k=>⟨.str (Sr z d),H,I.tok k,⟨g,U⟩,q⟩
noncomputable def Ap{α:Type}(p:α->α->Tq):O' α->O' α->Tq
 |some a,O b=>p a b
 |_,_=>T'
theorem all_range{α:Type}(p:α->α->Tq):∀(xs ys:L α),xs.length=ys.length->((Tg xs.length).all λj=>Ap p xs[j]? ys[j]?)=(xs.zip ys).all λq=>p q.1 q.2
 |[],_,_=>by simp
 |x::xs,[],h=>by simp at h
 |x::xs,y::ys,h=>by
  have a:=all_range p xs ys (by simpa using h);rw[Da,Z5,Wb,Wl,aa2,Wb,<-a]
  congr 1
def GZ(K:B0):L V->Hp->VK->Prop:=λxs H Q=>∃x n t b,xs=[x,.ty n]/\oj K H x t/\TX K t (.type n)=O b/\Q (.bl b) H
def cU:e_ X (.builtin "isinstance") (GZ X.K):=by
 intro i s σ H xs us Q I r h;obtain⟨x,n,t,b,e,ty,d,q⟩:=h;subst e;obtain⟨u,v,a,c,g⟩:=vals2 r;subst a;obtain rfl:v=VN n:=g;exact Dh I c ty d λf=>⟨.bl b,H,I.tok f,U,q⟩
noncomputable def BV(fs:Vj)(N:L Z)(x:Z)(S':Vj):Tq:=
 decide (S'.kind= .function)&&S'.names.all (λy=>decide (y.2≠ .cell))&&S'.names.all (λy=>decide (y.2= .local->S'.names.lookup y.1=O .local))&&decide (S'.names.lookup x=O .local)&&
 S'.names.all (λy=>decide (y.2= .free->fs.names.lookup y.1=O .cell\/fs.names.lookup y.1=O .free))&&
 N.all (λy=>match S'.names.lookup y with
  |none=>T'
  |some .free=>decide (fs.names.lookup y=O .cell\/fs.names.lookup y=O .free)
  |some _=>F')&&decide ((x::N).Nodup)
def br{fs:Vj}(o:X.env.scope=fs)(a:X.N=N)(c:BV fs N x S'=T'):gC X x S':=by
 subst o a;unfold BV at c;simp only[Tw,UW,UD]at c;obtain⟨⟨⟨⟨⟨⟨f,j⟩,i⟩,h⟩,l⟩,b⟩,n⟩:=c;refine⟨f,j,i,h,l,λy g=>?_,n⟩;have q:=b y g;unfold xZ
 cases e:S'.names.lookup y with
 |none=>rfl
 |some k=>
  rw[e]at q
  cases k with
  |free=>
   have m:X.env.scope.names.lookup y=O .cell\/X.env.scope.names.lookup y=O .free:=by simpa using q
   show(X.env.kindOf y==O .cell||X.env.kindOf y==O .free)=T';have d:X.env.kindOf y=X.env.scope.names.lookup y:=U;rw[d]
   rcases m with z|z<;>rw[z]<;>rfl
  |_=>simp at q
theorem MT{ys:L V}{a:L B5}(r:Vals xs us)(d:Vals ys a)(o:xs.length=ys.length)(m:xs.all iq=T')(g:ys.all iq=T')(j:M')(f:j<us.toArray.size)(c:j<a.toArray.size):
  YV A s us.toArray[j] a.toArray[j] (Ap tq xs[j]? ys[j]?):=by
 have q:=r.length;have p:=d.length;rw[B8]at f c
 have g1:j<xs.length:=by lia
 have g2:j<ys.length:=by lia
 obtain⟨w1,b,h⟩:=r.get (i:=j) (x:=xs[j]) (by simp[g1]);obtain⟨w2,e,l⟩:=d.get (i:=j) (x:=ys[j]) (by simp[g2])
 have n:us.toArray[j]=w1:=by
  rw[B2 f]at b;simpa using b
 have k:a.toArray[j]=w2:=by
  rw[B2 c]at e;simpa using e
 rw[n,k];simp only[B2 g1,B2 g2];exact zv h l (UW.mp m _ (TQ g1)) (UW.mp g _ (TQ g2))
def OB(K:B0):R2:=λx y H Q=>∃a b xs c,x= .ref a/\y= .ref b/\bu K H a xs/\bu K H b c/\xs.length=c.length/\xs.all iq=T'/\c.all iq=T'/\Q (.bl (!(xs.zip c).all λp=>tq p.1 p.2)) H
theorem N_(D:X.A.units<Uy):je X (compareOp .NotEq) (OB X.K):=by
 intro G s σ H x y v u Q I p i h;obtain⟨a,b,xs,ys,m,k,t,w,f,C,B,q⟩:=h;subst m k;obtain rfl:v=Kf a:=p;obtain rfl:u=Kf b:=i;obtain⟨its,r,E,J⟩:=I.list t;obtain⟨g,d,c,n⟩:=I.list w;have o:=r.length;have F:=d.length;refine XW (e:=λj=>Ap tq xs[j]? ys[j]?) E.isList c.isList (by rw[B8,B8];lia) D (λj z l=>MT r d f C B j z l) _ _ _ _ ⟨.bl _,H,I,U,?_⟩;rw[B8,<-o,all_range tq xs ys f];exact q
theorem xR{j:J'}{q:TT}{p:TE}{Q:VK}(c:B4->M'->L V->Hp->Prop)(G:n<sizeLine)(z:∀D,H D=Y->c D 0 [] (upd H D (.lst [])))(r:∀D i l H',c D i l H'->l.length<=i)(w:∀(D:B4)(i:M')(l:L V)(H':Hp)(o:Tq->Hp->Prop),i<n->c D i l H'->(∀b d,(b=F'->c D (i+1) l d)->(b=T'->∀k:VK,(∀y f,f D=O (.lst l)->c D (i+1) (l++[y]) (upd f D (.lst (l++[y])))->k y f)->p (O (.int (j+i))::σ) d k)->o b d)->q (O (.int (j+i))::σ) H' o)(u:∀D l H',c D n l H'->Q (.ref D) H'):fQ (IF j n) H σ q p Q:=by
 intro D s;refine⟨λi m H'=>m=n-i/\i<=n/\∃l,c D i l H',⟨n,aB,Sm _,[],z D s⟩,?_⟩;rintro i m H' ⟨rfl,E,l,g⟩;by_cases a:i<n
 ·refine .inr ⟨a,λx d y=>?_⟩;obtain⟨e,y⟩:=y;subst e y;refine w D i l d _ a g λb f B A=>?_
  cases b with
  |false=>
   refine bW ?_;exact⟨n-(i+1),aB,U,a,l,B U⟩
  |true=>
   refine dJ (A U _ λv F C t=>?_);have h:=r D i l d g;exact⟨l,C,VO h aB,n-(i+1),aB,U,a,l++[v],t⟩
 ·have e:i=n:=by lia
  subst e;exact .inl ⟨B9 _,u D l H' g⟩
def EK(b:X.K=K):e_ X (.builtin "len") (λxs H Q=>∃p a,xs=[.ref p]/\(bu K H p a\/bq K H p a)/\Q (.int a.length) H):=by
 subst b;exact bM
theorem Vals.at(r:Vals xs us)(h:us[i]? =O u):∃x,xs[i]? =O x/\RelV x u:=by
 have b:i<us.length:=(TK.mp h).1;have a:=r.length;obtain⟨w,q,p⟩:=r.get (i:=i) (x:=xs[i]) (by simp[show i<xs.length by lia]);rw[h]at q
 cases q
 exact⟨xs[i],by simp[show i<xs.length by lia],p⟩
def Qk{bs:L Tq}(r:Vals (bs.map V.bl) us)(h:us[i]? =O u):∃b,bs[i]? =O b/\u= .bool b:=by
 obtain⟨x,a,p⟩:=r.at h;rw[B6]at a
 cases e:bs[i]? with
 |none=>rw[e]at a;cases a
 |some b=>
  rw[e]at a;have q:V.bl b=x:=SV a;subst q;exact⟨b,U,p⟩
theorem xS:∀bs:L Tq,((Tg bs.length).all λi=>(bs[i]?).getD T')=bs.all id
 |[]=>rfl
 |b::bs=>by
  have a:=xS bs;rw[Da,Z5,Wb,Wl,Wb,<-a];rfl
inductive NL(K:B0)(xs:L V)(H:Hp)(Q:VK):Prop
 |mk (p:B4) (ns:L J') (c0:xs=[.ref p]) (c1:bu K H p (ns.map V.int)) (c2:Q (.int ns.sum) H)
def LL(K:B0):L V->Hp->VK->Prop:=λxs H Q=>NL K xs H Q
def CA(l:X.calm=T'):e_ X (.builtin "sum") (LL X.K):=by
 intro w s σ H xs us Q I r h;obtain⟨p,e,i,o,q⟩:=h;subst i;obtain⟨u,a,n⟩:=vals1 r;subst a;obtain rfl:u=Kf p:=n;obtain⟨its,m,t,y⟩:=I.list o;have d:=intsAre_of m;obtain⟨b,c⟩:=d.allInts.items
 have k:e=b.toList.map (·.1):=by rw[<-d.numsOf,<-nums_intItems,<-c]
 have f:=t.isList;rw[c]at f;refine sum_intListG (I.ok.hd l) f λv x j g=>?_
 have a:preSum (numAt b) b.size=e.sum:=by rw[preSum_eq,Tp (by simp),k]
 rw[a];exact⟨.int _,H,I.kept g,⟨j,U⟩,q⟩
inductive Ny(K:B0)(xs:L V)(H:Hp)(Q:VK):Prop
 |mk (p:B4) (bs:L Tq) (c0:xs=[.ref p]) (c1:bu K H p (bs.map V.bl)) (c2:Q (.bl (bs.all id)) H)
def Bc(K:B0):L V->Hp->VK->Prop:=λxs H Q=>Ny K xs H Q
def fT(t:X.calm=T'):e_ X (.builtin "all") (Bc X.K):=by
 intro F s σ H xs us Q I r h;obtain⟨p,bs,n,x,q⟩:=h;subst n;obtain⟨u,k,w⟩:=vals1 r;subst k;obtain rfl:u=Kf p:=w;obtain⟨its,f,B,J⟩:=I.list x;have c:=B.isList
 have lt:p<s.heap.objs.size:=by
  obtain⟨_,e,_⟩:=c;exact Gc e
 refine call_all_walk (aa8 c ?_)
 refine⟨s.heap.objs.size,[s.heap.objs.size,p],[s.heap.objs.size],its.toArray.size,_,_,λi=>(bs[i]?).getD T',U,Walks.list (A:=X.A.in1) (I.ok.hd t) _ p (Sy lt) its.toArray,
  ⟨⟨_,Ss _ U,U,U⟩,c.push _⟩,λi v C G D y g=>?_,λE z l=>?_⟩
 ·obtain⟨b,e,j⟩:=Qk f (by simpa using y);subst j;simp only[e,Option.getD_some]at g;exact T_ g
 ·have e:((Tg its.toArray.size).all λi=>(bs[i]?).getD T')=bs.all id:=by
   have d:=f.length;rw[AC]at d;rw[B8,<-d,xS]
  rw[e];refine⟨.bl _,H,I.kept (t':=z) λb o a=>l b o (λm=>?_) (B7 _ a),U,q⟩;rw[Dk.mp m]at a;exact TR _ (Gc a)
def Rq(K:B0)(c:Tq):R2:=λx y H Q=>∃a b xs,x= .ref a/\y= .ref b/\bu K H a xs/\bu K H b []/\Q (.bl (if c then !xs.isEmpty else xs.isEmpty)) H
theorem Nf(g:X.A.units<Uy):je X (compareOp .NotEq) (Rq X.K T'):=by
 intro E s σ H x y v u Q I t k h;obtain⟨a,b,xs,n,m,z,B,q⟩:=h;subst n m;obtain rfl:v=Kf a:=t;obtain rfl:u=Kf b:=k;obtain⟨its,r,i,G⟩:=I.list z;obtain⟨f,w,c,p⟩:=I.list B;have d:=r.length;have l:=w.length;rw[Vd]at l
 cases xs with
 |nil=>
  rw[Vd]at d;refine XW (e:=λ_=>T') i.isList c.isList (by rw[B8,B8];lia) g (λj C D=>by rw[B8]at C;lia) _ _ _ _ ⟨.bl F',H,I,?_,q⟩;show V8 _=V8 F'
  congr 1
  rw[show((Tg its.toArray.size).all λ_=>T')=T' from UW.mpr λ_ _=>U];rfl
 |cons F o=>
  rw[Da]at d;refine YU i.isList c.isList ?_ g _ _ _ _ ⟨.bl T',H,I,U,q⟩;rw[B8,B8];simp
  lia
end L2
namespace DW
open PySem
def nS(i:J'):Z:=Ua (toString i)
def fh(s:UP):(Ua s).cps.toList=s.toList.map Char.toNat:=by
 rw[Str.ofString_eq_byList];rfl
variable{x y s:Z}{a b i:J'}{c B:M'}
def pT(h:x.cps.toList=y.cps.toList):x=y:=by
 cases x;cases y
 simp only[Str.mk.injEq];exact Array.toList_inj.mp h
def uB{a b:UP}(h:Ua a=Ua b):a=b:=by
 have e:=Tb (λs:Z=>s.cps.toList) h;rw[fh,fh]at e
 have g:a.toList=b.toList:=by
  exact(List.map_inj_right λc d f=>Char.toNat_inj.mp f).mp e
 exact String.toList_inj.mp g
def ri(h:nS a=nS b):a=b:=Int.repr_injective (uB h)
def Br(n:M'):∀c∈(VU n).toList,48<=c.toNat/\c.toNat<=57:=λc a=>by
 have e:(VU n).toList=Vt 10 n:=by unfold VU;exact aaw
 rw[e]at a;have :=YJ bp bp a;simp only[Char.isDigit,Tw,UD]at this;exact⟨this.1,this.2⟩
def N8(i:J'):∀c∈(nS i).cps.toList,c=45\/48<=c/\c<=57:=λc a=>by
 unfold nS at a;rw[fh]at a;obtain⟨d,b,rfl⟩:=Su.mp a
 cases i with
 |ofNat n=>exact .inr (Br n d b)
 |negSucc n=>
  have e:(toString (Int.negSucc n)).toList= '-' ::(VU (n+1)).toList:=by
   show("-"++VU (n+1)).toList=_;rw[Xq];rfl
  rw[e]at b
  rcases PP.mp b with z|z
  ·rw[z];exact .inl U
  ·exact .inr (Br (n+1) d z)
def pf(x y:Z):(x++y).cps.toList=x.cps.toList++y.cps.toList:=by
 show(x.cps++y.cps).toList=_;rw[SF]
theorem Fg{α:Type}{c:α}:∀{x y r d:L α},c∉x->c∉y->x++c::r=y++c::d->x=y/\r=d
 |[],[],r,d,_,_,e=>by injection e with _ e;exact⟨U,e⟩
 |[],b::y,r,d,_,f,e=>by injection e with e _;exact KB (by rw[<-e];exact De) f
 |a::x,[],r,d,g,_,e=>by injection e with e _;exact KB (by rw[e];exact De) g
 |a::x,b::y,r,d,g,f,e=>by
  injection e with l j
  obtain⟨k,i⟩:=Fg (λh=>g (Fk _ h)) (λh=>f (Fk _ h)) j;exact⟨by rw[l,k],i⟩
def cut_str{r a:Z}(i:c∉x.cps.toList)(g:c∉y.cps.toList){t:L M'}(h:s.cps.toList=c::t)(e:x++(s++r)=y++(s++a)):x=y/\r=a:=by
 have b:=Tb (λs:Z=>s.cps.toList) e;rw[pf,pf,pf,pf,h,Uc,Uc]at b;obtain⟨f,d⟩:=Fg i g b;exact⟨pT f,pT (List.append_cancel_left d)⟩
theorem mG(h:c<45\/(45<c/\c<48)\/57<c)(i:J'):c∉(nS i).cps.toList:=λa=>by
 have :=N8 i c a
 lia
def iQ(x y z:Z):(x++y)++z=x++(y++z):=by
 show(⟨(x.cps++y.cps)++z.cps⟩:Z)=⟨x.cps++(y.cps++z.cps)⟩;rw[UT]
def Jr{t:L M'}(h:s.cps.toList=c::t)(f:c<45\/(45<c/\c<48)\/57<c){d g:J'}(e:nS a++(s++nS b)=nS d++(s++nS g)):a=d/\b=g:=by
 obtain⟨j,i⟩:=cut_str (mG f a) (mG f d) h e;exact⟨ri j,ri i⟩
def OI(s x:Z):Sr s [x]=x:=rfl
def L6(s x y:Z):Sr s [x,y]=x++(s++y):=by
 show(⟨x.cps++s.cps++y.cps⟩:Z)=⟨x.cps++(s.cps++y.cps)⟩;rw[UT]
def AN(s x y:Z)(r:L Z):Sr s (x::y::r)=x++(s++Sr s (y::r)):=by
 have d:∀(r:L Z)(a b:Us M'),r.foldl (λc p=>c++s.cps++p.cps) (a++b)=a++r.foldl (λc p=>c++s.cps++p.cps) b:=λr=>by
  induction r with
  |nil=>intro a b;rfl
  |cons z r e=>
   intro a b;rw[Xg,Xg,UT (xs:=a),UT (xs:=a),e]
 show(⟨r.foldl (λc p=>c++s.cps++p.cps) (x.cps++s.cps++y.cps)⟩:Z)=⟨x.cps++(s.cps++r.foldl (λc p=>c++s.cps++p.cps) y.cps)⟩;rw[d,UT]
def Ji(x:Z):x.length=x.cps.toList.length:=by
 show x.cps.size=_;exact Array.length_toList.symm
theorem fu(s:Z):∀(a:L Z),(∀y∈a,y.length<=B)->(Sr s a).length<=a.length*(B+s.length)
 |[],_=>Sm _
 |[x],h=>by
  rw[OI];have :=h x De;show _<=1*_
  lia
 |x::y::r,h=>by
  rw[AN,FS,FS];have d:=h x De;have c:=fu s (y::r) λz b=>h z (Fk _ b);rw[Da,Ya]
  lia
theorem ig:∀(a:L Z),(∀y∈a,y.length<=B)->(a.map (·.length)).sum<=a.length*B
 |[],_=>Sm _
 |y::r,h=>by
  have d:=h y De;have c:=ig r λz b=>h z (Fk _ b);rw[SQ,WN,Da,Ya]
  lia
theorem ir(h:i.natAbs<1000000000):(nS i).length<=10:=by
 have k:∀n:M',n<1000000000->(VU n).toList.length<=9:=λn a=>by
  have e:(VU n).toList=Vt 10 n:=by unfold VU;exact aaw
  rw[e];exact(Nat.length_toDigits_le_iff bp bp).mpr aB
 rw[Ji];unfold nS;rw[fh,AC]
 cases i with
 |ofNat n=>
  have :=k n h;show(VU n).toList.length<=10
  lia
 |negSucc n=>
  have e:(toString (Int.negSucc n)).toList= '-' ::(VU (n+1)).toList:=by
   show("-"++VU (n+1)).toList=_;rw[Xq];rfl
  rw[e,Da];have :=k (n+1) h
  lia
theorem Dy(h:i.natAbs<1000000000):i.natAbs.log2<1920:=by
 have :i.natAbs.log2<=i.natAbs:=Nat.log2_le_self _;by_cases z:i.natAbs=0
 ·rw[z];decide
 ·have a:=(Nat.log2_lt z (k:=30)).mpr aB
  lia
end DW
namespace L2
open PySem PySem.Spec PyProof.Rows
noncomputable def tS:V->Z
 | .int i=>DW.nS i
 | .str x=>x
 |_=>""
def rN:V->Prop
 | .int i=>i.natAbs<1000000000
 | .str x=>x.length<=60
 |_=>False
variable{K:B0}{T id:UP}{X:Cx}{apos cpos pos pos':Pos}{e value:Expr}{d y v:V}{o:O' V}{u r:B5}{P:To}{w:TV}{H H':Hp}{K':L (L Key×V)}{xs:L (L Key×B4×B5)}{b a:B4}{A:UU}{E Q:B5->FM->Prop}{h':T9}{A':L (B4×Obj)}{s:FM}{σ:St}{td ty:TE}{trs:L (TE×TE)}
section
def bz:e_ X (.type "str") (λxs H Q=>∃x,xs=[x]/\rN x/\Q (.str (tS x)) H):=by
 intro A' s σ H xs c Q I r h;obtain⟨x,rfl,a,q⟩:=h;obtain⟨u,rfl,b⟩:=vals1 r
 cases x with
 |int i=>
  obtain⟨t,rfl⟩:=b;exact PySem.P.str_of_int (DW.Dy a) ⟨.str _,H,I.tok _,⟨_,U⟩,q⟩
 |str x=>
  obtain⟨t,rfl⟩:=b;exact PySem.P.str_of_str ⟨.str _,H,I,⟨_,U⟩,q⟩
 |_=>exact a.elim
def nV(K:B0):V->L V->Hp->VK->Prop:=λx c H Q=>∃z b a,x= .str z/\c=[.ref b]/\bq K H b (a.map V.str)/\(a.map (·.length)).sum+a.length*z.length<=16777216/\Q (.str (Sr z a)) H
def Gv:EM X "str.join" (nV X.K):=by
 intro A' s σ H x A v y Q I j m h;obtain⟨z,b,d,e,c,l,w,q⟩:=h;subst e c;obtain⟨t,f⟩:=(show∃t,v=Uj z t from j);subst f;obtain⟨u,a,o⟩:=m.one;subst a;obtain rfl:u=Kf b:=o;obtain⟨n,r,p,i⟩:=I.tuple l;exact join_tuple p (by simpa using uD r) w λg k=>⟨.str (Sr z d),H,I.tok k,⟨g,U⟩,q⟩
variable{o:Expr}{es:L Expr}{to:TE}{t:TA}{name:Z}{r:V->L V->Hp->VK->Prop}
def uJ(j:aa0 T)(d:Slot T name id)(g:typeOf (.builtin id)=pure (.type "method_descriptor"))(l:X.K=K->QG X id r)(k:PE X o to)(n:PA X (e::es) t)(i:X.K=K:=by rfl)(c:VC o name X.env (eval o X.env)=eval o X.env:=by rfl)(f:((UJ cpos (P3 (e::es) X.env)).all (λx=> !x.1)&&(Vc cpos (Ut [] X.env)).all (λx=>x.1.isSome)
   &&decide ((e::es).length+([]:L WC).length+(if([]:L WC).isEmpty then 0 else 1)<30))=T':=by rfl)(b:(apos.endLine==cpos.line)=T':=by rfl)(m:P3 (e::es) X.env=(F',eval e X.env)::P3 es X.env:=by rfl)(a:(UJ cpos (P3 es X.env)).any (·.1)=F':=by rfl):
  PE X (.Call (.Attribute o name apos) (e::es) [] cpos) (Pf K T r to t):=by
 have h:=l i;subst i;exact bY j d g h k n c f b m a
def nX(h:X.K=K):QG X "str.join" (nV K):=by subst h;exact Gv
end
section
variable{e1 e2 e3 a b:Expr}{t t1 t2 t3 ta tb te:TE}
def aN(h:PE X e t)(s:P3 [e] X.env=(F',eval e X.env)::P3 [] X.env:=by rfl):PA X [e] (aY t dc):=bj h eO s
def bO(h:PE X e t)(a:PE X e1 t1)(s:P3 [e,e1] X.env=(F',eval e X.env)::P3 [e1] X.env:=by rfl)(b:P3 [e1] X.env=(F',eval e1 X.env)::P3 [] X.env:=by rfl):PA X [e,e1] (aY t (aY t1 dc)):=bj h (aN a b) s
def gh(h:PE X e t)(c:PE X e1 t1)(d:PE X e2 t2)(s:P3 [e,e1,e2] X.env=(F',eval e X.env)::P3 [e1,e2] X.env:=by rfl)(b:P3 [e1,e2] X.env=(F',eval e1 X.env)::P3 [e2] X.env:=by rfl)(a:P3 [e2] X.env=(F',eval e2 X.env)::P3 [] X.env:=by rfl):PA X [e,e1,e2] (aY t (aY t1 (aY t2 dc))):=bj h (bO c d b a) s
def cy(e:PE X a ta)(c:PE X b tb)(d:pk b:=by exactλ_ _=>U):PE X (.Subscript a b pos) (ix (yj X.K) ta tb):=jD vp e c d
def ny(e:PE X a ta)(c:PE X b tb)(d:pk b:=by exactλ_ _=>U):PE X (.Subscript a b pos) (ix (vj X.K) ta tb):=jD vT e c d
def jC(d:PE X a ta)(c:PE X b tb):PT X (.Compare a [.Eq] [b] pos) (kh (ix Qn ta tb)):=bh lT d c (bB _)
def HU(d:PE X a ta)(c:PE X b tb):PT X (.Compare a [.NotEq] [b] pos) (kh (ix Oc ta tb)):=bh BI d c (bB _)
def pz(i:M'){x:Z}(a:X.N.Nodup)(b:PE X e te)(c:X.N[i]? =O x:=by rfl)(g:Loc X.env.scope x:=by exact Te U)(f:VP e (O (.Name x pos')) pos.line X.env=pure F':=by rfl)(d:X.fn x=T'\/X.env.scope.names.lookup x=O .local:=by first|exact .inl U|exact .inr U|assumption):PS X (.Assign [.Name x pos'] e pos) (lO te (eY i)):=zV a c g b f d
end
section
variable{κ:Type}[aaz κ]
noncomputable def du(K':L (κ×V))(k:κ):O' V:=(K'.find? λa=>decide (a.1=k)).map (·.2)
noncomputable def putK(K':L (κ×V))(k:κ)(v:V):L (κ×V):=
 if(K'.any λa=>decide (a.1=k))=T' then K'.map (λa=>if a.1=k then(a.1,v)else a)else K'++[(k,v)]
noncomputable def nq(K':L (κ×V))(k:κ):L (κ×V):=K'.filter λa=>decide (a.1≠k)
def dX{p:κ×V}{r:L (κ×V)}{k:κ}(e:p.1=k):du (p::r) k=O p.2:=by simp[du,VH,e]
def dU{p:κ×V}{r:L (κ×V)}{k:κ}(e:¬p.1=k):du (p::r) k=du r k:=by simp[du,VH,e]
theorem ke(k:κ):∀K':L (κ×V),(K'.any λa=>decide (a.1=k))=(du K' k).isSome
 |[]=>rfl
 |p::r=>by
  rw[Wa];by_cases e:p.1=k
  ·simp only[dX e,FB e,Bool.true_or,aa1]
  ·rw[dU e,GT e,Bool.false_or];exact ke k r
theorem wJ(k j:κ)(y:V):∀K':L (κ×V),du (K'.map λa=>if a.1=k then(a.1,y)else a) j=(du K' j).map λx=>if j=k then y else x
 |[]=>rfl
 |p::r=>by
  have b:=wJ k j y r;rw[SQ];by_cases h:p.1=k
  ·rw[KF h];by_cases e:p.1=j
   ·rw[dX (p:=(p.1,y)) e,dX e,Xd,KF (e.symm.trans h)]
   ·rw[dU (p:=(p.1,y)) e,dU e,b]
  ·rw[GM h];by_cases e:p.1=j
   ·rw[dX (p:=p) e,dX e,Xd,GM (λz=>h (e.trans z))]
   ·rw[dU (p:=p) e,dU e,b]
theorem tF(k j:κ)(y:V):∀K':L (κ×V),du K' k=Y->du (K'++[(k,y)]) j=if j=k then O y else du K' j
 |[],_=>by
  by_cases e:k=j
  ·rw[KF e.symm];exact dX (p:=(k,y)) e
  ·rw[GM (λz=>e z.symm)];exact dU (p:=(k,y)) e
 |p::r,a=>by
  rw[Uc]
  have b:¬p.1=k:=λz=>by rw[dX z]at a;cases a
  rw[dU b]at a;have c:=tF k j y r a;by_cases e:p.1=j
  ·rw[dX e,dX e,GM (λz=>b (e.trans z))]
  ·rw[dU e,dU e,c]
def HB(K':L (κ×V))(k j:κ)(y:V):du (putK K' k y) j=if j=k then O y else du K' j:=by
 unfold putK;by_cases a:(K'.any λb=>decide (b.1=k))=T'
 ·rw[KF a,wJ];rw[ke]at a;by_cases e:j=k
  ·obtain⟨x,c⟩:=aai.mp a;rw[KF e,e,c,Xd,KF U]
  ·rw[GM e]
   cases du K' j with
   |none=>rfl
   |some x=>rw[Xd,GM e]
 ·rw[GM a];refine tF k j y K' ?_;rw[ke]at a
  cases q:du K' k with
  |none=>rfl
  |some x=>rw[q]at a;exact(a U).elim
theorem fV(K':L (κ×V))(k:κ)(v:V):(putK K' k v).length<=K'.length+1:=by
 unfold putK
 split
 ·rw[AC];lia
 ·rw[B3,Da,Vd];lia
def rB{K':L (κ×V)}{k:κ}(v:V)(h:du K' k=Y):putK K' k v=K'++[(k,v)]:=by
 unfold putK;rw[ke,h];exact GM bp
def il.nL{u:O' B5}(r:il o u):o.isSome=u.isSome:=by
 cases o with
 |none=>cases u with
  |none=>rfl
  |some _=>exact(show False from r).elim
 |some _=>cases u with
  |none=>exact(show False from r).elim
  |some _=>rfl
def il.getD{u:O' B5}{a:B5}(r:il o u)(b:RelV d a):RelV (o.getD d) (u.getD a):=by
 cases o with
 |none=>cases u with
  |none=>exact b
  |some _=>exact(show False from r).elim
 |some _=>cases u with
  |none=>exact(show False from r).elim
  |some _=>exact r
def KV.val{K':L (κ×V)}{d:L (κ×B5)}(r:KV K' d)(k:κ):il (du K' k) (V_ d k):=by
 unfold KV at r
 induction r with
 |nil=>exact T8
 | @cons p q j c h t i=>
  obtain⟨f,g⟩:=h;by_cases e:p.1=k
  ·have a:q.1=k:=f.symm.trans e
   have b:V_ (q::c) k=O q.2:=by simp[V_,VH,a]
   rw[dX e,b];exact g
  ·have a:¬q.1=k:=λz=>e (f.trans z)
   have b:V_ (q::c) k=V_ c k:=by simp[V_,VH,a]
   rw[dU e,b];exact i
def KV.any{K':L (κ×V)}{b:L (κ×B5)}(r:KV K' b)(k:κ):(K'.any λa=>decide (a.1=k))=b.any λa=>decide (a.1=k):=by
 unfold KV at r
 induction r with
 |nil=>rfl
 |cons h t c=>rw[Wa,Wa,c,h.1]
def KV.NM{K':L (κ×V)}{c:L (κ×B5)}(r:KV K' c)(k:κ)(d:RelV y u):
  KV (K'.map λa=>if a.1=k then(a.1,y)else a) (c.map λa=>if a.1=k then(a.1,u)else a):=by
 unfold KV at r⊢
 induction r with
 |nil=>exact .nil
 | @cons p q i j h t g=>
  rw[SQ,SQ];refine .cons ?_ g;obtain⟨b,f⟩:=h;by_cases e:p.1=k
  ·rw[KF e,KF (b.symm.trans e)];exact⟨b,d⟩
  ·rw[GM e,GM (λz=>e (b.trans z))];exact⟨b,f⟩
def KV.put{K':L (κ×V)}{a:L (κ×B5)}(r:KV K' a)(k:κ)(b:RelV y u):KV (putK K' k y) (stored a k u):=by
 unfold putK stored;rw[r.any k];by_cases e:(a.any λc=>decide (c.1=k))=T'
 ·rw[KF e,KF e];exact r.NM k b
 ·rw[GM e,GM e];exact Paired.snoc r ⟨U,b⟩
def KV.drop{K':L (κ×V)}{f:L (κ×B5)}(r:KV K' f)(k:κ):KV (nq K' k) (without f k):=by
 unfold KV at r⊢;unfold nq without
 induction r with
 |nil=>exact .nil
 | @cons p q j l h t d=>
  obtain⟨c,i⟩:=h;rw[abB,abB];by_cases e:p.1=k
  ·have a:¬decide (p.1≠k)=T':=by simp[e]
   have b:¬decide (q.1≠k)=T':=by simp[c.symm.trans e]
   rw[GM a,GM b];exact d
  ·have g:¬q.1=k:=λz=>e (c.trans z)
   have a:decide (p.1≠k)=T':=by simp[e]
   have b:decide (q.1≠k)=T':=by simp[g]
   rw[KF a,KF b];exact .cons ⟨c,i⟩ d
def KV.length{K':L (κ×V)}{a:L (κ×B5)}(r:KV K' a):K'.length=a.length:=WM r
def Hi(K':L (κ×V))(k:κ):(nq K' k).length<=K'.length:=V6 _ _
end
def mq{k:Key}(r:RelV (kV k) u):(bx P w).is k u=T':=by
 cases k with
 |inl i=>obtain⟨t,e⟩:=(show∃t,u=WU i t from r);subst e;exact xg P w i t
 |inr x=>obtain⟨t,e⟩:=(show∃t,u=Uj x t from r);subst e;exact yz P w x t
theorem tZ:∀{a:L Key}{b:L B5},Vals (a.map kV) b->ItemsAre (bx P w) a b
 |[],_,r=>by rw[Ye]at r;cases r;exact .nil
 |k::a,_,r=>by
  rw[SQ]at r
  cases r with
  |cons h t=>exact .cons (mq h) (tZ t)
abbrev KT(H:Hp):L (L Key×V)->L (L Key×B4×B5)->Prop:=Paired λp q=>p.1=q.1/\H q.2.1=O (.tup (p.1.map kV))/\RelV p.2 q.2.2
def KT.val(r:KT H K' xs)(k:L Key):il (du K' k) ((YT xs k).map (·.2)):=by
 induction r with
 |nil=>exact T8
 | @cons p q i c h t g=>
  obtain⟨d,_,f⟩:=h;by_cases e:p.1=k
  ·have a:q.1=k:=d.symm.trans e
   have b:YT (q::c) k=O q.2:=by simp[YT,VH,a]
   rw[dX e,b];exact f
  ·have a:¬q.1=k:=λz=>e (d.trans z)
   have b:YT (q::c) k=YT c k:=by simp[YT,VH,a]
   rw[dU e,b];exact g
def KT.NM(r:KT H K' xs)(k:L Key)(d:RelV y u):
  KT H (K'.map λb=>if b.1=k then(b.1,y)else b) (xs.map (putAt k u)):=by
 induction r with
 |nil=>exact .nil
 | @cons p q i j h t g=>
  rw[SQ,SQ];refine .cons ?_ g;obtain⟨a,c,f⟩:=h;unfold putAt;by_cases e:p.1=k
  ·rw[KF e,KF (a.symm.trans e)];exact⟨a,c,d⟩
  ·rw[GM e,GM (λz=>e (a.trans z))];exact⟨a,c,f⟩
def KT.put(r:KT H K' xs)(k:L Key)(d:H b=O (.tup (k.map kV)))(a:RelV y u):
  KT H (putK K' k y) (storedH xs k b u):=by
 have e:(K'.any λc=>decide (c.1=k))=(YT xs k).isSome:=by
  rw[ke,(r.val k).nL,abe]
 unfold putK storedH;rw[e];by_cases q:(YT xs k).isSome=T'
 ·rw[KF q,KF q];exact r.NM k a
 ·rw[GM q,GM q];exact Paired.snoc r ⟨U,d,a⟩
def KT.keeps(r:KT H K' xs)(c:∀b a,H b=O (.tup a)->H' b=O (.tup a)):KT H' K' xs:=
 Paired.ND r λ_ _ z=>⟨z.1,c _ _ z.2.1,z.2.2⟩
section
variable{h:T9}
def LZ{u:HO}(ok:jE P w H h)(e:Rd H a u):cM P w H h a u:=e.ok ok
def lg{K':L (Key×V)}(ok:jE P w H h)(e:Rd H a (.dK K')):K'.length<=sizeLine/\(a==UF)=F'/\∃b,KV K' b/\h.DictOf (bx P w) a b:=
 show cM P w H h a (.dK K')from LZ ok e
def xF{K':L (Key×V)}(ok:jE P w H h)(e:H a=O (.dK K')):K'.length<=sizeLine/\(a==UF)=F'/\∃b,KV K' b/\h.DictOf (bx P w) a b:=lg ok (.inl e)
def rR{c:L Key}(ok:jE P w H h)(e:H a=O (.tup (c.map kV))):(XA (bx P w)).is h c a:=by
 obtain⟨_,b,r,o,g,f,n,d⟩:=(show cM P w H h a (.tup (c.map kV))from ok a _ e);exact⟨o,b.toArray,n,g,f,d,by simpa using tZ r⟩
def sV(ok:jE P w H h)(e:Rd H a (.dT K')):K'.length<=sizeLine/\(a==UF)=F'/\
  ∃xs,KT H K' xs/\h.DictOfH (XA (bx P w)) a xs:=by
 obtain⟨z,y,xs,r,o,c,g,n,f,d,j,i⟩:=(show cM P w H h a (.dT K')from LZ ok e);refine⟨z,y,xs,r,o,c,g,n,f,d,j,λx hx=>?_,i⟩
 have all:∀{l:L (L Key×V)}{m:L (L Key×B4×B5)},KT H l m->∀x∈m,(XA (bx P w)).is h x.1 x.2.1:=by
  intro l m q
  induction q with
  |nil=>intro x hx;exact nomatch hx
  | @cons p q s u b t k=>
   intro x hx
   rcases PP.mp hx with e|hx
   ·subst e;exact rR ok (by rw[<-b.1];exact b.2.1)
   ·exact k x hx
 exact all r x hx
def Qu(ok:jE P w H h)(e:H a=O (.dT K')):K'.length<=sizeLine/\(a==UF)=F'/\
  ∃xs,KT H K' xs/\h.DictOfH (XA (bx P w)) a xs:=sV ok (.inl e)
end
def iP(H:Hp)(a:B4)(y:V)(r:O' V):Prop:=
 (∃K' k,Rd H a (.dK K')/\y=kV k/\r=du K' k)\/∃K' k b,Rd H a (.dT K')/\y= .ref b/\H b=O (.tup (k.map kV))/\r=du K' k
def sm(H:Hp)(a:B4)(y v:V)(H':Hp):Prop:=
 (∃K' k,H a=O (.dK K')/\y=kV k/\K'.length<sizeLine/\H'=upd H a (.dK (putK K' k v)))\/
 ∃K' k b,H a=O (.dT K')/\y= .ref b/\H b=O (.tup (k.map kV))/\K'.length<sizeLine/\H'=upd H a (.dT (putK K' k v))
def iP.k{K':L (Key×V)}{k:Key}(e:H a=O (.dK K')):iP H a (kV k) (du K' k):= .inl ⟨K',k,.inl e,U,U⟩
def iP.t{k:L Key}(e:H a=O (.dT K'))(c:H b=O (.tup (k.map kV))):iP H a (.ref b) (du K' k):= .inr ⟨K',k,b,.inl e,U,c,U⟩
def sm.k{K':L (Key×V)}{k:Key}(e:H a=O (.dK K'))(b:K'.length<sizeLine):sm H a (kV k) v (upd H a (.dK (putK K' k v))):= .inl ⟨K',k,e,U,b,U⟩
def sm.t{k:L Key}(e:H a=O (.dT K'))(d:H b=O (.tup (k.map kV)))(c:K'.length<sizeLine):
  sm H a (.ref b) v (upd H a (.dT (putK K' k v))):= .inr ⟨K',k,b,e,U,d,c,U⟩
def Inv.big(I:Inv X A' σ H s):UF<s.heap.objs.size:=by
 have h:SC<s.heap.objs.size:=(I.mod.glob.keeps I.bk).lt;exact Nat.lt_trans bp h
def ED(x:A.units+1<Uy)(I:Inv X A' σ H s)(g:iP H a y (O v))(n:RelV y u)(h:∀f q,Inv X A' σ H q->RelV v f->Q f q):
  Ki (Pp X.prog X.w) A (getItem (.ref a) u) Q E s:=by
 rcases g with⟨K',k,e,i,l⟩|⟨K',k,b,e,i,B,l⟩
 ·subst i;obtain⟨z,t,C,d,dd⟩:=lg I.hok e;obtain⟨f,m,c⟩:=il.some_of (v:=v) (o:=V_ C k) (by rw[l];exact d.val k);exact wpAny_getItem_of (mq n) dd.mapOf m (h f _ (I.tok _) c)
 ·subst i
  cases(show u=Kf b from n)
  obtain⟨z,t,xs,d,dd⟩:=sV I.hok e;obtain⟨f,m,c⟩:=il.some_of (v:=v) (o:=(YT xs k).map (·.2)) (by rw[l];exact d.val k);obtain⟨p,r,j⟩:=Sn.mp m;refine wpAny_getItem_heap (Wo x) (rR I.hok B) dd r ?_;rw[j];exact h f _ (I.tok _) c
def RA(m:A.units+1<Uy)(I:Inv X A' σ H s)(g:iP H a y o)(i:RelV y u)(h:∀j,Inv X A' σ H j->Q (.bool o.isSome) j):
  Ki (Pp X.prog X.w) A (compareOp .In u (.ref a)) Q E s:=by
 rcases g with⟨K',k,e,d,l⟩|⟨K',k,b,e,d,n,l⟩
 ·subst d;obtain⟨z,f,p,c,dd⟩:=lg I.hok e;refine wpAny_in_of (mq i) f dd.mapOf ?_;rw[<-(c.val k).nL,<-l];exact h _ (I.tok _)
 ·subst d
  cases(show u=Kf b from i)
  obtain⟨z,f,xs,c,dd⟩:=sV I.hok e;refine wpAny_in_heap (Wo m) (rR I.hok n) f dd ?_;have q:=(c.val k).nL;rw[abe]at q;rw[<-q,<-l];exact h _ (I.tok _)
def kW{f:M'}{c:HO}(I:Inv X A' σ H s)(i:QC (H a))(g:Ur a s.heap h')(h:∃q,h'.get? a=O q)(d:cM X.prog X.w (upd H a c) h' a c):
  Inv X A' σ (upd H a c) {s with heap:=h',toks:=f}:=
 I.write (x:=a) (e:=a) i (.inl U) (λb q j z=>(g.2 b j).trans z) h d
def rM{K':L (Key×V)}{c:L (Key×B5)}(z:K'.length<=sizeLine)(d:(a==UF)=F')(b:KV K' c)(dd:h'.DictOf (bx P w) a c):
  cM P w H' h' a (.dK K'):=⟨z,d,c,b,dd⟩
theorem DV{Q:aav->FM->Prop}(T:A.units+1<Uy)(I:Inv X A' σ H s)(g:sm H a y v H')(x:RelV y u)(F:RelV v r)(h:∀B,Inv X A' σ H' B->Q () B):
  Ki (Pp X.prog X.w) A (setItem (.ref a) u r) Q E s:=by
 rcases g with⟨K',k,e,j,l,t⟩|⟨K',k,b,e,j,D,l,t⟩
 ·subst j t;obtain⟨z,n,R,d,dd⟩:=xF I.hok e
  have o:R.length<=sizeLine:=by rw[<-d.length];exact z
  have m:(putK K' k v).length<=sizeLine:=by have :=fV K' k v;lia
  refine wpAny_setItem_pairs (hsz:=o) (mq x) dd λh' f p=>h _ ?_;have M:∃q,h'.get? a=O q:=let⟨q,_,_,i,_⟩:=f;⟨q,i⟩;exact kW I (by rw[e];exact T8) p M (rM m n (d.put k F) f)
 ·subst j t
  cases(show u=Kf b from x)
  obtain⟨z,n,xs,d,dd⟩:=Qu I.hok e
  have o:xs.length<=sizeLine:=by rw[<-WM d];exact z
  have m:(putK K' k v).length<=sizeLine:=by have :=fV K' k v;lia
  refine wpAny_setItem_heap (hsz:=o) (Wo T) (rR I.hok D) dd λh' f p=>h _ ?_;obtain⟨q,G,S,i,K,J,P,_,N⟩:=f;refine kW I (by rw[e];exact T8) p ⟨q,i⟩ ⟨m,n,_,(d.put k D F).keeps λc V C=>?_,q,G,S,i,K,J,P,N⟩;rw[ax (wW C e (λz=>nomatch z))];exact C
section
variable{K':L (Key×V)}{k:Key}
def Pw{more:L B5}(I:Inv X A' σ H s)(e:H a=O (.dK K'))(f:RelV (kV k) u)(l:du K' k=O v)(m:more=[]\/∃x,more=[x])(h:∀d j,Inv X A' σ (upd H a (.dK (nq K' k))) j->RelV v d->Q d j):Ki (Pp X.prog X.w) A (call (.builtin "dict.pop") (.ref a::u::more)) Q E s:=by
 obtain⟨z,r,n,b,dd⟩:=xF I.hok e;obtain⟨d,B,g⟩:=il.some_of (v:=v) (o:=V_ n k) (by rw[<-l];exact b.val k)
 have p:(keyPart u).isSome=T':=by
  cases k with
  |inl i=>obtain⟨t,q⟩:=(show∃t,u=WU i t from f);subst q;rfl
  |inr x=>obtain⟨t,q⟩:=(show∃t,u=Uj x t from f);subst q;rfl
 have D:argsOk "dict.pop" ⟨.ref a::u::more,[]⟩:=by
  rcases m with q|⟨x,q⟩
  ·subst q;exact PySem.F.args_dict_pop_2 _ _
  ·subst q;exact ZK _ _ _
 refine VS Xi dd.typeIs ZZ D (meets_dict_pop_there (bx X.prog X.w) a (mq f) more m p)
  ⟨n,d,dd,by rw[<-b.length];exact z,B,λh' c C=>h d _ ?_ g⟩
 have y:∃q,h'.get? a=O q:=let⟨q,_,_,hq,_⟩:=c;⟨q,hq⟩;exact kW I (by rw[e];exact T8) C y (rM (Tf (Hi K' k) z) r (b.drop k) c)
def Mr(I:Inv X A' σ H s)(e:H a=O (.dK K'))(b:RelV (kV k) u)(l:du K' k=Y)(h:∀d,Inv X A' σ H d->Q r d):
  Ki (Pp X.prog X.w) A (call (.builtin "dict.pop") [.ref a,u,r]) Q E s:=by
 obtain⟨z,j,f,c,dd⟩:=xF I.hok e;have m:V_ f k=Y:=il.none_of (by rw[<-l];exact c.val k)
 have g:(keyPart u).isSome=T':=by
  cases k with
  |inl i=>obtain⟨t,q⟩:=(show∃t,u=WU i t from b);subst q;rfl
  |inr x=>obtain⟨t,q⟩:=(show∃t,u=Uj x t from b);subst q;rfl
 exact VS Xi dd.typeIs ZZ (ZK _ _ _) (meets_dict_pop_default (bx X.prog X.w) a (mq b) j g r) ⟨f,dd,m,h _ (I.tok _)⟩
end
def OY(i:Expr):Prop:=∀a b,Yt i F' a b=operate [a,b] (getItem a b)
def Le{a:To}{g:Env}{slice:Expr}(m:XU (.type T) "__getitem__"=pure (O (.builtin id)))(n:OY slice)(h:Ki (Pp a w) A (eval value g) (λo e=>Ki (Pp a w) A (eval slice g) (λi b=>b.TypeIs o T/\Ki (Pp a w) A (getItem o i) Q E b) E e) E s):
  Ki (Pp a w) A (eval (.Subscript value slice pos) g) Q E s:=by
 refine aaS (SW h (λo e k=>SW k (λi b c=>?_) λ_ _ x=>x) λ_ _ x=>x);obtain⟨l,c⟩:=c;unfold subscriptTail;refine B1 ?_;rw[getitemInPython_of_ne l.not_modules];refine B1 (Yw l m ?_)
 have f:Ki (Pp a w) A (Yt slice F' o i) (λr d=>Ki (Pp a w) A (letTemporaryGo value o r >>=λ_=>pure r) Q E d) E b:=by
  rw[n o i];exact wpAny_operating (SW c (λr d j=>B1 (wpAny_letTemporaryGo (GE j))) λ_ _ x=>x)
 first
  |exact GE (B1 f)
  |exact B1 (GE (B1 f))
  |exact B1 f
def xu(I:Inv X A' σ H s)(g:iP H a y o):s.TypeIs (.ref a) "dict":=by
 rcases g with⟨K',k,e,_,_⟩|⟨K',k,b,e,_,_,_⟩
 ·obtain⟨_,_,c,_,dd⟩:=lg I.hok e;exact dd.typeIs
 ·obtain⟨_,_,xs,_,dd⟩:=sV I.hok e;exact dd.typeIs
inductive NP(Q:VK)(x:V)(y:V)(H2:Hp):Prop
 |mk (a:_) (v:_) (c0:x= .ref a) (c1:iP H2 a y (O v)) (c2:Q v H2)
def BQ(td ty:TE):TE:=λσ H Q=>td σ H λx a=>ty σ a λy b=>NP Q x y b
inductive PF(Q:VK)(y:V)(x:V)(H2:Hp):Prop
 |mk (a:_) (o:_) (c0:x= .ref a) (c1:iP H2 a y o) (c2:Q (.bl o.isSome) H2)
def QZ(ty td:TE):TE:=λσ H Q=>ty σ H λy a=>td σ a λx b=>PF Q y x b
inductive Nz(D:Ends)(σ:St)(v:V)(x:V)(y:V)(H3:Hp):Prop
 |mk (a:_) (H4:_) (c0:x= .ref a) (c1:sm H3 a y v H4) (c2:D.nx σ H4)
def PJ(td ty tv:TE):TS:=λD σ H=>tv σ H λv b=>td σ b λx c=>ty σ c λy a=>Nz D σ v x y a
section
variable{o i:Expr}{tpos:Pos}{tv:TE}
def cX(m:X.A.units+1<Uy)(p:PE X o td)(l:PE X i ty)(w:OY i):PE X (.Subscript o i pos) (BQ td ty):=by
 intro A' s σ H Q I h;refine Le PySem.F.slot_dict_getitem.lookup w (cR (p A' s σ H _ I h) λu r ⟨x,n,e,q,f⟩=>cR (l A' r σ n _ e f) λB z ⟨y,k,c,d,a,v,ex,g,t⟩=>?_);subst ex;obtain rfl:u=Kf a:=q;exact⟨xu c g,ED m c g d λC D j b=>⟨v,k,j,b,t⟩⟩
def Fc(m:X.A.units+1<Uy)(l:PE X i ty)(p:PE X o td):PC X .In i o (QZ ty td):=by
 intro A' s σ H Q I h;refine cR (l A' s σ H _ I h) λw r ⟨y,n,c,b,d⟩=>cR (p A' r σ n _ c d) λu v ⟨x,f,j,q,a,k,ex,g,t⟩=>?_;subst ex;obtain rfl:u=Kf a:=q;exact RA m j g b λz e=>⟨.bl k.isSome,f,e,U,t⟩
def pb(C:X.A.units+1<Uy)(E:PE X o td)(k:PE X i ty)(t:PE X value tv)(G:VP value (O (.Subscript o i pos')) pos.line X.env=pure F'):
  PS X (.Assign [.Subscript o i pos'] value pos) (PJ td ty tv):=by
 intro A' s σ H D I h;refine wpAny_Assign_Subscript (cR (t A' s σ H _ I h) λr m ⟨v,F,c,q,d⟩=>cR (E A' m σ F _ c d) λu w ⟨x,e,B,l,n⟩=>cR (k A' w σ e _ B n) λJ K ⟨y,N,z,b,a,p,ex,g,j⟩=>?_) G;subst ex;obtain rfl:u=Kf a:=l;exact DV C z g b q λM f=>⟨σ,p,f,j⟩
end
def xG(h:T9)(a:UF<h.objs.size):cM P w H (h.push {cls:= .type "dict",data:= .dict #[]}) h.objs.size (.dK []):=
 ⟨Sm _,beq_eq_false_iff_ne.mpr (SZ (Sy a)),[],.nil,Heap.DictOf.new h⟩
def EY(h:T9)(a:UF<h.objs.size):cM P w H (h.push {cls:= .type "dict",data:= .dict #[]}) h.objs.size (.dT []):=
 ⟨Sm _,beq_eq_false_iff_ne.mpr (SZ (Sy a)),[],.nil,_,#[],0,Ss _ U,⟨U,U,U⟩,U,U,List.nodup_nil⟩
def Mj:TE:=λ_ H Q=>∀p,H p=Y->Q (.ref p) (upd H p (.dK []))
def MS:TE:=λ_ H Q=>∀p,H p=Y->Q (.ref p) (upd H p (.dT []))
def kg:PE X (.Dict [] [] pos) Mj:=λA' s σ H Q I h=>
 abo ⟨.ref s.heap.objs.size,_,I.laid (a:=s.heap.objs.size) (o:= .dK []) (t':=s.toks) (λ_ _ q=>B7 _ q) (B9 _) (xG s.heap I.big),U,h _ (I.hok.fresh (B9 _))⟩
def Iz:PE X (.Dict [] [] pos) MS:=λA' s σ H Q I h=>
 abo ⟨.ref s.heap.objs.size,_,I.laid (a:=s.heap.objs.size) (o:= .dT []) (t':=s.toks) (λ_ _ q=>B7 _ q) (B9 _) (EY s.heap I.big),U,h _ (I.hok.fresh (B9 _))⟩
def yX:L (TE×TE)->St->Hp->(L (V×V)->Hp->Prop)->Prop
 |[],_,H,Q=>Q [] H
 |(a,tv)::r,σ,H,Q=>a σ H λx c=>tv σ c λy d=>yX r σ d λe b=>Q ((x,y)::e) b
abbrev VV:L (V×V)->L (B5×B5)->Prop:=Paired λp q=>RelV p.1 q.1/\RelV p.2 q.2
def QL(X:Cx)(pos:Pos)(b:L (O' Expr))(a:L Expr)(trs:L (TE×TE)):Prop:=
 ∀(A':L (B4×Obj))(s:FM)(σ:St)(H:Hp)(Q:L (V×V)->Hp->Prop),Inv X A' σ H s->yX trs σ H Q->
  Ki (Pp X.prog X.w) X.A (evalPairs (pairTrees b a X.env pos)) (λe d=>∃c H',Inv X A' σ H' d/\VV c e/\Q c H') X.xe s
def hZ:QL X pos [] [] []:=λA' s σ H Q I h=>pairTrees_nil_walk ⟨[],H,I,.nil,h⟩
def cb{k v:Expr}{c:L (O' Expr)}{d:L Expr}{b tv:TE}(m:PE X k b)(f:PE X v tv)(B:QL X pos c d trs):
  QL X pos (O k::c) (v::d) ((b,tv)::trs):=λA' s σ H Q I h=>
 pairTrees_cons_walk (cR (m A' s σ H _ I h) λu z ⟨x,t,g,w,i⟩=>cR (f A' z σ t _ g i) λw2 j ⟨y,n,q,e,A⟩=>
  cR (B A' j σ n _ q A) λD C ⟨o,r,l,a,p⟩=>⟨(x,y)::o,r,l,.cons ⟨w,e⟩ a,p⟩)
noncomputable def oz(K' more:L (Key×V)):L (Key×V):=more.foldl (λa b=>putK a b.1 b.2) K'
def KV.merge:∀{more:L (Key×V)}{b:L (Key×B5)}{K':L (Key×V)}{a:L (Key×B5)},KV more b->KV K' a->KV (oz K' more) (merged a b):=by
 intro more b K' a r;unfold KV at r
 induction r generalizing K' a with
 |nil=>intro q;exact q
 | @cons p q f g h t c=>
  intro d
  have e:KV (putK K' p.1 p.2) (stored a q.1 q.2):=by
   have :=d.put p.1 h.2;rw[<-h.1];exact this
  exact c e
theorem k_:∀(more K':L (Key×V)),(oz K' more).length<=K'.length+more.length
 |[],K'=>by show K'.length<=K'.length+0;lia
 |p::r,K'=>by
  have b:=k_ r (putK K' p.1 p.2);have a:=fV K' p.1 p.2;show(oz (putK K' p.1 p.2) r).length<=_;rw[Da];lia
theorem rn{P:To}{w:TV}:∀{K':L (Key×V)}{f:L (B5×B5)},VV (K'.map λe=>(kV e.1,e.2)) f->∃d,Carries (bx P w) f d/\KV K' d
 |[],_,r=>by rw[Ye]at r;cases r;exact⟨[],T8,.nil⟩
 |p::K',_,r=>by
  rw[SQ]at r
  cases r with
  | @cons a b as bs h t=>
   obtain⟨d,c,q⟩:=rn (P:=P) (w:=w) t;obtain⟨i,g⟩:=b;exact⟨(p.1,g)::d,⟨mq h.1,U,c⟩,.cons ⟨U,h.2⟩ q⟩
def O4(trs:L (TE×TE)):TE:=λσ H Q=>∀p,H p=Y->yX trs σ (upd H p (.dK [])) λc b=>b p=O (.dK [])/\∃K':L (Key×V),c=K'.map (λa=>(kV a.1,a.2))/\K'.length<=15/\Q (.ref p) (upd b p (.dK (oz [] K')))
theorem gZ{b:L (O' Expr)}{d:L Expr}(h:QL X pos b d trs)(f:b.all (·.isSome)=T')(v:b.length=d.length)(A:b≠[])(i:b.length<=15):PE X (.Dict b d pos) (O4 trs):=by
 intro A' s σ H Q I q;have p:=I.hok.fresh (B9 s.heap.objs.size);have l:=I.laid (a:=s.heap.objs.size) (o:= .dK []) (h':=s.heap.push {cls:= .type "dict",data:= .dict #[]}) (t':=s.toks) (λ_ _ q=>B7 _ q) (B9 _) (xG s.heap I.big);refine wpAny_Dict_walk (knd:=bx X.prog X.w) f v A i (cR (h A' _ σ _ _ l (q _ p)) λG J ⟨K,F,k,j,e,K',x,lk,r⟩=>?_);subst x;obtain⟨m,c,C⟩:=rn (P:=X.prog) (w:=X.w) j;obtain⟨z,y,B,t,dd⟩:=xF k.hok e
 cases t
 refine⟨m,c,dd,λh' g E=>⟨.ref s.heap.objs.size,_,?_,U,r⟩⟩
 have D:(oz [] K').length<=sizeLine:=by
  have u:=k_ K' [];rw[Vd]at u;rw[U6];lia
 have n:∃q,h'.get? s.heap.objs.size=O q:=let⟨q,_,_,hq,_⟩:=g;⟨q,hq⟩;exact kW k (by rw[e];exact T8) E n (rM D y (C.merge .nil) g)
structure M2(X:Cx)(o:Expr)(m:Z)(apos:Pos)(e f:Expr)(cpos:Pos):Prop where
 base:VC o m X.env (eval o X.env)=eval o X.env
 OR:((UJ cpos (P3 [e,f] X.env)).all (λx=> !x.1)&&(Vc cpos (Ut [] X.env)).all (λx=>x.1.isSome)
  &&decide (([e,f]:L Expr).length+([]:L WC).length+(if([]:L WC).isEmpty then 0 else 1)<30))=T'
 line:(apos.endLine==cpos.line)=T'
 trees:UJ cpos (P3 [e,f] X.env)=[(F',eval e X.env),(F',eval f X.env)]
def RV(H:Hp)(a:B4):Prop:=(∃K',Rd H a (.dK K'))\/∃K',Rd H a (.dT K')
def Nl(I:Inv X A' σ H s)(d:RV H a):
  s.TypeIs (.ref a) "dict"/\(∀b,Kf a= .ref b->∃c,s.heap.get? b=O c/\c.dict=Y)/\(a==UF)=F':=by
 rcases d with⟨K',e⟩|⟨K',e⟩
 ·obtain⟨_,f,i,_,dd⟩:=lg I.hok e;refine⟨dd.typeIs,λb q=>?_,f⟩
  cases q
  obtain⟨c,_,_,h,g,_⟩:=dd;exact⟨c,h,g.2.1⟩
 ·obtain⟨_,f,xs,_,dd⟩:=sV I.hok e;refine⟨dd.typeIs,λb q=>?_,f⟩
  cases q
  obtain⟨c,_,_,h,g,_⟩:=dd;exact⟨c,h,g.2.1⟩
def MA(q:A.units+1<Uy)(I:Inv X A' σ H s)(g:iP H a y o)(j:RelV y u)(m:RelV d r)(h:∀p n,Inv X A' σ H n->RelV (o.getD d) p->Q p n):
  Ki (Pp X.prog X.w) A (call (.builtin "dict.get") [.ref a,u,r]) Q E s:=by
 rcases g with⟨K',k,e,f,l⟩|⟨K',k,b,e,f,t,l⟩
 ·subst f;obtain⟨z,i,v,c,dd⟩:=lg I.hok e;refine VS Xj dd.typeIs Z0 (ZL _ _ _) (meets_dict_get_default (bx X.prog X.w) a (mq j) i r) ⟨_,dd.mapOf,h _ _ (I.tok _) ?_⟩;rw[l];exact(c.val k).getD m
 ·subst f
  cases(show u=Kf b from j)
  obtain⟨z,i,xs,c,dd⟩:=sV I.hok e;refine VS Xj dd.typeIs Z0 (ZL _ _ _) (meetsH_dict_get_default (XA (bx X.prog X.w)) a b i r) ⟨Wo q,k,xs,rR I.hok t,dd,h _ _ (I.tok _) ?_⟩;rw[l];exact(c.val k).getD m
def NH(td ty e:TE):TE:=λσ H Q=>td σ H λx c=>∃a,x= .ref a/\RV c a/\ty σ c λy d=>e σ d λz b=>∃o,iP b a y o/\Q (o.getD z) b
section
variable{o f:Expr}{tx:TE}
def F4(J:X.A.units+1<Uy)(K:PE X o td)(r:PE X e ty)(B:PE X f tx)(m:M2 X o "get" apos e f cpos):PE X (.Call (.Attribute o "get" apos) [e,f] [] cpos) (NH td ty tx):=by
 intro A' s σ H Q I h;refine aa_ m.base m.OR m.line UE Xj PySem.F.type_dict_get (cR (K A' s σ H _ I h) λu v ⟨x,M,c,t,a,ex,d,j⟩=>?_);subst ex;obtain rfl:u=Kf a:=t;obtain⟨N,k,_⟩:=Nl c d;refine⟨N,k,?_⟩;rw[m.trees]
 refine V2 U (aaA (Ws (cR (r A' v σ M _ c j) λP C ⟨y,n,E,i,w⟩=>
  Ws (cR (B A' C σ n _ E w) λR S ⟨z,G,D,l,W,g,q⟩=>Yl ?_))))
 exact MA J D g i l λV T p b=>⟨_,G,p,b,q⟩
end
end L2
namespace S2
open PySem L2
def aa.put{H a:Hp}{l:B4}{o:HO}(s:aa H a)(c:H l=Y):aa H (upd a l o):=λb u e=>by
 rw[ax (aH e c)];exact s b u e
def cQ{α:Type}{l:L α}{i:M'}{x:α}(h:l[i]? =O x):i<l.length:=(TK.mp h).1
variable{n:M'}{z:J'}{c:Tq}
def small(h:n<=100000):n<sizeLine:=VO h bp
def az(h:n<=100000):n<=sizeLine:=W7 (small h)
def Hg{α:Type}{a:L α}{j:M'}{v:α}(e:z=(j:J'))(h:a[j]? =O v):oE a z=O v:=by
 rw[e];exact aG h
def gm{A B:Prop}(h:c=T')(a:A):if c=T' then A else B:=by rw[KF h];exact a
def bT{A B:Prop}(h:c=F')(b:B):if c=T' then A else B:=by rw[GM (by rw[h];exact Om)];exact b
theorem iK(a:0<=z)(b:z<(n:J')):∃i:M',z=(i:J')/\i<n:=⟨z.toNat,aB,aB⟩
end S2
namespace L2
open PySem PySem.Spec PyProof.Rows
inductive IG(K:B0)(H:Hp):M'->V->V->Tq->Prop
 |flat {n:M'} {x y:V} (fx:iq x=T') (fy:iq y=T'):IG K H n x y (tq x y)
 |same {n:M'} {a:B4}:IG K H n (.ref a) (.ref a) T'
 |lst {n:M'} {a b:B4} {xs ys:L V} (ne:a≠b) (hA:bu K H a xs) (hB:bu K H b ys) (hl:xs.length=ys.length) (e:M'->Tq)
   (he:∀(j:M')(x y:V),xs[j]? =O x->ys[j]? =O y->IG K H n x y (e j)):IG K H (n+1) (.ref a) (.ref b) ((Tg xs.length).all e)
 |tup {n:M'} {a b:B4} {xs ys:L V} (ne:a≠b) (hA:bq K H a xs) (hB:bq K H b ys) (hl:xs.length=ys.length) (e:M'->Tq)
   (he:∀(j:M')(x y:V),xs[j]? =O x->ys[j]? =O y->IG K H n x y (e j)):IG K H (n+1) (.ref a) (.ref b) ((Tg xs.length).all e)
variable{H:Hp}{X:Cx}{n:M'}{s:FM}{us:L B5}{N ps:L Z}{sc:Vj}{K:B0}{P:To}{B':T9}{f:B4}{fd:Ud}{mg:Z->O' B5}{sp:Sp}{w:TV}{x:Z}
theorem iI{a:L V}(r:Vals a us)(j:M')(c:j<us.toArray.size):∃x,a[j]? =O x/\RelV x us.toArray[j]:=by
 have f:=r.length;rw[B8]at c
 have g1:j<a.length:=by lia
 obtain⟨w1,b,d⟩:=r.get (i:=j) (x:=a[j]) (by simp[g1])
 have e:us.toArray[j]=w1:=by
  rw[B2 c]at b;simpa using b
 exact⟨a[j],by simp[g1],by rw[e];exact d⟩
theorem Hs{P:L (B4×Obj)}{σ:St}(I:Inv X P σ H s){x y:V}{b:Tq}(h:IG X.K H n x y b):
  ∀{A:UU}{u v:B5},A.units+n<Uy->RelV x u->RelV y v->YV A s u v b:=by
 induction h with
 |flat S R=>intro A u v _ d c;exact zv d c S R
 | @same n a=>
  intro A u v _ d c;obtain rfl:u=Kf a:=d;obtain rfl:v=Kf a:=c;exact SeqAt.EqAt.same _
 | @lst n a b D J o w z Q e N t=>
  intro A u v T d c;obtain rfl:u=Kf a:=d;obtain rfl:v=Kf b:=c;obtain⟨g,r,C,W⟩:=I.list w;obtain⟨f,l,i,q⟩:=I.list z;have E:=r.length;have F:=l.length
  have k:=SeqAt.RcAt.lists (A:=A) (s:=s) (e:=e) C.isList i.isList (by rw[B8,B8];lia) aB (λj B p=>by
   obtain⟨x,ex,d⟩:=iI r j B;obtain⟨y,m,c⟩:=iI l j p
   exact t j x y ex m (show A.units+1+n<Uy by lia) d c)
  rw[B8,<-E]at k;exact aaV o k
 | @tup n a b D J o w z Q e N t=>
  intro A u v T d c;obtain rfl:u=Kf a:=d;obtain rfl:v=Kf b:=c;obtain⟨g,r,C,W⟩:=I.tuple w;obtain⟨f,l,i,q⟩:=I.tuple z;have E:=r.length;have F:=l.length
  have k:=SeqAt.RcAt.tuples (A:=A) (s:=s) (e:=e) C i aB (λj B p=>by
   obtain⟨x,ex,d⟩:=iI r j B;obtain⟨y,m,c⟩:=iI l j p
   exact t j x y ex m (show A.units+1+n<Uy by lia) d c)
  have M:min g.toArray.size f.toArray.size=D.length:=by rw[B8,B8];lia
  have G:(g.toArray.size==f.toArray.size)=T':=by rw[B8,B8];exact beq_iff_eq.mpr aB
  rw[M,G,Bool.and_true]at k;exact aaV o k
def yk(K:B0)(f:Tq):R2:=λx y H Q=>∃(a b:B4)(c d:L V)(e:M'->Tq),x= .ref a/\y= .ref b/\((bu K H a c/\bu K H b d)\/(bq K H a c/\bq K H b d))/\c.length=d.length/\
 (∀(j:M')(x y:V),c[j]? =O x->d[j]? =O y->IG K H 8 x y (e j))/\Q (.bl (if f then !((Tg c.length).all e)else(Tg c.length).all e)) H
theorem h_(R:X.A.units+20<Uy):je X (compareOp .NotEq) (yk X.K T'):=by
 intro N s σ H x y v u Q I i g h;obtain⟨a,b,F,M,e,o,m,G,P,C,q⟩:=h;subst o m;obtain rfl:v=Kf a:=i;obtain rfl:u=Kf b:=g
 rcases G with⟨t,w⟩|⟨t,w⟩
 ·obtain⟨d,r,B,J⟩:=I.list t;obtain⟨c,k,f,p⟩:=I.list w;have D:=r.length;have E:=k.length;refine XW (e:=e) B.isList f.isList (by rw[B8,B8];lia) aB (λj z n=>?_) _ _ _ _ ⟨.bl _,H,I,U,?_⟩
  ·obtain⟨x,ex,i⟩:=iI r j z;obtain⟨y,l,g⟩:=iI k j n;exact Hs I (C j x y ex l) (show X.A.units+1+8<Uy by lia) i g
  ·rw[B8,<-D];exact q
 ·obtain⟨d,r,B,J⟩:=I.tuple t;obtain⟨c,k,f,p⟩:=I.tuple w;have D:=r.length;have E:=k.length;refine aaE (e:=e) B f aB (λj z n=>?_) _ _ _ _ ⟨.bl _,H,I,U,?_⟩
  ·obtain⟨x,ex,i⟩:=iI r j z;obtain⟨y,l,g⟩:=iI k j n;exact Hs I (C j x y ex l) (show X.A.units+1+8<Uy by lia) i g
  ·have o:min d.toArray.size c.toArray.size=F.length:=by rw[B8,B8];lia
   have m:(d.toArray.size==c.toArray.size)=T':=by rw[B8,B8];exact beq_iff_eq.mpr aB
   rw[o,m,Bool.and_true];exact q
structure Cq(K:B0)(mg:Z->O' B5)(fd:Ud)(f:B4)(ps:L Z)(x:Z):Prop where
 b:Binds K fd ps []
 m:mg x=O (.ref f)
 k:Td K (.ref f)=T'
abbrev Nv(K:B0)(x:Z)(v:B5):Prop:=SI K SC x=O (O v)
def RN(h:us.length=0):us=[]:=S0 h
def Ob(h:us.length=n+1):∃a b,us=a::b/\b.length=n:=by
 cases us with
 |nil=>cases h
 |cons a b=>exact⟨a,b,U,Z1 h⟩
def Sh(h:us.length=1):∃a,us=[a]:=by
 obtain⟨a,b,rfl,g⟩:=Ob h;exact⟨a,by rw[RN g]⟩
def QE(h:us.length=2):∃a b,us=[a,b]:=by
 obtain⟨a,c,rfl,g⟩:=Ob h;obtain⟨b,rfl⟩:=Sh g;exact⟨a,b,U⟩
def Rx(h:us.length=3):∃a c b,us=[a,c,b]:=by
 obtain⟨a,d,rfl,g⟩:=Ob h;obtain⟨c,b,rfl⟩:=QE g;exact⟨a,c,b,U⟩
def Sd(h:us.length=4):∃a d c b,us=[a,d,c,b]:=by
 obtain⟨a,e,rfl,g⟩:=Ob h;obtain⟨d,c,b,rfl⟩:=Rx g;exact⟨a,d,c,b,U⟩
def Sb(h:us.length=5):∃a d e b c,us=[a,d,e,b,c]:=by
 obtain⟨a,f,rfl,g⟩:=Ob h;obtain⟨d,e,b,c,rfl⟩:=Sd g;exact⟨a,d,e,b,c,U⟩
def dH{P:L Z}(a:sc.kind= .function:=by rfl)(b:sc.isCoroutine=F':=by rfl)(c:sc.isGenerator=F':=by rfl)(d:N.Nodup:=by decide +kernel)(e:N.take P.length=P:=by rfl)(f:∀x∈P,sc.names.lookup x=O .local\/sc.names.lookup x=O .cell:=by decide +kernel)(g:∀y∈sc.names,y.2≠ .free:=by decide +kernel):ay N P sc:=⟨a,b,c,d,e,f,g⟩
def c_.fb{d:Z}{c:SX}{k:M'}(F:c_ K x d c f fd)(S:ay N ps (aj c))(a:∀(g:B5)(A:UU)(i:L Env)(s:FM)(H:Hp)(b:L V)(Q:VK)(E:XK),gk k (A.deeper (envOfC d (aj c) s.heap.objs.size f g))->sp b H Q E->
   ∃t,si (aT dz P w K mg B' N d (aj c) f g A i s H E).Mh (fE c) t/\t {nx:=λ_ j=>Q .non j,rt:=Q} (start N b) H)(len:∀b H Q E,sp b H Q E->b.length=ps.length:=by intro b H Q E h;first|(cases h;subst_vars;rfl)|(repeat' first|(obtain⟨e,_⟩:=h;rw[e];rfl)|(obtain⟨_,h⟩:=h))):aS P w K mg B' dz (k+1) f fd ps sp:=F.ok S len a
def cA{c:IE}{b:B5}{A:UU}{a:L Env}{E:XK}:(aT c P w K mg B' N x sc f b A a s H E).Mh.K=K:=rfl
def Cl(P:To)(w:TV)(K:B0)(mg:Z->O' B5)(B':T9)(k:M')(sp:Sp)(x:Z):Prop:=∃f fd ps,aS P w K mg B' dz k f fd ps sp/\Cq K mg fd f ps x
def eR{k:M'}(h:aS P w K mg B' dz k f fd ps sp)(c:Cq K mg fd f ps x):Cl P w K mg B' k sp x:=⟨f,fd,ps,h,c⟩
theorem pq{k j:M'}{p d:Pos}{e:Expr}{a:L Expr}{t:TA}(c:Cl X.prog X.w X.K X.mg X.base k sp x)(o:gk j X.A)(q:PA X (e::a) t)(i:k<=j:=by lia)(l:Gl X x:=by rfl)(h:(x==("__debug__":Z))=F':=by decide)(n:P3 (e::a) X.env=(F',eval e X.env)::P3 a X.env:=by rfl)(g:(UJ d (P3 a X.env)).any (·.1)=F':=by rfl):
  PE X (.Call (.Name x p) (e::a) [] d) (eS sp [] E0 t):=by
 obtain⟨f,fd,ps,F,c⟩:=c;exact A7 F (o.mono i) l c.m c.k c.b .nil LJ q h n g
end L2
namespace L2
open PySem
abbrev Za:L Z:=["thing"]
abbrev Zb:L Z:=["box"]
abbrev Zc:L Z:=["what","many"]
noncomputable abbrev Zd:L Z:=["wish","columns","gap","align","side","joint","text"]
abbrev Ze:L Z:=["row","column","wrap"]
abbrev Zf:L Z:=["_law_stream_here"]
abbrev Zg:L Z:=["_law_kind","_law_what_here"]
abbrev Zh:L Z:=["thing","depth","in_table","names"]
abbrev Zi:L Z:=["span","float","at"]
abbrev Zj:L Z:=["thing","many"]
abbrev Zk:L Z:=["_law_script"]
abbrev Zl:L Z:=["self","name"]
abbrev Zm:L Z:=["_law_stream_here","_law_many"]
noncomputable abbrev Zn:L Z:=["self","depth","kind","name","told"]
noncomputable abbrev Zo:L Z:=["wish","columns","gap","align","side","joint","span","float","at","text"]
abbrev Zp:L Z:=["things","sign"]
abbrev Zr:L Z:=["left","right"]
noncomputable abbrev Zs:L Z:=["_law_stream_here","_law_names_here","_law_deep","_law_tabled"]
end L2
namespace L2
open PySem
def XD(h:T9)(e:B4)(b:O' B4):Prop:=∃o,h.get? e=O o/\o.dict=b/\(b≠Y->∀a,o.data= .fields a->a[2]? =O .none)
variable{e C:B4}{h:T9}{od:O' B4}{A:UU}{E:B5->FM->Prop}{M:abg}{s:FM}{oF:Obj}{prog:To}{vs:L B5}{w:TV}
def XD.push(d:XD h e od)(o:Obj):XD (h.push o) e od:=by
 obtain⟨u,b,a⟩:=d;exact⟨u,B7 _ b,a⟩
abbrev Rp(f:Obj->Obj):Prop:=∀o vs,(f o).data= .fields vs->∃a,o.data= .fields a/\vs[2]? =a[2]?
def XD.upd(d:XD h e od)(b:B4){f:Obj->Obj}(f1:∀o,(f o).dict=o.dict)(f2:∀o,o.isFreed=F'->(f o).isFreed=F')(j:Rp f):XD (h.update b f) e od:=by
 obtain⟨u,a,g,c⟩:=d;by_cases q:b=e
 ·subst q;refine⟨f u,Tj f a (f2 u (Heap.get?_some_iff.mp a).2),(f1 u).trans g,λz vs e=>?_⟩;obtain⟨i,l,k⟩:=j u vs e;rw[k];exact c z i l
 ·exact⟨u,by rw[Th _ _ q];exact a,g,c⟩
def K0{i:M'}(x:B5)(h:i≠2):Rp (U3 (·.setIfInBounds i x)):=λo vs e=>by
 obtain⟨c,d,a,b⟩:=o
 cases a<;>first|cases e|skip
 exact⟨_,U,Array.getElem?_setIfInBounds_ne h⟩
def Dl(g:Us B5->Us B5)(o:Obj)(h:o.isFreed=F'):(o.mapFields g).isFreed=F':=by
 obtain⟨c,d,a,b⟩:=o
 cases a<;>first|rfl|exact h
def FI(g:Us B5->Us B5)(o:Obj):(o.mapFields g).dict=o.dict:=by
 obtain⟨c,d,a,b⟩:=o
 cases a<;>rfl
def cH(o:Obj)(a:Us (O' B5))(h:o.isFreed=F'):({o with slots:=a}:Obj).isFreed=F':=by
 obtain⟨c,d,b,s⟩:=o
 cases b<;>first|rfl|exact h
structure bK{α:Type}(t:Sem α):Prop where
 out:∀(M:abg)(Γ:Ctx)(P:α->Pos->FM->Prop)(Ee:B5->Pos->FM->Prop)(p:Pos)(s:FM)(e:B4)(od:O' B4),XD s.heap e od->Sem.wp M Γ t P Ee p s->Sem.wp M Γ t (λa p' s'=>P a p' s'/\XD s'.heap e od) Ee p s
namespace bK
variable{α β:Type}
def pure(a:α):bK (Pure.pure a:Sem α):=⟨λ_ _ _ _ _ _ _ _ d h=>⟨h,d⟩⟩
def EN(w:UP):bK (PySem.unsupported w:Sem α):=⟨λ_ _ _ _ _ _ _ _ _ h=>h⟩
def bind{m:Sem α}{f:α->Sem β}(i:bK m)(k:∀a,bK (f a)):bK (m >>= f):=⟨λM Γ P b p s e od d h=>by
 rw[Sem.wp_bind']at h⊢
 exact Sem.wp_mono M Γ m (λa j g c=>(k a).out M Γ P b j g e od c.2 c.1) (λ_ _ _ x=>x) p s (i.out M Γ _ b p s e od d h)⟩
def ite{c:Prop}[SL c]{t u:Sem α}(a:bK t)(b:bK u):bK (if c then t else u):=by split<;>assumption
def load(a:B4):bK (PySem.load a):=⟨λM Γ P c p s e od d h=>by
 unfold PySem.load at h⊢;rw[Sem.wp_load]at h⊢;obtain⟨o,b,h⟩:=h
 exact⟨o,b,by rw[Sem.wp_pure]at h⊢;exact⟨h,d⟩⟩⟩
def update(a:B4)(f:Obj->Obj)(f1:∀o,(f o).dict=o.dict)(f2:∀o,o.isFreed=F'->(f o).isFreed=F')(b:Rp f):bK (PySem.update a f):=⟨λM Γ P c p s e od d h=>by
 rw[Sem.wp_cmd_update]at h⊢
 exact⟨h.1,h.2,d.upd a f1 f2 b⟩⟩
def stack:bK PySem.stack:=⟨λM Γ P a p s e od d h=>by
 unfold PySem.stack at h⊢;rw[Sem.wp_stack]at h⊢;rw[Sem.wp_pure]at h⊢
 exact⟨h,d⟩⟩
def alloc(o:Obj):bK (PySem.alloc o):=⟨λM Γ P a p s e od d h=>by
 rw[Sem.wp_cmd_alloc]at h⊢
 exact⟨h,d.push o⟩⟩
def field(v:B5)(i:M'):bK (PySem.field v i):=⟨λM Γ P j p s e od d h=>by
 rw[wp_field_iff]at h⊢;obtain⟨a,o,vs,x,f,c,b,g,h⟩:=h
 exact⟨a,o,vs,x,f,c,b,g,h,d⟩⟩
def setField(v:B5)(i:M')(x:B5)(j:i≠2):bK (PySem.setField v i x):=⟨λM Γ P k p s e od d h=>by
 rw[wp_setField_iff]at h⊢;obtain⟨a,o,vs,f,c,b,g,h⟩:=h
 exact⟨a,o,vs,f,c,b,g,h,d.upd a (FI _) (Dl _) (K0 x j)⟩⟩
end bK
def An(a:Env)(b:L Env):bK (behindIsImport a b):=by
 unfold behindIsImport
 (repeat' with_reducible first
  |assumption
  |exact bK.pure _
  |exact bK.EN _
  |exact bK.field _ _
  |exact bK.setField _ _ _ (by decide)
  |exact bK.load _
  |exact bK.stack
  |exact bK.alloc _
  |exact bK.update _ _ (λ_=>rfl) (λo h=>cH o _ h) (λo vs e=>⟨vs,e,rfl⟩)
  |apply bK.ite
  |apply bK.bind
  |intro _
  |split)
def Ef:bK aaq:=by
 unfold aaq
 (repeat' with_reducible first
  |assumption
  |exact bK.pure _
  |exact bK.EN _
  |exact bK.field _ _
  |exact bK.setField _ _ _ (by decide)
  |exact bK.load _
  |exact bK.stack
  |exact bK.alloc _
  |exact bK.update _ _ (λ_=>rfl) (λo h=>cH o _ h) (λo vs e=>⟨vs,e,rfl⟩)
  |apply bK.ite
  |apply bK.bind
  |intro _
  |split)
def FZ(a:Env)(i:Tq)(l:L Env):bK (keptBack a i l):=by
 have :=Ef
 cases l<;>unfold keptBack<;>(repeat' with_reducible first
  |assumption
  |exact bK.pure _
  |exact bK.EN _
  |exact bK.field _ _
  |exact bK.setField _ _ _ (by decide)
  |exact bK.load _
  |exact bK.stack
  |exact bK.alloc _
  |exact bK.update _ _ (λ_=>rfl) (λo h=>cH o _ h) (λo vs e=>⟨vs,e,rfl⟩)
  |apply bK.ite
  |apply bK.bind
  |intro _
  |split)
theorem tY:∀l:L Env,bK (readyFrames l)
 |[]=>bK.pure _
 |env::a=>by
  have c:=tY a;have d:=An env a;have b:=λi=>FZ env i a;unfold readyFrames
  (repeat' with_reducible first
  |assumption
  |exact bK.pure _
  |exact bK.EN _
  |exact bK.field _ _
  |exact bK.setField _ _ _ (by decide)
  |exact bK.load _
  |exact bK.stack
  |exact bK.alloc _
  |exact bK.update _ _ (λ_=>rfl) (λo h=>cH o _ h) (λo vs e=>⟨vs,e,rfl⟩)
  |apply bK.ite
  |apply bK.bind
  |intro _
  |split)
  all_goals first|exact b _|skip
def Dp(l:L Env):bK (frameObject l):=by
 cases l with
 |nil=>exact bK.pure _
 |cons a b=>
  have :=tY (a::b);unfold frameObject
  (repeat' with_reducible first
  |assumption
  |exact bK.pure _
  |exact bK.EN _
  |exact bK.field _ _
  |exact bK.setField _ _ _ (by decide)
  |exact bK.load _
  |exact bK.stack
  |exact bK.alloc _
  |exact bK.update _ _ (λ_=>rfl) (λo h=>cH o _ h) (λo vs e=>⟨vs,e,rfl⟩)
  |apply bK.ite
  |apply bK.bind
  |intro _
  |split)
def ye(a:Env):bK (frameOf a):=by
 have c:bK frameEnvs:=by unfold frameEnvs;(repeat' with_reducible first
  |assumption
  |exact bK.pure _
  |exact bK.EN _
  |exact bK.field _ _
  |exact bK.setField _ _ _ (by decide)
  |exact bK.load _
  |exact bK.stack
  |exact bK.alloc _
  |exact bK.update _ _ (λ_=>rfl) (λo h=>cH o _ h) (λo vs e=>⟨vs,e,rfl⟩)
  |apply bK.ite
  |apply bK.bind
  |intro _
  |split)
 have b:=Dp;unfold frameOf
 (repeat' with_reducible first
  |assumption
  |exact bK.pure _
  |exact bK.EN _
  |exact bK.field _ _
  |exact bK.setField _ _ _ (by decide)
  |exact bK.load _
  |exact bK.stack
  |exact bK.alloc _
  |exact bK.update _ _ (λ_=>rfl) (λo h=>cH o _ h) (λo vs e=>⟨vs,e,rfl⟩)
  |apply bK.ite
  |apply bK.bind
  |intro _
  |split)
 all_goals first|exact b _|skip
def DQ(f:B4)(b:Tq):bK (entryPlaceOf f b):=by
 unfold entryPlaceOf
 (repeat' with_reducible first
  |assumption
  |exact bK.pure _
  |exact bK.EN _
  |exact bK.field _ _
  |exact bK.setField _ _ _ (by decide)
  |exact bK.load _
  |exact bK.stack
  |exact bK.alloc _
  |exact bK.update _ _ (λ_=>rfl) (λo h=>cH o _ h) (λo vs e=>⟨vs,e,rfl⟩)
  |apply bK.ite
  |apply bK.bind
  |intro _
  |split)
def so(n:UP)(l:L B5):bK (newFields n l):=by
 unfold newFields newObj newObjAsIs
 (repeat' with_reducible first
  |assumption
  |exact bK.pure _
  |exact bK.EN _
  |exact bK.field _ _
  |exact bK.setField _ _ _ (by decide)
  |exact bK.load _
  |exact bK.stack
  |exact bK.alloc _
  |exact bK.update _ _ (λ_=>rfl) (λo h=>cH o _ h) (λo vs e=>⟨vs,e,rfl⟩)
  |apply bK.ite
  |apply bK.bind
  |intro _
  |split)
def Ey(a b c d f:B5)(l:L B5):bK (EntryCells.newEntry a b c d f l):=so _ _
def mW(e:B5)(a:Env):bK (noteFrame e a):=by
 have d:=ye a;have c:=DQ;have b:=Ey;unfold noteFrame
 (repeat' with_reducible first
  |assumption
  |exact bK.pure _
  |exact bK.EN _
  |exact bK.field _ _
  |exact bK.setField _ _ _ (by decide)
  |exact bK.load _
  |exact bK.stack
  |exact bK.alloc _
  |exact bK.update _ _ (λ_=>rfl) (λo h=>cH o _ h) (λo vs e=>⟨vs,e,rfl⟩)
  |apply bK.ite
  |apply bK.bind
  |intro _
  |split)
 all_goals first|exact c _ _|exact b _ _ _ _ _ _|skip
def gD(e:B5)(f:O' B4):bK (setFlight e f):=by
 unfold setFlight
 (repeat' with_reducible first
  |assumption
  |exact bK.pure _
  |exact bK.EN _
  |exact bK.field _ _
  |exact bK.setField _ _ _ (by decide)
  |exact bK.load _
  |exact bK.stack
  |exact bK.alloc _
  |exact bK.update _ _ (λ_=>rfl) (λo h=>cH o _ h) (λo vs e=>⟨vs,e,rfl⟩)
  |apply bK.ite
  |apply bK.bind
  |intro _
  |split)
def gL(a:Env)(e:B5):bK (leaving a e):=by
 have c:=mW e a;have b:=gD e Y;unfold leaving
 (repeat' with_reducible first
  |assumption
  |exact bK.pure _
  |exact bK.EN _
  |exact bK.field _ _
  |exact bK.setField _ _ _ (by decide)
  |exact bK.load _
  |exact bK.stack
  |exact bK.alloc _
  |exact bK.update _ _ (λ_=>rfl) (λo h=>cH o _ h) (λo vs e=>⟨vs,e,rfl⟩)
  |apply bK.ite
  |apply bK.bind
  |intro _
  |split)
def iV{α:Type}{t:Sem α}{Q:α->FM->Prop}(k:bK t)(d:XD s.heap e od)(h:Ki M A t Q E s):
  Ki M A t (λa c=>Q a c/\XD c.heap e od) E s:=λΓ p b=>k.out M Γ _ _ p s e od d (h Γ p b)
noncomputable abbrev dG(C t:B4)(od:O' B4):Obj:={cls:= .ref C,dict:=od,data:= .fields #[.ref t,.none,.none,.none,.bool F',.none]}
noncomputable abbrev iO(vs:L B5):Obj:={cls:= .type "tuple",data:= .seq vs.toArray}
section
variable{g:Us GenState}{d:Drawn}{t:M'}{os:OsState}
variable{nm q:Z}{N f:B4}{bs bm bmB:L B5}{hdct:Tq}{sn:L Z}{sub:L B5}{ab:Tq}{col:O' Tq}{dd:O' B4}{k0 k1 k2 k3 k5:O' B5}{B Bn newId nid initId inN:UP}{bmN:L B5}{mN:Z->O' B5}
def Ks{a:B5}{Q:B5×L B5->FM->Prop}(d:s.heap.get? f=O oF)(b:oF.cls= .type "function")(c:Q (.ref f,[a]) s):Ki M A (bindSpecial (.ref f) a) Q E s:=by
 unfold bindSpecial;refine B1 (wpAny_typeOf ⟨_,d,b⟩ ?_);exact aao (by kernel_rfl) c
def Dc(k:Yk Bn newId inN bmN)(c:bmB.contains (.type Bn)=T')(F:Yk B nid initId bmB)(T:abd h bmB bm){Q:Fin->FM->Prop}(a:h.get? C=O (Wx nm q C N bs bm hdct sn sub ab col dd k0 k1 k2 k3 k5 newId))(x:h.Ns N mN)(u:mN "__init__"=O (.ref f))(y:h.get? f=O oF)(j:oF.cls= .type "function")(D:UV (Pp prog w) A (.call (.ref f) ⟨.ref (h.objs.size+1)::vs,[]⟩) (λr i=>match r with
   | .ok (.ret v)=>v= .none/\Q (.done (.ret (.ref (h.objs.size+1)))) i
   | .ok _=>False
   | .error e=>E e i) ⟨(h.push (iO vs)).push (dG C h.objs.size Y),g,d,t,os⟩)(p:vs.length<=sizeLine):
  Ki (Pp prog w) A (Builtin.«type.__call__» ⟨.ref C::vs,[]⟩) Q E ⟨h,g,d,t,os⟩:=by
 repeat (first|with_reducible refine UB a ?_|with_reducible refine wpAny_madeBy_exc a ?_|wp_step)
 refine codeAny_call_builtin_code (aa6 _ k.quiet) (wpAny_check_new_subU k c T a ?_);refine codeAny_exc_new_subU k c F T a ?_ p;show Ki _ _ _ _ _ _;have kp:∀b o,h.get? b=O o->((h.push (iO vs)).push (dG C h.objs.size Y)).get? b=O o:=λb o e=>B7 _ (B7 _ e);have l:=kp _ _ a;have n1:=x.keeps kp;have f1:=kp _ _ y
 have m:((h.push (iO vs)).push (dG C h.objs.size Y)).get? (h.objs.size+1)=O (dG C h.objs.size Y):=by heap_get
 have s:(Kf C::bm).contains (.ref C)=T':=by simp
 have n:=T.keeps kp;unfold aaP
 repeat (first|with_reducible refine UB m ?_|(with_reducible refine XH l ?_;rw[s])|wp_step)
 show Ki _ _ (XU (.ref C) _) _ _ _;refine wpAny_typeLookup_tail l n1 n F.mroIs F.init.lookup ?_;rw[u];refine Uh (B1 (Ks f1 j ?_));refine B1 (W2 (VR D λr i z=>?_))
 rcases r with e|(v|_|_|_)<;>first|exact z|exact z.elim|skip
 obtain⟨rfl,z⟩:=z;exact GE (GE z)
def FE(k:Yk Bn newId inN bmN)(i:bmB.contains (.type Bn)=T')(F:Yk B nid initId bmB)(T:abd h bmB bm){Q:B5->FM->Prop}(a:h.get? C=O (Wx nm q C N bs bm hdct sn sub ab col dd k0 k1 k2 k3 k5 newId))(l:h.Ns N mN)(j:mN "__init__"=O (.ref f))(n:h.get? f=O oF)(c:oF.cls= .type "function")(m:UV (Pp prog w) (A.under (.builtin "type.__call__" ⟨.ref C::vs,[]⟩)) (.call (.ref f) ⟨.ref (h.objs.size+1)::vs,[]⟩) (λr b=>match r with
   | .ok (.ret v)=>v= .none/\Q (.ref (h.objs.size+1)) b
   | .ok _=>False
   | .error e=>E e b) ⟨(h.push (iO vs)).push (dG C h.objs.size Y),g,d,t,os⟩)(o:vs.length<=sizeLine):
  Ki (Pp prog w) A (call (.ref C) vs) Q E ⟨h,g,d,t,os⟩:=by
 have f1:=tc_lookup;have f2:=tc_bind (.ref C);have ty:(⟨h,g,d,t,os⟩:FM).TypeIs (.ref C) "type":=⟨_,a,U⟩;refine W2 (codeAny_of_tree ?_);show Ki _ _ (callAny (.ref C) _) _ _ _
 repeat (any_goals (first|assumption|with_reducible refine UB a ?_|wp_step))
 refine⟨U,codeAny_call_builtin_at (aa6 _ (by decide +kernel)) entry_typeCall (wpAny_check_type_call_sub a (Dc k i F T a l j n c (VR m λr b z=>?_) o))⟩
 rcases r with e|(v|_|_|_)<;>exact z
def uo{a:Env}{x:Expr}{b:Pos}{Q:Flow->FM->Prop}(c:bm.contains (.type "BaseException")=T')(k:A.handled=Y)(h:Ki M A (eval x a) (λv f=>∃e t od,v= .ref e/\f.heap.get? C=O (Wx nm q C N bs bm hdct sn sub ab col dd k0 k1 k2 k3 k5 newId)/\f.heap.get? e=O (dG C t od)/\E (.ref e) f) E s):
  Ki M A (exec (.Raise (O x) Y b) a) Q E s:=by
 have l:(Kf C::bm).contains (.type "BaseException")=T':=by rw[aa3,c,Bool.or_true]
 show Ki M A (do XB b;ZG a (O (do let v<-eval x a;XB b;pure v)) Y) Q E s;refine B1 (UM ?_);unfold ZG;dsimp only;refine B1 (B1 (SW h (λv f n=>B1 (UM (GE ?_))) λ_ _ z=>z));obtain⟨e,t,od,rfl,i,m,j⟩:=n;obtain⟨o,g,d,p,os⟩:=f
 repeat (first|with_reducible refine UB m ?_|with_reducible refine UB i ?_|(with_reducible refine XH i ?_;rw[l])|wp_step)
 exact wpAny_raiseNew_none k j
end
open PySem.W PyProof.Rows Builtin Builtin.ObjectAttr
def uT:L B5->L B5
 | .ref _::r=>uT r
 |l=>l
theorem rK(a:B5)(b:Z):∀l:L B5,aaO a b l=aaO a b (uT l)
 |[]=>rfl
 |v::r=>by
  cases v with
  |ref c=>rw[refuseLoop_ref];exact rK a b r
  |_=>rfl
noncomputable def Bz(l:L B5):Tq:=uT l==[.type "ValueError",.type "Exception",.type "BaseException",.type "object"]
def HQ(a:B5){l:L B5}(e:Bz l=T'):aaO a "__setattr__" l=pure ():=by
 rw[rK,beq_iff_eq.mp e];exact PySem.F.store_ValueError.passes a
noncomputable def ky(K:Frag)(C:B4):Tq:=(clsIn K C).any λa=>Bz a.mro&&a.hasDict&& !a.mro.isEmpty&&a.mro.contains (.type "object")
variable{K:Frag}{name:Z}{ox:Obj}{v:B5}{x:B4}
section
variable{R:YW->FM->Prop}
def KI{od:O' Obj}{c:Tok}(X:K.In s.heap)(I:InstAt s.heap x ox C od)(k:ky K C=T')(p:findIn K (.ref C) name=O Y)(h:Ki (Pp prog w) A.in1 (storeInOwnDict (.ref x) (.ref C) (.str name c) name v F') (λg b=>match g with| .done f=>R (.ok f) b| .again j=>j.quiet=T'/\UV (Pp prog w) A j R b) (λe b=>R (.error e) b) s):
  UV (Pp prog w) A (.call (.builtin "object.__setattr__") ⟨[.ref x,.str name c,v],[]⟩) R s:=by
 have a:=PySem.F.store_object;obtain⟨m,i,d⟩:=any_some k;simp only[Tw,WE]at d;obtain⟨⟨⟨d,q⟩,l⟩,o⟩:=d;have sub:Looks (Pp prog w) s.heap (aaP (.ref x) (.type "object")) T':=I.type.andThen (Yu X (by unfold mroIn;rw[i,Uw,GM (by rw[l];decide),o]));refine aat a.slot.plain a.entry (@check_slot (Pp prog w) _ _ s "object.__setattr__" "object" "__setattr__" (.ref x) [.str name c,v] [] _ a.kind a.split sub (a.args (.ref x) (.str name c) v) ?_);have n:Looks (Pp prog w) s.heap (mroOf (.ref C)) m.mro:=(looks_clsIn X i).andThen .now;rw[osa_eq,refuse_eq];refine B1 (B1 (I.type.here (B1 (n.here ?_))));rw[HQ _ d];refine GE (B1 (I.type.here (B1 ((looks_findIn X p).here (B1 (GE ?_))))));exact h
theorem Kr{t:B4}{Q:aav->FM->Prop}(X:K.In s.heap)(f:s.heap.get? x=O (dG C t Y))(l:ky K C=T')(z:findIn K (.ref C) name=O Y)(p:findIn K (.ref C) "__setattr__"=O (O (.builtin "object.__setattr__")))(h:∀a J,a.get? x=O (dG C t (O s.heap.objs.size))->a.Ns1 s.heap.objs.size (λy=>if y=name then O v else Y)->(∀b o,b≠x->s.heap.get? b=O o->a.get? b=O o)->Q () {s with heap:=a,toks:=J}):
  Ki (Pp prog w) A (setAttr (.ref x) name v) Q E s:=by
 have I:InstAt s.heap x (dG C t Y) C Y:=⟨f,U,U,T8⟩;refine set_plain X I p (KI (s:={s with toks:=s.toks+1}) X I l z ?_);obtain⟨S,r,k⟩:=any_some l;simp only[Tw,WE]at k;obtain⟨⟨⟨k,H⟩,N⟩,R⟩:=k;refine B1 (GE (B1 (B1 (Xm f (B1 (Looks.here (s:={s with toks:=s.toks+1}) (looks_clsIn X r) ?_))))));rw[H,GM (by decide)];show Ki _ _ (if(!T'|| !typeHasDict (Kf C))=T' then _ else _) _ _ _;rw[GM (by simp[typeHasDict])];show Ki _ _ (alloc {cls:= .type "dict",data:= .dict #[]} >>=λd=>update x (λo=>{cls:=o.cls,dict:=O d,data:=o.data,slots:=o.slots}) >>=λ_=>dictMade (Kf C) x d) _ _ _;have c:x≠s.heap.objs.size:=Sy (Gc f);have n:(s.heap.push {cls:= .type "dict",data:= .dict #[]}).get? x=O (dG C t Y):=B7 _ f;refine B1 (wpAny_alloc (B1 (wpAny_update n (GE ?_))))
 have D:((s.heap.push {cls:= .type "dict",data:= .dict #[]}).update x λo=>{cls:=o.cls,dict:=O s.heap.objs.size,data:=o.data,slots:=o.slots}).get? s.heap.objs.size=O {cls:= .type "dict",data:= .dict #[]}:=
  (aaK _ _ _ _ c.symm).trans (Heap.get?_push_at U U)
 have G:((s.heap.push {cls:= .type "dict",data:= .dict #[]}).update x λo=>{cls:=o.cls,dict:=O s.heap.objs.size,data:=o.data,slots:=o.slots}).Ns s.heap.objs.size (λ_=>Y):=
  ⟨_,#[],_,D,U,λe u=>KB u (by simp),λ_=>U⟩
 have F:((s.heap.push {cls:= .type "dict",data:= .dict #[]}).update x λo=>{cls:=o.cls,dict:=O s.heap.objs.size,data:=o.data,slots:=o.slots}).get? x=O (dG C t (O s.heap.objs.size)):=Tj _ n U;show Ki _ _ (storeInDict s.heap.objs.size (.str name s.toks) name v) _ _ _;unfold storeInDict newKeyGuard;refine B1 (GE (B1 (wpAny_nsSet1 (abj G) λa n1 m=>?_)));obtain⟨P,q,B,j,g,i⟩:=n1.count (Within.cons name v Within.nil);refine B1 (abm j (by rw[g];exact abq (Tf i (by rw[Da,Vd,U6];lia))) ?_);refine GE (h a _ ((m.2 x c).trans F) n1 λb o M e=>?_);exact(m.2 b (Sy (Gc e))).trans ((aaK _ _ _ _ M).trans (B7 _ e))
end
section
variable{od:O' Obj}{Q:O' B5->FM->Prop}
def IM(X:K.In s.heap)(I:InstAt s.heap x ox C od)(a:findIn K (.ref C) "__getattribute__"=O (O (.builtin "BaseException.__getattribute__")))(fq:findIn K (.ref C) "__getattr__"=O Y)(m:mroIn K C (.type "BaseException")=O T')(f:mroIn K C (.type "object")=O T')(l:findObj K C od "__class__"=O (.bind (.builtin "getset_descriptor.__get__") (.builtin "object.__class__")))(h:Q (O (.ref C)) {s with toks:=s.toks+1}):Ki (Pp prog w) A (getAttr? (.ref x) "__class__") Q E s:=by
 obtain⟨c,g,d,t,i⟩:=s;have b:=I.type (M:=Pp prog w);have k:=looks_findIn (M:=Pp prog w) X a;have j:=looks_findIn (M:=Pp prog w) X fq;have L3:=looks_find (M:=Pp prog w) X I l;have sub:Looks (Pp prog w) c (aaP (.ref x) (.type "BaseException")) T':=b.andThen (Yu X m)
 have e:(onTheHeap (Kf C)&&XN "BaseException.__getattribute__"==XN "object.__getattribute__")=F':=by
  rw[show(XN "BaseException.__getattribute__"==XN "object.__getattribute__")=F' by decide +kernel,Y9]
 unfold getAttr? getAttrBy? getAttrBy;refine B1 (wpAny_mkText (B1 (Zt (Uh (B1 (b.at (B1 (k.at ?_))))))));dsimp only;rw[e];show Ki _ _ (getAttrByItsOwn _ _ _ _ _ _) _ _ _;unfold getAttrByItsOwn hookBefore;refine B1 ?_;show Ki _ _ (XU (.ref C) "__getattr__") _ _ _;refine j.at ?_;refine B1 (Zt (Uh ?_));show Ki _ _ (boundAndCalled _ _ _) _ _ _;unfold boundAndCalled;rw[PySem.F.attr_ValueError.ga.bind];refine B1 (GE (W2 ?_));refine aat PySem.F.attr_ValueError.ga.plain PySem.F.entry_bexc_ga (@check_slot (Pp prog w) _ _ _ "BaseException.__getattribute__" "BaseException" "__getattribute__" (.ref x) [.str "__class__" t] [] _ (by decide +kernel) (by decide +kernel) sub (PySem.F.args_bexc_ga (.ref x) (.str "__class__" t)) ?_);unfold Builtin.«object.__getattribute__»;refine B1 (GE (B1 (GE (B1 (b.at (B1 (L3.at ?_)))))));show Ki _ _ (bindTo _ _ _ _) _ _ _;unfold bindTo;dsimp only;refine B1 (Uh (W2 (class_get (s:=⟨c,g,d,t+1,i⟩) X I f ?_)));refine GE ?_;show Ki _ _ (handedOut (.ref C)) _ _ _;rw[handedOut_of U];exact GE (GE h)
end
section
variable{D:B4}{oe:Obj}{b:Tq}{Q:Tq->FM->Prop}
def tT{l:ClassData}(X:K.In s.heap)(o:s.heap.get? e=O oe)(n:oe.cls= .ref C)(a:clsIn K D=O l)(v:instIn K (.ref D) (.type "tuple")=O F')(j:mroIn K D (.type "BaseException")=O T')(h:mroIn K C (.ref D)=O b)(q:Q b s):
  Ki M A (excMatches (.ref e) (.ref D)) Q E s:=by
 obtain⟨c,g,d,t,y⟩:=s;have u:=looks_instIn (M:=M) X v
 have p:Looks M c (isType (.ref D)) T':=by
  unfold clsIn at a
  split at a
  ·rename_i r
   intro B x z w k m;unfold isType loadHead;exact B1 (Xm (k _ _ (X _ _ r)) (GE m))
  ·cases a
 have L3:=Yu (M:=M) X j;have i:Looks M c (typeOf (.ref e)) (.ref C):=n▸(Looks.ld o).andThen .now;have f:=Yu (M:=M) X h;unfold excMatches;refine B1 (u.at ?_);simp only[US,Wp];refine B1 (GE ?_);rw[Xf];unfold isExcClass;refine B1 (B1 (B1 (B1 (p.at ?_))));simp only[Ww];refine L3.at ?_;simp only[Bool.not_true,US,Wp];refine GE ?_;dsimp only;rw[Y5];refine GE (B1 (i.at ?_));rw[Xf];refine B1 (B1 (B1 (f.at ?_)))
 cases b with
 |true=>
  simp only[Ww];exact GE (GE (GE q))
 |false=>
  simp only[US,Wp];refine GE ?_;dsimp only;rw[Y5];exact GE (GE q)
end
end L2
namespace L2
open PySem PySem.Spec PyProof.Rows
variable{H H' H1 H2:Hp}{P:To}{a f b C it:B4}{h B h2 hs B' h':T9}{o:HO}{w:TV}{U':L Env}{A:UU}{E:XK}{K:B0}{N ps N':L Z}{cd cls:B5}{mg m:Z->O' B5}{od:O' B4}{A':L (B4×Obj)}{V' x y:Z}{s s1 s2:FM}{S':Vj}{σ:St}{X:Cx}{fd:Ud}{sp:Sp}{st:SX}{e elt iter tg:Expr}{es ifs:L Expr}{p pos py spos px:Pos}{cl:L (Z×B4)}{fp:L B4}{env:Env}{xe:B5->FM->Prop}{J:It}{Q:VK}{RR:B5->B4->YW->FM->Prop}{g:TG}{te:TE}{tn:M'->T9->Prop}{tt:TT}{wi:TI}{i kk:M'}
def cM.ex(x:cM P w H h a o):∃u,h.get? a=O u:=by
 cases o with
 |lst b=>obtain⟨_,_,_,_,e⟩:=x;exact⟨_,e⟩
 |tup b=>obtain⟨_,_,_,o,e,_⟩:=x;exact⟨_,e⟩
 |dK c=>obtain⟨_,_,_,_,o,_,_,e,_⟩:=x;exact⟨_,e⟩
 |dT c=>obtain⟨_,_,_,_,o,_,_,e,_⟩:=x;exact⟨_,e⟩
 |set S n=>obtain⟨o,_,_,_,e,_⟩:=x;exact⟨_,e⟩
 |ins C d fs=>obtain⟨_,_,_,e,_⟩:=x;exact⟨_,e⟩
 |own y=>obtain⟨_,e⟩:=x;exact⟨_,e⟩
 |xd fs=>obtain⟨_,⟨_,_,_,e,_⟩,_⟩:=x;exact⟨_,e⟩
 |rng g i=>obtain⟨_,_,_,e⟩:=x;exact⟨_,e⟩
 |frz j u=>obtain⟨e,_⟩:=x;exact⟨_,e⟩
 |tbl ps=>exact⟨_,(show h.get? a=O _ from x)⟩
 |met f y=>exact⟨_,(show h.get? a=O _ from x)⟩
 |ext φ=>obtain⟨_,⟨_,e⟩,_⟩:=x;exact⟨_,e⟩
def cu(P:To)(w:TV):IE:=λU' H s E e c=>∃(a t:B4)(cls:B5)(od:O' B4)(B:T9)(H':Hp),e= .ref a/\c.os=s.os/\WH c.gens/\Un (fz U') [] H H' s.heap c.heap/\jE P w H' c.heap/\
 TU B U' a cls (.ref t) c.heap/\XD c.heap a od/\H' a=Y/\(∀b o,H' b=O o->∀d,c.heap.get? b=O d->B.get? b=O d)/\(∀b d,s.heap.get? b=O d->b∉fz U'->∃f,B.get? b=O f/\(H b=Y->f=d))/\E cls od H'
def vl(u:Un (fz U') [] H H' h hs)(k:hs.FunFrames B U')(d:∀b p,h.get? b=O p->b∉fz U'->∃a,B.get? b=O a/\(H b=Y->a=p))(l:B.StaysIn h2)(m:hs.UpToSlots h2):Un (fz U') [] H H' h h2 where
 keep:=λb o q n c _=>by
  obtain⟨a,e,z⟩:=d b o q c;rw[<-z n];exact l b a e
 slot:=λb o q n c r=>by
  obtain⟨t,e⟩:=u.slot b o q n c r;obtain⟨_,s,g,j⟩:=k.mem c;rw[e]at g
  cases g
  obtain⟨f,i⟩:=m b _ e j;exact⟨f,i⟩
 free:=u.free
 there:=λb o q r=>by
  by_cases c:b∈fz U'
  ·obtain⟨_,s,g,j⟩:=k.mem c;obtain⟨f,i⟩:=m b _ g j;exact⟨_,i⟩
  ·obtain⟨a,e,_⟩:=d b o q c;exact⟨a,l b a e⟩
 tups:=u.tups
 frzs:=u.frzs
 tbls:=u.tbls
def kE(ok:jE P w H' hs)(f:∀b o,H' b=O o->∀d,hs.get? b=O d->B.get? b=O d)(c:B.StaysIn h2):jE P w H' h2:=λa o e=>
 (ok a o e).oQ (λb u g q=>by
  rcases g with z|z
  ·subst z;exact c _ _ (f _ _ e u q)
  ·exact c _ _ (f _ _ z u q)) (λ_ q=>q) λ_ _ q=>q
def ni(ok:jE P w H' hs)(f:∀b o,H' b=O o->∀a,hs.get? b=O a->B.get? b=O a)(c:B.StaysIn h2):∀b o,H' b=O o->∀a,h2.get? b=O a->B.get? b=O a:=λb o e a q=>by
 obtain⟨u,d⟩:=(ok b o e).ex;have z:=f b o e u d;rw[c b u z]at q
 cases q
 exact z
def vb{t:B4}{g2:Us GenState}{i:Drawn}{j:M'}(J:Inv (aT (cu P w) P w K mg B' N V' S' f cd A U' s H E) A' σ H' ⟨h2,g2,i,j,s.os⟩)(fl:TU B U' a cls (.ref t) h2)(xd:XD h2 a od)(C:H' a=Y)(u:∀b o,H' b=O o->∀c,h2.get? b=O c->B.get? b=O c)(I:Inv (aT (cu P w) P w K mg B' N V' S' f cd A U' s H E) A' σ H1 s1)(x:∀b c,s1.heap.get? b=O c->b∉fz (aT (cu P w) P w K mg B' N V' S' f cd A U' s H E).stack->∃g,B.get? b=O g/\(H1 b=Y->g=c))(q:E cls od H'):
  cu P w U' H s E (.ref a) ⟨h2,g2,i,j,s.os⟩:=by
 refine⟨a,t,cls,od,B,H',U,U,J.bare,J.base,J.hok,fl,xd,C,u,λb c e l=>?_,q⟩
 have h:b≠(aT (cu P w) P w K mg B' N V' S' f cd A U' s H E).env.locals:=λz=>by
  have n:=Gc e;have h2:=I.ok.above;rw[z]at n;exact TR _ (SA n h2)
 have EO:b∉fz (aT (cu P w) P w K mg B' N V' S' f cd A U' s H E).stack:=λz=>by
  rcases PP.mp (I.kc b z)with y|y
  ·exact h y
  ·exact l y
 obtain⟨v,d⟩:=I.base.there b c e (by simp[aT]);obtain⟨g,r,p⟩:=x b v d EO;refine⟨g,r,λm=>?_⟩;have k:=I.base.keep b c e m l (by simp[aT]);rw[d]at k
 cases k
 exact p (I.base.free b c e m (by simp[aT]))
def cN{r:XK}(l:∀c o H',r c o H'->E c o H'):Passes (cu P w) (aT (cu P w) P w K mg B' N V' S' f cd A U' s H E) r:=by
 intro A' σ H1 s1 e s' I h;obtain⟨a,t,cls,od,B,H',rfl,os,i,un,k,fl,xd,G,n,p,q⟩:=h
 have go:Ki (Pp P w) (A.deeper (envOfC V' S' s.heap.objs.size f cd)) (leaving (envOfC V' S' s.heap.objs.size f cd) (.ref a))
   (λ_ g=>∃h2,g={s' with heap:=h2}/\TU B U' a cls (.ref t) h2/\s'.heap.UpToSlots h2) (λ_ _=>False) s':=
  wpAny_leaves_onW (env:=envOfC V' S' s.heap.objs.size f cd) (outer:=U') I.ok.frames U fl λh2 f2 F=>⟨h2,U,f2,F⟩
 refine SW (iV (gL _ _) xd go) (λ_ g hs=>?_) λ_ _ z=>z.elim;obtain⟨⟨h2,v,d,QE⟩,m⟩:=hs;subst v;obtain⟨C,x,u,y,j⟩:=s';have J:=I.mj (s':=⟨h2,x,u,y,j⟩) (ch:=[]) os (vl un fl.2.2.1 p d.1 QE) (kE k n d.1) i (λb z=>KB z (by simp));have D:j=s.os:=J.os;subst D;exact vb J d m G (ni k n d.1) I p (l _ _ _ q)
def HM{S:L B5}(I:Inv (aT (cu P w) P w K mg B' N V' S' f cd A U' s H E) A' σ H1 s1)(m:Heap.MadeExcOf s1.heap h2 a cls S)(q:E cls Y H1):
  (aT (cu P w) P w K mg B' N V' S' f cd A U' s H E).xe (.ref a) {s1 with heap:=h2}:=by
 have M:=I.stack;have n:∀env∈(aT (cu P w) P w K mg B' N V' S' f cd A U' s H E).stack,∀b,env.frame=O b->b∈fz (aT (cu P w) P w K mg B' N V' S' f cd A U' s H E).stack:=λenv G b B=>WO.mpr ⟨env,G,B⟩;have l:=W5 (as:=fz (aT (cu P w) P w K mg B' N V' S' f cd A U' s H E).stack) M n;have st:Z8 (SS s1.heap (fz (aT (cu P w) P w K mg B' N V' S' f cd A U' s H E).stack)) s1.heap:=λb o q=>U8 _ q
 have V:H1 a=Y:=by
  cases e:H1 a with
  |none=>rfl
  |some o=>
   obtain⟨u,x⟩:=(I.hok a o e).ex;rw[m.new]at x
   cases x
 have xd:XD h2 a Y:=by
  obtain⟨t,e,_⟩:=m.there;exact⟨_,e,U,λz=>KB U z⟩
 have go:Ki (Pp P w) (A.deeper (envOfC V' S' s.heap.objs.size f cd)) (leaving (envOfC V' S' s.heap.objs.size f cd) (.ref a))
   (λ_ i=>∃g t,i={s1 with heap:=g}/\TU (SS s1.heap (fz (aT (cu P w) P w K mg B' N V' S' f cd A U' s H E).stack)) U' a cls (.ref t) g/\h2.UpToSlots g) (λ_ _=>False) {s1 with heap:=h2}:=
  wpAny_leaves_madeW (s:={s1 with heap:=h2}) (env:=envOfC V' S' s.heap.objs.size f cd) (outer:=U') I.ok.frames U st l m λg t C _ _ X=>⟨g,t,U,C,X⟩
 refine SW (iV (s:={s1 with heap:=h2}) (gL _ _) xd go) (λ_ i hs=>?_) λ_ _ z=>z.elim;obtain⟨⟨g,t,y,d,Rx⟩,p⟩:=hs;subst y;obtain⟨c,g1,T,t1,k⟩:=s1;have j:∀b h,c.get? b=O h->b∉fz (aT (cu P w) P w K mg B' N V' S' f cd A U' s H E).stack->∃v,(SS c (fz (aT (cu P w) P w K mg B' N V' S' f cd A U' s H E).stack)).get? b=O v/\(H1 b=Y->v=h):=λb h e nb=>⟨h,T6 _ e nb,λ_=>U⟩;have un:Un (fz (aT (cu P w) P w K mg B' N V' S' f cd A U' s H E).stack) [] H1 H1 c c:=Un.refl;have D:Heap.UpToSlots c g:=λb o e F=>Rx b o (m.keeps b o e) F
 have r:∀b o,H1 b=O o->∀h,c.get? b=O h->(SS c (fz (aT (cu P w) P w K mg B' N V' S' f cd A U' s H E).stack)).get? b=O h:=λb o e h Q=>T6 _ Q λz=>by
  rw[I.kF b z]at e
  cases e
 have J:=I.mj (s':=⟨g,g1,T,t1,k⟩) (ch:=[]) U (vl un l j d.1 D) (kE I.hok r d.1) I.bare (λb z=>KB z (by simp));have R:k=s.os:=J.os;subst R;exact vb J d p V (ni I.hok r d.1) I j q
noncomputable def xo(C a:B4)(od:O' B4):HO:= .ext λh=>∃t,h.get? a=O (dG C t od)
def del(H:Hp)(a:B4):Hp:=λb=>if b=a then Y else H b
def mH:del H a a=Y:=by unfold del;rw[KF U]
def jw(h:b≠a):del H a b=H b:=by unfold del;rw[GM h]
def LR{t:B4}(e:h.get? a=O (dG C t od)):cM P w H h a (xo C a od):=⟨⟨t,e⟩,⟨_,e⟩,λd h2 ⟨c,b⟩ k=>⟨c,k _ b⟩⟩
def Aa(ok:jE P w H h)(e:H a=O (xo C a od)):∃t,h.get? a=O (dG C t od):=(show cM P w H h a (xo C a od)from ok a _ e).1
def Inv.drop{φ:T9->Prop}(I:Inv X A' σ H s)(t:X.s₀.heap.objs.size<=a)(r:H a=O (.ext φ)):Inv X A' σ (del H a) s:=by
 have d:∀{b:B4}{o:HO},H b=O o->(∀ψ,o≠ .ext ψ)->b≠a:=λ{b o} e n z=>by
  rw[z,r]at e;exact n φ (SV e).symm
 have non:∀{b:B4},H b=Y->del H a b=Y:=λ{b} e=>by
  by_cases z:b=a
  ·rw[z];exact mH
  ·rw[jw z];exact e
 refine⟨I.ok,I.os,I.bare,⟨I.base.keep,I.base.slot,λb o q n f=>non (I.base.free b o q n f),I.base.there,λb g q=>?_,λb o u q=>?_,λb ps q=>?_⟩,I.loc,I.cell,non I.free,λx c e=>non (I.freeC x c e),λp h=>?_,λb o e=>?_,I.len⟩
 ·have z:=I.base.tups b g q;rw[jw (d z λψ e=>by cases e)];exact z
 ·have z:=I.base.frzs b o u q;rw[jw (d z λψ e=>by cases e)];exact z
 ·obtain⟨more,z⟩:=I.base.tbls b ps q;exact⟨more,by rw[jw (d z λψ e=>by cases e)];exact z⟩
 ·obtain⟨i,k,m,j,l⟩:=I.pin p h;exact⟨i,non k,m,j,l⟩
 ·have f:b≠a:=λz=>by rw[z,mH]at e;cases e
  rw[jw f]at e;refine(I.hok b o e).oQ (λc u _ q=>q) (λc q=>?_) λc g q=>?_
  ·rw[jw (d q λψ e=>by cases e)];exact q
  ·rw[jw (d q λψ e=>by cases e)];exact q
def Ft(I:Inv (aT (cu P w) P w K mg B' N V' S' f cd A U' s H E) A' σ H1 s1)(hs:s.heap.objs.size<=a)(h:H1 a=O (xo C a od))(q:E (.ref C) od (del H1 a)):
  (aT (cu P w) P w K mg B' N V' S' f cd A U' s H E).xe (.ref a) s1:=by
 obtain⟨t,et⟩:=Aa I.hok h;have G:=I.drop hs h
 have a2:a∉fz (aT (cu P w) P w K mg B' N V' S' f cd A U' s H E).stack:=λz=>by
  rw[I.kF a z]at h
  cases h
 have Q:=I.stack;have V:∀env∈(aT (cu P w) P w K mg B' N V' S' f cd A U' s H E).stack,∀b,env.frame=O b->b∈a::fz (aT (cu P w) P w K mg B' N V' S' f cd A U' s H E).stack:=λenv he b d=>Fk _ (WO.mpr ⟨env,he,d⟩);have S:=W5 (as:=a::fz (aT (cu P w) P w K mg B' N V' S' f cd A U' s H E).stack) Q V;have st:Z8 (SS s1.heap (a::fz (aT (cu P w) P w K mg B' N V' S' f cd A U' s H E).stack)) s1.heap:=λb o q=>U8 _ q;have r:(SS s1.heap (a::fz (aT (cu P w) P w K mg B' N V' S' f cd A U' s H E).stack)).get? a=Y:=Xt _ De;have xd:XD s1.heap a od:=⟨_,et,U,λ_ vs z=>by cases z;rfl⟩
 have go:Ki (Pp P w) (A.deeper (envOfC V' S' s.heap.objs.size f cd)) (leaving (envOfC V' S' s.heap.objs.size f cd) (.ref a))
   (λ_ l=>∃i,l={s1 with heap:=i}/\Heap.LeftW (SS s1.heap (a::fz (aT (cu P w) P w K mg B' N V' S' f cd A U' s H E).stack)) (envOfC V' S' s.heap.objs.size f cd::U') a (.ref C) (.ref t) s1.heap i) (λ_ _=>False) s1:=
  aap (env:=envOfC V' S' s.heap.objs.size f cd) (outer:=U') (a0:= .ref t) I.ok.frames S U et st r U U U λi L3=>⟨i,U,L3⟩
 refine SW (iV (gL _ _) xd go) (λ_ l hs=>?_) λ_ _ z=>z.elim;obtain⟨⟨i,e3,⟨u,⟨_,_,k2⟩,k3,k4⟩⟩,R⟩:=hs;subst e3;obtain⟨g,g1,d1,t1,v⟩:=s1
 have un:Un (fz (aT (cu P w) P w K mg B' N V' S' f cd A U' s H E).stack) [a] (del H1 a) (del H1 a) g i:=by
  refine⟨λb o e n d F=>u b o (T6 _ e λz=>?_),λb o e n d F=>?_,λ_ _ _ n _=>n,λb o e F=>?_,λ_ _ e=>e,λ_ _ _ e=>e,λ_ ps e=>⟨#[],by rw[e];simp⟩⟩
  ·rcases PP.mp z with y|y
   ·exact F (by rw[y];exact Dk.mpr U)
   ·exact d y
  ·obtain⟨_,m,M,T⟩:=Q.mem d;rw[e]at M
   cases M
   exact k4 b o e T
  ·by_cases d:b∈fz (aT (cu P w) P w K mg B' N V' S' f cd A U' s H E).stack
   ·obtain⟨_,m,M,T⟩:=Q.mem d;obtain⟨sl,e2⟩:=k4 b m M T;exact⟨_,e2⟩
   ·exact⟨o,u b o (T6 _ e λz=>by
     rcases PP.mp z with y|y
     ·exact F (by rw[y];exact Dk.mpr U)
     ·exact d y)⟩
 have c1:∀b o,del H1 a b=O o->∀j,g.get? b=O j->(SS g (a::fz (aT (cu P w) P w K mg B' N V' S' f cd A U' s H E).stack)).get? b=O j:=λb o e j eb=>by
  have d:b≠a:=λz=>by rw[z,mH]at e;cases e
  rw[jw d]at e;refine T6 _ eb λz=>?_
  rcases PP.mp z with y|y
  ·exact d y
  ·rw[I.kF b y]at e
   cases e
 have J:=G.mj (s':=⟨i,g1,d1,t1,v⟩) (ch:=[a]) U un (kE G.hok c1 u) G.bare (λb z=>by
  rw[Dk.mp z];refine⟨.inr hs,λy=>?_,λx c e y=>?_,λp hp y=>?_⟩
  ·rw[y,I.free]at h
   cases h
  ·have :=I.freeC x c e;rw[y,h]at this
   cases this
  ·have :=(I.pin p hp).2.1;rw[y,h]at this
   cases this)
 have eo:v=s.os:=J.os;subst eo;refine⟨a,t,.ref C,od,_,del H1 a,U,U,J.bare,J.base,J.hok,⟨u,r,k2,k3⟩,R,mH,ni G.hok c1 u,λb j d hf=>?_,q⟩
 have a1:b≠(aT (cu P w) P w K mg B' N V' S' f cd A U' s H E).env.locals:=λz=>by
  have B:=Gc d;have h2:=I.ok.above;rw[z]at B;exact TR _ (SA B h2)
 have X:b≠a:=λz=>by
  have B:=Gc d;rw[z]at B;exact TR _ (SA B hs)
 have EO:b∉a::fz (aT (cu P w) P w K mg B' N V' S' f cd A U' s H E).stack:=λz=>by
  rcases PP.mp z with y|y
  ·exact X y
  ·rcases PP.mp (I.kc b y)with x|x
   ·exact a1 x
   ·exact hf x
 obtain⟨m,D⟩:=I.base.there b j d (by simp[aT]);refine⟨m,T6 _ D EO,λhn=>?_⟩;have k:=I.base.keep b j d hn hf (by simp[aT]);rw[show g.get? b=O m from D]at k;exact SV k
def c_.Rn{k:M'}(F:c_ K x V' st f fd)(S:ay N ps (aj st))(len:∀b H Q E,sp b H Q E->b.length=ps.length)(a:∀(c:B5)(A:UU)(U':L Env)(s:FM)(H:Hp)(b:L V)(Q:VK)(E:XK),gk k (A.deeper (envOfC V' (aj st) s.heap.objs.size f c))->sp b H Q E->
   ∃t,si (aT (cu P w) P w K mg B' N V' (aj st) f c A U' s H E) (fE st) t/\t {nx:=λ_ H'=>Q .non H',rt:=Q} (start N b) H):aS P w K mg B' (cu P w) (k+1) f fd ps sp:=by
 obtain⟨j,od,kV,g,l,n,c,m,h,rfl,lk,d⟩:=F.ex;exact Lu lk d S len λA U' s H b Q E i e=>a c A U' s H b Q E i e
abbrev gM:L B5:=[.type "ValueError",.type "Exception",.type "BaseException",.type "object"]
noncomputable def ownIn(K:B0)(C f:B4):Tq:=match K.lookup C with
 |some ⟨.type "type",_,.cls cd,a⟩=>(match cd.mro,a.toList with
  | .ref c::b,[_,_,_,_,O (.builtin n),_]=>c==C&&n=="ValueError.__new__"&& !cd.hasDel&&PySem.W.tailIn K gM b&&PySem.W.nsOkIn K cd.ns&&SI K cd.ns "__init__"==O (O (.ref f))
  |_,_=>F')
 |_=>F'
def ub(X:K.In h)(q:T4 K C gM "ValueError.__new__"=T'):∃e i p o bs s t sub m b dd f g k2 j k w,h.get? C=O (Wx p o C i bs e s t sub m b dd f g k2 j k "ValueError.__new__")/\h.Ns i w/\w "__init__"=Y/\abd h gM e:=by
 unfold T4 at q
 split at q
 ·rename_i dd cd u z
  split at q
  ·rename_i B e f g k2 j n k v hs
   simp only[Tw,W3,WE]at q;obtain⟨⟨⟨⟨⟨rfl,rfl⟩,a⟩,x⟩,c⟩,d⟩:=q;obtain⟨p,bs,y,i,o,s,t,sub,m,b,A⟩:=cd;dsimp only at v a c d;subst v a
   have r:u=#[f,g,k2,j,O (.builtin "ValueError.__new__"),k]:=by
    obtain⟨l⟩:=u;simp only at hs;rw[hs]
   subst r;exact⟨e,i,p,o,bs,s,t,sub,m,b,dd,f,g,k2,j,k,_,X _ _ z,.of_isNs (aaZ X c),PySem.W.nsMap_none_of_in X c d,aaY X x⟩
  ·cases q
 ·cases q
structure kr(h:T9)(C f:B4):Prop where
 out:∃bm ns nm qn bs hd sn sub ab col dd k0 k1 k2 k3 k5,h.get? C=O (Wx nm qn C ns bs bm hd sn sub ab col dd k0 k1 k2 k3 k5 "ValueError.__new__")/\abd h gM bm/\h.Ns ns (h.nsMap ns)/\h.nsMap ns "__init__"=O (.ref f)
def Kb{N:B4}{n:Z}{v:B5}(X:K.In h)(G:h.Ns N m)(e:SI K N n=O (O v)):m n=O v:=by
 obtain⟨o,es,l,f,a,_,i⟩:=G;unfold SI at e
 split at e
 ·rename_i c d g k j q
  have z:=X _ _ q;rw[f]at z
  cases z
  cases a
  split at e
  ·rename_i p b
   rw[<-i];unfold nsFind findBy;rw[<-aa7,b]
   cases e
   rfl
  ·split at e<;>cases e
 ·cases e
def Hj(X:K.In h)(q:ownIn K C f=T'):kr h C f:=by
 unfold ownIn at q
 split at q
 ·rename_i dd cd i A
  split at q
  ·rename_i D s k m k2 p n r j hs
   simp only[Tw,W3,WE]at q;obtain⟨⟨⟨⟨⟨rfl,rfl⟩,a⟩,t⟩,c⟩,b⟩:=q;obtain⟨u,bs,x,e,v,y,z,sub,w,d,B⟩:=cd;dsimp only at j a c b;subst j a
   have g:i=#[k,m,k2,p,O (.builtin "ValueError.__new__"),r]:=by
    obtain⟨l⟩:=i;simp only at hs;rw[hs]
   subst g;have o:h.Ns e (h.nsMap e):= .of_isNs (aaZ X c);exact⟨s,e,u,v,bs,y,z,sub,w,d,dd,k,m,k2,p,r,X _ _ A,aaY X t,o,Kb X o b⟩
  ·cases q
 ·cases q
def uN(P:To)(w:TV)(K:B0)(mg:Z->O' B5)(B':T9)(k:M')(sp:Sp)(x:Z):Prop:=∃f fd ps,aS P w K mg B' (cu P w) k f fd ps sp/\Cq K mg fd f ps x
def CD{k:M'}(h:aS P w K mg B' (cu P w) k f fd ps sp)(c:Cq K mg fd f ps x):uN P w K mg B' k sp x:=⟨f,fd,ps,h,c⟩
theorem oR{k j:M'}{t:TA}(c:uN X.prog X.w X.K X.mg X.base k sp x)(l:gk j X.A)(o:Passes (cu X.prog X.w) X E)(n:PA X (e::es) t)(g:k<=j:=by lia)(h:Gl X x:=by rfl)(d:(x==("__debug__":Z))=F':=by decide)(i:P3 (e::es) X.env=(F',eval e X.env)::P3 es X.env:=by rfl)(a:(UJ pos (P3 es X.env)).any (·.1)=F':=by rfl):
  PE X (.Call (.Name x p) (e::es) [] pos) (eS sp [] E t):=by
 obtain⟨f,fd,ps,F,c⟩:=c;exact A7 F (l.mono g) h c.m c.k c.b .nil o n d i a
def c_.rb{k:M'}(F:c_ K x V' st f fd)(S:ay N ps (aj st))(a:∀(c:B5)(A:UU)(U':L Env)(s:FM)(H:Hp)(b:L V)(Q:VK)(E:XK),gk k (A.deeper (envOfC V' (aj st) s.heap.objs.size f c))->sp b H Q E->
   ∃t,si (aT (cu P w) P w K mg B' N V' (aj st) f c A U' s H E) (fE st) t/\t {nx:=λ_ H'=>Q .non H',rt:=Q} (start N b) H)(len:∀b H Q E,sp b H Q E->b.length=ps.length:=by intro b H Q E h;first|(cases h;subst_vars;rfl)|(repeat' first|(obtain⟨e,_⟩:=h;rw[e];rfl)|(obtain⟨_,h⟩:=h))):aS P w K mg B' (cu P w) (k+1) f fd ps sp:=F.Rn S len a
noncomputable abbrev Cx.gg(X:Cx)(N':L Z)(S':Vj)(cl:L (Z×B4))(C:B4)(fp:L B4)(s:FM)(H:Hp):Cx:=
 {X with N:=N',s₀:=s,H₀:=H,env:=Xp S' cl C X.env,outer:=X.stack,ex:=fp,fn:=λ_=>F',pn:=[],xe:=λ_ _=>False}
structure gY(X:Cx)(k:M')(N':L Z)(S':Vj):Prop where
 kind:S'.kind= .function
 cell:∀y∈S'.names,y.2≠ .cell
 names:∀y∈S'.names,y.2= .local->S'.names.lookup y.1=O .local
 free:∀y∈S'.names,y.2= .free->X.env.kindOf y.1=O .cell\/X.env.kindOf y.1=O .free
 len:N'.length=k+X.N.length
 cap:∀i y,N'[k+i]? =O y->(X.N[i]? =O y/\xZ S' X.env y=T')\/S'.names.lookup y=Y
theorem EA{k:M'}{tk:M'}(S:gY X k N' S')(I:Inv X A' σ H s)(N:h'.Ns s.heap.objs.size m)(x:∀b o,s.heap.get? b=O o->h'.get? b=O o)(F:∀b∈fp,km X A' H b)(ho:∀b∈fp,∃o,s.heap.get? b=O o)(a:∀y c,cl.lookup y=O c->X.env.cells.lookup y=O c)(f:∀y∈S'.names,y.2= .free->∃c,cl.lookup y.1=O c):
  Inv (X.gg N' S' cl s.heap.objs.size fp s H) (X.pn++A') (TZ k Y++σ) H {s with heap:=h',toks:=tk}:=by
 refine⟨⟨I.ok.mod,S.kind,I.ok.glob,I.ok.blt,B9 _,λy z c h1 h2=>I.ok.inj y z c (a y c h1) (a z c h2),λy hy=>?_,λy c V=>KB V Om,I.ok.hd,I.ok.frames,.inl U,λb g=>⟨?_,λy c e=>(F b g).2.2.2.2.1 y c (a y c e)⟩,
  I.bs,Tf I.ok.bsz I.sz,λb o e g=>?_,λb g hs=>?_,I.stack,I.kF⟩,U,I.bare,Un.kept x,⟨m,N,λi y v e1 w e3=>?_⟩,λy c e=>?_,I.fresh,λy c e=>I.freeC y c (a y c e),λp hp=>?_,I.hok.kept x,?_⟩
 ·have R:∃k,(k=Zy\/k=UN)/\(YI S' X.env).names.lookup y=O k:=by
   rcases hy with z|z
   ·exact⟨_,.inl U,z⟩
   ·exact⟨_,.inr U,z⟩
  obtain⟨k,Q,e⟩:=R;obtain⟨E,h,r⟩:=rr e
  have kf:E= .free:=by
   rcases r with r|r
   ·subst r
    rcases Q with z|z
    ·subst z;exact KB U (S.cell _ (UG h))
    ·exact z
   ·exact r.1
  subst kf;exact f (y,.free) (yq h) U
 ·obtain⟨o,e⟩:=ho b g;exact Sy (Gc e)
 ·rcases(F b g).2.2.2.1 with z|z
  ·exact I.ok.noex b o e z
  ·exact KB (SA (Gc e) (Tf I.ok.bsz z)) (TR _)
 ·rcases PP.mp (I.kc b hs)with z|z
  ·exact(F b g).2.1 z
  ·exact(F b g).2.2.1 z
 ·have G:N'[i]? =O y:=e1;by_cases D:i<k
  ·rw[Sv (by simpa using D),ZM]at w;rw[KF D]at w
   cases w
  obtain⟨i,rfl⟩:∃d,i=k+d:=⟨i-k,aB⟩
  have M:σ[i]? =O (O v):=by
   rw[Re (by simp)]at w;simpa using w
  have B:∃k,(YI S' X.env).names.lookup y=O k:=by
   rcases e3 with z|z|z
   ·exact⟨_,z⟩
   ·exact⟨_,z⟩
   ·exact⟨_,z⟩
  obtain⟨k,T⟩:=B;obtain⟨E,h,r⟩:=rr T
  rcases S.cap i y G with⟨W,K⟩|z0
  case inr=>rw[z0]at h;cases h
  unfold xZ at K;rw[h]at K
  have kf:E= .free:=by cases E<;>simp_all
  subst kf
  have A:X.env.kindOf y=O .cell\/X.env.kindOf y=O .free:=by simpa using K
  obtain⟨m0,a0,J⟩:=I.loc;obtain⟨u,ru,l⟩:=J i y v W M (.inr A);refine⟨u,ru,.inr ?_⟩;obtain⟨c',C⟩:=f (y,.free) (yq h) U
  rcases l with⟨z,_⟩|⟨_,c,ec,⟨o,j,t⟩⟩
  ·rcases A with q|q<;>rw[z]at q<;>cases q
  ·have e4:=a y c' C;rw[ec]at e4;have e5:c=c':=SV e4;subst e5;refine⟨?_,c,C,o,x _ _ j,t⟩
   rcases r with r|r
   ·subst r;exact .inr T
   ·obtain⟨_,r⟩:=r;subst r;exact .inl T
 ·obtain⟨v,o,j,t⟩:=I.cell y c (a y c e);exact⟨v,o,x _ _ j,t⟩
 ·have P:p∈X.pn++A':=by simpa using hp
  obtain⟨e,n,ne,nf,d⟩:=I.pin p P;refine⟨x _ _ e,n,Sy (Gc e),λz=>?_,d⟩
  rcases PP.mp (I.kc p.1 z)with q|q
  ·exact ne q
  ·exact nf q
 ·show(TZ k Y++σ).length=N'.length;rw[S.len,B3,V5,I.len]
def gK(J:It)(H1:Hp)(k:M')(σ:St)(g:TG)(tt:TT)(te:TE)(Q:VK):Prop:=∀D,H1 D=Y->∃W:M'->M'->Hp->Prop,(∃m,W 0 m (upd H1 D (.lst [])))/\∀i m H,W i m H->
 (J.stop i H/\Q (.ref D) H)\/(J.go i H/\∀x H' ρ,ρ.length=k->J.yld i H x H'->g x (ρ++σ) H' λa H2=>(∃c:St,c.length=k/\a=c++σ)/\tt a H2 λb f=>if b=T' then te a f λy h=>∃e,h D=O (.lst e)/\e.length<sizeLine/\∃d,d<m/\W (i+1) d (upd h D (.lst (e++[y])))
  else∃d,d<m/\W (i+1) d f)
def M0(wi:TI)(k:M')(g:TG)(tt:TT)(te:TE):TE:=λσ H Q=>wi σ H λJ H1=>gK J H1 k σ g tt te Q
def sJ{a:To}{R:YW->FM->Prop}{b:Expr}{it i:B5}(J:M'->FM->Prop)(k:∀n s,J n s->Ki (Pp a w) A (pyNext it) (λr s1=>match r with
   |none=>R (.ok .next) s1
   |some v=>Ki (Pp a w) A (Xc b it v) (λ_ j=>Ki (Pp a w) A (assign b env v) (λ_ s2=>
     Ki (Pp a w) A (forIn ifs T' λc r=>if r=T' then do let ok<-isTrue c env (eval c env);pure (VI ok)else pure (VI r)) (λok l=>
      if ok=T' then Ki (Pp a w) A (eval elt env) (λx t=>
       Ki (Pp a w) A (call (.builtin "list.append") [i,x]) (λ_ u=>∃m,m<n/\J m u) (XE (Pp a w) A env λe g=>R (.error e) g) t) (XE (Pp a w) A env λe g=>R (.error e) g) l
      else∃m,m<n/\J m l) (XE (Pp a w) A env λe g=>R (.error e) g) s2) (XE (Pp a w) A env λe g=>R (.error e) g) j) (λ_ _=>False) s1) (λ_ _=>False) s)(n:M')(h:J n s):UV (Pp a w) A (.compLoop (.ListComp elt [⟨b,iter,ifs,0⟩] S' pos) 0 it i env) R s:=by
 have no:∀{E:B5->FM->Prop}(e:B5)(s:FM),(λ(_:B5) (_:FM)=>False) e s->E e s:=λ_ _ f=>f.elim;have d:∀{E:B5->FM->Prop}(e:B5)(s:FM),E e s->E e s:=λ_ _ f=>f;refine codeAny_loop U J (λn s B=>?_) n h;show Ki _ A ((compTurn (.ListComp elt [⟨b,iter,ifs,0⟩] S' pos) 0 it i env).onRaise _) _ _ s;refine wpAny_noted ?_;rw[compTurn_list];refine B1 (UM (B1 (SW (k n s B) (λr s1 q=>?_) no)))
 cases r with
 |none=>exact GE q
 |some v=>
  refine B1 (SW q (λ_ j o=>B1 (SW o (λ_ s2 h2=>B1 (SW h2 (λok l p=>?_) d)) d)) no)
  cases ok with
  |false=>exact GE ⟨U,p⟩
  |true=>exact B1 (B1 (SW p (λx t z=>B1 (SW z (λ_ u y=>GE (GE ⟨U,y⟩)) d)) d))
noncomputable abbrev Cx.fA(X:Cx)(xe:B5->FM->Prop)(N':L Z)(S':Vj)(cl:L (Z×B4))(C:B4)(fp:L B4)(s:FM)(H:Hp):Cx:={X.gg N' S' cl C fp s H with xe:=xe}
def Inv.QR(I:Inv X A' σ H s):Inv {X with xe:=xe} A' σ H s:=
 ⟨⟨I.ok.mod,I.ok.kind,I.ok.glob,I.ok.blt,I.ok.above,I.ok.inj,I.ok.has,I.ok.cab,I.ok.hd,I.ok.frames,I.ok.stk,I.ok.exf,I.ok.bs,I.ok.bsz,I.ok.noex,I.ok.exfs,I.ok.jK,I.ok.frf⟩,I.os,I.bare,I.base,I.loc,I.cell,I.free,I.freeC,I.pin,I.hok,I.len⟩
def Inv.RP(I:Inv {X with xe:=xe} A' σ H s):Inv X A' σ H s:=
 ⟨⟨I.ok.mod,I.ok.kind,I.ok.glob,I.ok.blt,I.ok.above,I.ok.inj,I.ok.has,I.ok.cab,I.ok.hd,I.ok.frames,I.ok.stk,I.ok.exf,I.ok.bs,I.ok.bsz,I.ok.noex,I.ok.exfs,I.ok.jK,I.ok.frf⟩,I.os,I.bare,I.base,I.loc,I.cell,I.free,I.freeC,I.pin,I.hok,I.len⟩
section
variable{k:M'}
def lF{E:B5->FM->Prop}{xe:B4->FM->Hp->B5->FM->Prop}(S:gY X k N' S')(F:X.calm=T')(a3:(∀y c,cl.lookup y=O c->X.env.cells.lookup y=O c)/\∀y∈S'.names,y.2= .free->∃c,cl.lookup y.1=O c)(hg:∀C s H,PG (X.fA (xe C s H) N' S' cl C fp s H) tg g)(ht:∀C s H,Ls (X.fA (xe C s H) N' S' cl C fp s H) ifs tt)(he:∀C s H,PE (X.fA (xe C s H) N' S' cl C fp s H) elt te)(I2:Inv X A' σ H2 s2)(T:Turn X.prog X.w X.K tg J fp it tn)(V:tn 0 s2.heap)(f2:∀b∈fp,km X A' H2 b)(q:gK J H2 k σ g tt te Q)(c0:∀D C j H' P,Inv X A' σ H' j->j.heap.Ns C P->km X A' H' C->Q (.ref D) H'->RR (.ref D) C (.ok .next) j)(b8:∀D C d H3 e j,Inv X A' σ H3 d->C=d.heap.objs.size->(∀b∈fp,km X A' H3 b)->xe C d H3 e j->XE (Pp X.prog X.w) X.A (Xp S' cl C X.env) (λe R=>RR (.ref D) C (.error e) R) e j):
  Ki (Pp X.prog X.w) X.A (newList []) (λa9 d=>Ki (Pp X.prog X.w) X.A (newFunctionEnv S' X.env.globals cl [] X.env.qual Y .none (O X.env)) (λI s4=>
   UV (Pp X.prog X.w) X.A (.compStart (.ListComp elt [⟨tg,iter,ifs,0⟩] S' pos) 0 (.ref it) a9 {I with scope:=YI S' X.env}) (RR a9 I.locals) s4) E d) E s2:=by
 obtain⟨a8,b2⟩:=a3;refine Wu (wpAny_newFunctionEnv S.cell (by intro y hy;simp at hy) (λh1 a0 a1=>?_) S.kind);have I3:Inv X A' σ (upd H2 s2.heap.objs.size (.lst [])) {s2 with heap:=s2.heap.push {cls:= .type "list",data:= .seq ([]:L B5).toArray}}:=I2.Ox (t':=s2.toks) .nil (by simp);have hD:H2 s2.heap.objs.size=Y:=I2.fresh;obtain⟨W,⟨m0,w0⟩,a5⟩:=q _ hD;generalize b1:({s2 with heap:=s2.heap.push {cls:= .type "list",data:= .seq ([]:L B5).toArray}}:FM)=d at I3;have d1:({s2 with heap:=s2.heap.push {cls:= .type "list",dict:=Y,data:= .seq ([]:L B5).toArray}}:FM)=d:=b1;dsimp only at a0 a1⊢;generalize c1:s2.heap.objs.size=D at *
 have eh:s2.heap.push {cls:= .type "list",dict:=Y,data:= .seq ([]:L B5).toArray}=d.heap:=by rw[<-b1]
 rw[eh]at a0 a1;have keep:∀b o,d.heap.get? b=O o->h1.get? b=O o:=λb o e=>a1.extBut b o (Sy (Gc e)) (B7 _ e)
 have objs:∀b∈fp,∃o,d.heap.get? b=O o:=λb f=>by
  obtain⟨o,e,_⟩:=T.obj _ _ V b f;rw[<-eh];exact⟨o,B7 _ e⟩
 have G:∀b∈fp,km X A' (upd H2 D (.lst [])) b:=λb f=>by
  obtain⟨o,e,_⟩:=T.obj _ _ V b f
  have ne:b≠D:=by rw[<-c1];exact Sy (Gc e)
  exact⟨by rw[ax ne];exact(f2 b f).1,(f2 b f).2⟩
 generalize c4:xe d.heap.objs.size d (upd H2 D (.lst []))=B;have I4:Inv (X.fA B N' S' cl d.heap.objs.size fp d (upd H2 D (.lst []))) (X.pn++A') (TZ k Y++σ) (upd H2 D (.lst [])) {d with heap:=h1,toks:=d.toks+([]:L (Z×B5)).length}:=(EA S I3 a0 keep G objs a8 b2).QR;have a6:tn 0 h1:=T.keep _ _ _ V λb f o e=>keep b o (by rw[<-eh];exact B7 _ e);have hg:=hg d.heap.objs.size d (upd H2 D (.lst []));have ht:=ht d.heap.objs.size d (upd H2 D (.lst []));have he:=he d.heap.objs.size d (upd H2 D (.lst []));have hX:=λe j=>b8 D d.heap.objs.size d (upd H2 D (.lst [])) e j I3 U G;rw[c4]at hg ht he hX
 have l:∀{H':Hp},(∀b∈fp,H' b=Y)->∀b∈fp,km (X.fA B N' S' cl d.heap.objs.size fp d (upd H2 D (.lst []))) (X.pn++A') H' b:=λhn b f=>by
  refine⟨hn b f,(I4.ok.exf b f).1,I4.ok.exfs b f,.inl f,(I4.ok.exf b f).2,λp hp=>(G b f).2.2.2.2.2 p (by simpa using hp)⟩
 have N:UV (Pp X.prog X.w) X.A (.compLoop (.ListComp elt [⟨tg,iter,ifs,0⟩] S' pos) 0 (.ref it) (.ref D) (Xp S' cl d.heap.objs.size X.env)) (RR (.ref D) d.heap.objs.size) {d with heap:=h1,toks:=d.toks+([]:L (Z×B5)).length}:=by
  refine sJ (λn j=>∃i ρ H',Inv (X.fA B N' S' cl d.heap.objs.size fp d (upd H2 D (.lst []))) (X.pn++A') (ρ++σ) H' j/\ρ.length=k/\tn i j.heap/\(∀b∈fp,H' b=Y)/\W i n H') ?_ m0
   ⟨0,_,_,I4,by simp,a6,λb f=>(G b f).1,w0⟩
  rintro n s5 ⟨i,ρ,H5,I5,b7,a4,b4,w5⟩
  rcases a5 i n H5 w5 with⟨b0,qn⟩|⟨go,step⟩
  ·refine cR (T.done (X.fA B N' S' cl d.heap.objs.size fp d (upd H2 D (.lst []))) U U U F i _ s5 _ H5 _ I5 (l b4) a4 b0) λr s6 ⟨hr,I6⟩=>?_;subst hr;obtain⟨m6,c6,_⟩:=I6.loc;have I7:Inv X A' σ H5 s6:=I3.mj (ch:=fp) I6.os I6.base I6.hok I6.bare λb f=>⟨(G b f).2.2.2.1,(G b f).2.1,(G b f).2.2.2.2.1,(G b f).2.2.2.2.2⟩;exact c0 D d.heap.objs.size s6 H5 m6 I7 c6 (I3.oS (B9 _) I6.free) qn
  ·refine cR (T.item (X.fA B N' S' cl d.heap.objs.size fp d (upd H2 D (.lst []))) U U U F i _ s5 _ H5 _ I5 (l b4) a4 go) λr s6 ⟨u,hr,h6⟩=>?_;subst hr;refine cR h6 λ_ s7 ⟨y,H7,I7,r7,y7,a2,b6⟩=>?_;have c5:=I7.pinned (l b6) (T.obj _ _ a2);have x:∀{α:Type}{t:Sem α}{Q1 Q2:α->FM->Prop}{s:FM},Ki (Pp X.prog X.w) X.A t Q1 B s->(∀a s,Q1 a s->Q2 a s)->Ki (Pp X.prog X.w) X.A t Q2 (XE (Pp X.prog X.w) X.A (Xp S' cl d.heap.objs.size X.env) λe R=>RR (.ref D) d.heap.objs.size (.error e) R) s:=λh hQ=>SW h hQ hX;refine x (hg _ s7 (ρ++σ) H7 y u _ c5 r7 (step y H7 ρ b7 y7)) λ_ s8 ⟨d2,H8,I8,⟨b3,l2,e8⟩,q8⟩=>?_;subst e8;refine x (ht _ s8 _ H8 _ I8 q8) λok s9 ⟨H9,I9,q9⟩=>?_
   have M:∀{H':Hp}{j:FM}{P:M'},Inv (X.fA B N' S' cl d.heap.objs.size fp d (upd H2 D (.lst []))) (X.pn++A'++qe fp s7.heap) (b3++σ) H' j->P<n->W (i+1) P H'->
     ∃m,m<n/\∃i ρ H',Inv (X.fA B N' S' cl d.heap.objs.size fp d (upd H2 D (.lst []))) (X.pn++A') (ρ++σ) H' j/\ρ.length=k/\tn i j.heap/\(∀b∈fp,H' b=Y)/\W i m H':=λ{H' j P} I' hm w'=>by
    have pin:∀b o,b∈fp->s7.heap.get? b=O o->j.heap.get? b=O o/\H' b=Y:=λb o f e=>by
     have z:=I'.pin (b,o) (TF _ (TF _ (lL f e)));exact⟨z.1,z.2.1⟩
    refine⟨P,hm,i+1,b3,H',I'.lS,l2,T.keep _ _ _ a2 λb f o e=>(pin b o f e).1,λb f=>?_,w'⟩;obtain⟨o',e,_⟩:=T.obj _ _ a2 b f;exact(pin b o' f e).2
   cases ok with
   |false=>
    rw[GM Om]at q9⊢;obtain⟨P,hm,w'⟩:=q9;exact M I9 hm w'
   |true=>
    rw[KF U]at q9⊢;refine x (he _ s9 _ H9 _ I9 q9) λv b5 ⟨z,a7,c9,c2,c3⟩=>?_;obtain⟨ys,d0,b9,P,hm,w'⟩:=c3;refine x (cC (X:=X.fA B N' S' cl d.heap.objs.size fp d (upd H2 D (.lst []))) _ b5 _ a7 (.ref D) [z] (.ref D) [v] (λ_ H'=>H'=upd a7 D (.lst (ys++[z]))) c9 U (.cons c2 .nil) ⟨D,ys,z,U,U,d0,b9,U⟩) λ_ d3 ⟨_,d4,c7,_,c8⟩=>?_;subst c8;exact M c7 hm w'
 exact codeAny_compStart_list N (T.self _ 0 _ _ _ a6 N)
end
section
variable{k:M'}
def pZ{E:B5->FM->Prop}(S:gY X k N' S')(f:X.calm=T')(d:(∀y c,cl.lookup y=O c->X.env.cells.lookup y=O c)/\∀y∈S'.names,y.2= .free->∃c,cl.lookup y.1=O c)(m:∀cl C fp s H,PG (X.gg N' S' cl C fp s H) tg g)(t:∀cl C fp s H,Ls (X.gg N' S' cl C fp s H) ifs tt)(p:∀cl C fp s H,PE (X.gg N' S' cl C fp s H) elt te)(n:Inv X A' σ H2 s2)(T:Turn X.prog X.w X.K tg J fp it tn)(h:tn 0 s2.heap)(f2:∀b∈fp,km X A' H2 b)(q:gK J H2 k σ g tt te Q)(j:∀D C i H' r,Inv X A' σ H' i->i.heap.Ns C r->km X A' H' C->Q (.ref D) H'->RR (.ref D) C (.ok .next) i):
  Ki (Pp X.prog X.w) X.A (newList []) (λe o=>Ki (Pp X.prog X.w) X.A (newFunctionEnv S' X.env.globals cl [] X.env.qual Y .none (O X.env)) (λa l=>
   UV (Pp X.prog X.w) X.A (.compStart (.ListComp elt [⟨tg,iter,ifs,0⟩] S' pos) 0 (.ref it) e {a with scope:=YI S' X.env}) (RR e a.locals) l) E o) E s2:=
 lF (xe:=λ_ _ _ _ _=>False) S f d (λC s H=>m cl C fp s H) (λC s H=>t cl C fp s H) (λC s H=>p cl C fp s H) n T h f2 q j λ_ _ _ _ _ _ _ _ _ z=>z.elim
def xY(j:It->Hp->St->VK->Prop)(E:∀J H σ Q,j J H σ Q->gK J H k σ g tt te Q)(S:gY X k N' S')(a:X.calm=T')(r:PI X tg iter wi)(G:∀cl C fp s H,PG (X.gg N' S' cl C fp s H) tg g)(z:∀cl C fp s H,Ls (X.gg N' S' cl C fp s H) ifs tt)(t:∀cl C fp s H,PE (X.gg N' S' cl C fp s H) elt te)(hs:∀x,UC iter X.env x=pure x:=by intro _;rfl):PE X (.ListComp elt [⟨tg,iter,ifs,0⟩] S' pos) (λσ H Q=>wi σ H λJ H1=>j J H1 σ Q):=by
 intro A' s σ H Q I h;obtain⟨cl,i,n⟩:=pR (env:=X.env) (S':=S') λy F v=>I.ok.has y.1 (S.free y F v);rw[eval_ListComp];refine VA (use:=Y) U hs i S.kind S.names (cR (r A' s σ H _ I h) λV s1 B=>cR B λp s2 h2=>?_);obtain⟨it,fp,tn,J,H2,e,M,T,f,f2,q⟩:=h2;subst e;refine pZ (RR:=λd C=>YS (Pp X.prog X.w) X.A X.xe Y (EP X A' σ Q) d C) S a n G z t M T f f2 (E _ _ _ _ q) ?_;intro D C l H' N K u c P;exact⟨N,u,λh' m=>⟨.ref D,H',K.turned (t':=l.toks) (λb o R e=>(m.2 b R).trans e) c.1 c.2.1 c.2.2.2.1 c.2.2.2.2.1 c.2.2.2.2.2,U,P⟩⟩
def xA(K:It->Hp->St->VK->Prop)(hR:∀J H σ Q,K J H σ Q->gK J H k σ g tt te Q)(S:gY X k N' S')(f:X.calm=T')(hN:X.N.Nodup)(F:X.N[i]? =O y)(u:Loc X.env.scope y)(hi:PI X tg iter wi)(hg:∀cl C fp s H,PG (X.gg N' S' cl C fp s H) tg g)(ht:∀cl C fp s H,Ls (X.gg N' S' cl C fp s H) ifs tt)(he:∀cl C fp s H,PE (X.gg N' S' cl C fp s H) elt te)(n:VP (.ListComp elt [⟨tg,iter,ifs,0⟩] S' pos) (O (.Name y py)) spos.line X.env=pure T')(hs:∀x,UC iter X.env x=pure x:=by intro _;rfl)(p:X.fn y=T'\/X.env.scope.names.lookup y=O .local:=by first|exact .inl U|exact .inr U|assumption):
  PS X (.Assign [.Name y py] (.ListComp elt [⟨tg,iter,ifs,0⟩] S' pos) spos) (lO (λσ H Q=>wi σ H λJ H1=>K J H1 σ Q) (eY i)):=by
 intro A' s σ H j I h;obtain⟨cl,B,V⟩:=pR (env:=X.env) (S':=S') λy u p=>I.ok.has y.1 (S.free y u p);rw[aad _ _ _ _ n];refine B1 (UM (B1 ?_));show Ki _ _ (do let _<-comprehension (.ListComp elt [⟨tg,iter,ifs,0⟩] S' pos) S' X.env _ (newList []) F' (eval iter X.env) (O (assign (.Name y py) X.env))) _ _ s;refine B1 (cR (VA (use:=O (assign (.Name y py) X.env)) (Q:=λ_ d=>SP X A' j .next d) U hs B S.kind S.names (cR (hi A' s σ H _ I h) λxv s1 h1=>cR h1 λW s2 h2=>?_)) λ_ d G=>GE (GE G));obtain⟨it,fp,tn,J,H2,e,I2,T,r,f2,q⟩:=h2;subst e;refine pZ (Q:=λv H=>j.nx (σ.set i (O v)) H) (RR:=λm C=>YS (Pp X.prog X.w) X.A X.xe (O (assign (.Name y py) X.env)) (λ_ d=>SP X A' j .next d) m C) S f V hg ht he I2 T r f2 (hR _ _ _ _ q) ?_;intro D C d H' m' I' hn c G;show Ki _ _ (assign (.Name y py) X.env (.ref D)) _ _ d;refine X0 (nA (v:= .ref D) I' hN F u U (λl t ch=>?_) p);obtain⟨a,P,R⟩:=ch
 have M:C≠a:=by
  rcases R with z|z
  ·rw[z];exact c.2.1
  ·exact SZ (c.2.2.2.2.1 y a z)
 refine⟨m',hn.sameBut P M,λh' E=>⟨_,H',t.turned (t':=l.toks) (λb o hb e=>(E.2 b hb).trans e) c.1 c.2.1 c.2.2.2.1 c.2.2.2.2.1 c.2.2.2.2.2,G⟩⟩
def qF(S:gY X k N' S')(a:X.calm=T')(c:PI X tg iter wi)(b:∀cl C fp s H,PG (X.gg N' S' cl C fp s H) tg g)(e:∀cl C fp s H,Ls (X.gg N' S' cl C fp s H) ifs tt)(d:∀cl C fp s H,PE (X.gg N' S' cl C fp s H) elt te)(hs:∀x,UC iter X.env x=pure x:=by intro _;rfl):PE X (.ListComp elt [⟨tg,iter,ifs,0⟩] S' pos) (M0 wi k g tt te):=
 xY (λJ H σ Q=>gK J H k σ g tt te Q) (λ_ _ _ _ q=>q) S a c b e d hs
end
def ui(h:fQ J H1 σ tt te Q):gK J H1 1 σ (eY 0) tt te Q:=by
 intro D d;obtain⟨W,c,a⟩:=h D d;refine⟨W,c,λi m H e=>?_⟩
 rcases a i m H e with q|⟨go,step⟩
 ·exact .inl q
 ·refine .inr ⟨go,λx H' ρ b y=>?_⟩
  match ρ,b with
  |[f],_=>exact⟨⟨[O x],U,U⟩,step x H' y⟩
def gC.toN(S:gC X x S'):gY X 1 (x::X.N) S':=
 ⟨S.kind,S.cell,S.names,S.free,by rw[Da,W8],λi y h=>by
  rw[W8,ZN]at h
  exact .inl ⟨h,S.cap y (Do h)⟩⟩
def gC.pg(S:gC X x S')(cl:L (Z×B4))(C:B4)(fp:L B4)(s:FM)(H:Hp):PG (X.gg (x::X.N) S' cl C fp s H) (.Name x px) (eY 0):=by
 have a:(YI S' X.env).names.lookup x=O .local:=aas S.hx;exact aZ (X:=X.gg (x::X.N) S' cl C fp s H) (i:=0) S.nd U (.inl a) (.inr a)
def dQ(S:gC X x S')(a:X.calm=T')(b:PI X (.Name x px) iter wi)(d:∀cl C fp s H,Ls (X.comp x S' cl C fp s H) ifs tt)(c:∀cl C fp s H,PE (X.comp x S' cl C fp s H) elt te)(hs:∀x,UC iter X.env x=pure x:=by intro _;rfl):PE X (.ListComp elt [⟨.Name x px,iter,ifs,0⟩] S' pos) (mx wi tt te):=
 xY (k:=1) (N':=x::X.N) (g:=eY 0) (λJ H σ Q=>fQ J H σ tt te Q) (λ_ _ _ _ q=>ui q) S.toN a b S.pg d c hs
def qg(S:gC X x S')(a:X.calm=T')(d:X.N.Nodup)(c:X.N[i]? =O y)(e:Loc X.env.scope y)(f:PI X (.Name x px) iter wi)(j:∀cl C fp s H,Ls (X.comp x S' cl C fp s H) ifs tt)(h:∀cl C fp s H,PE (X.comp x S' cl C fp s H) elt te)(b:VP (.ListComp elt [⟨.Name x px,iter,ifs,0⟩] S' pos) (O (.Name y py)) spos.line X.env=pure T')(hs:∀x,UC iter X.env x=pure x:=by intro _;rfl)(l:X.fn y=T'\/X.env.scope.names.lookup y=O .local:=by first|exact .inl U|exact .inr U|assumption):
  PS X (.Assign [.Name y py] (.ListComp elt [⟨.Name x px,iter,ifs,0⟩] S' pos) spos) (lO (mx wi tt te) (eY i)):=
 xA (k:=1) (N':=x::X.N) (g:=eY 0) (λJ H σ Q=>fQ J H σ tt te Q) (λ_ _ _ _ q=>ui q) S.toN a d c e f S.pg j h b hs l
noncomputable def yJ(fs:Vj)(N:L Z)(k:M')(N':L Z)(S':Vj):Tq:=
 decide (S'.kind= .function)&&S'.names.all (λy=>decide (y.2≠ .cell))&&S'.names.all (λy=>decide (y.2= .local->S'.names.lookup y.1=O .local))&&
 S'.names.all (λy=>decide (y.2= .free->fs.names.lookup y.1=O .cell\/fs.names.lookup y.1=O .free))&&decide (N'.length=k+N.length)&&
 (Tg N.length).all (λi=>match N'[k+i]?,N[i]? with
  |some y,O z=>(match S'.names.lookup y with
   |none=>T'
   |some .free=>decide (y=z)&&decide (fs.names.lookup y=O .cell\/fs.names.lookup y=O .free)
   |some _=>F')
  |_,_=>F')
theorem lD{k:M'}{fs:Vj}(hs:X.env.scope=fs)(f:X.N=N)(c:yJ fs N k N' S'=T'):gY X k N' S':=by
 subst hs f;unfold yJ at c;simp only[Tw,UW,UD]at c;obtain⟨⟨⟨⟨⟨j,n⟩,m⟩,l⟩,o⟩,g⟩:=c;refine⟨j,n,m,l,o,λi y b=>?_⟩;have p:k+i<N'.length:=(TK.mp b).1
 have a:i<X.N.length:=by lia
 have q:=g i (Vy.mpr a);rw[b,B2 a]at q;dsimp only at q;unfold xZ
 cases e:S'.names.lookup y with
 |none=>exact .inr U
 |some kd=>
  rw[e]at q
  cases kd with
  |free=>
   have d:y=X.N[i]/\(X.env.scope.names.lookup y=O .cell\/X.env.scope.names.lookup y=O .free):=by simpa using q
   refine .inl ⟨by rw[B2 a,d.1],?_⟩;show(X.env.kindOf y==O .cell||X.env.kindOf y==O .free)=T';have h:X.env.kindOf y=X.env.scope.names.lookup y:=U;rw[h]
   rcases d.2 with z|z<;>rw[z]<;>rfl
  |_=>simp at q
def Inv.BG{t':M'}{ch:L B4}(I:Inv X A' σ H s)(k:∀b u,b∉ch->s.heap.get? b=O u->h'.get? b=O u)(a:∀b∈ch,km X A' H b):Inv X A' σ H {s with heap:=h',toks:=t'}:=by
 have f:∀b u,H b=O u->b∉ch:=λb u e z=>by rw[(a b z).1]at e;cases e
 refine I.step (g':=s.gens) (d':=s.drawn) (ch:=ch) (λb g=>⟨(a b g).2.2.2.1,(a b g).2.1,(a b g).2.2.2.2.1,(a b g).2.2.2.2.2⟩) (λb o _ _ d e _=>k b o d e) (λb o _ _ d e _=>⟨o.slots,k b o d e⟩)
  (λ_ _ _ _ n=>n) (λb o d e=>⟨o,k b o d e⟩) (λ_ _ e=>e) (λ_ _ _ e=>e) (λb ps e=>⟨#[],by rw[e];simp⟩) (λm i=>?_) (λb u e=>?_) I.bare
 ·obtain⟨h,es,j,l,r⟩:=i;exact⟨h,es,j,k _ h (λz=>(a _ z).2.1 U) l,r⟩
 ·refine(I.hok b u e).oQ (λc v d q=>k c v ?_ q) (λc q=>q) λc p q=>q
  rcases d with z|z
  ·rw[z];exact f b u e
  ·exact f c _ z
noncomputable def Q_(K:B0)(a b:B4):It:=
 ⟨λi H=>∃c d x y,bu K H a c/\bu K H b d/\c[i]? =O x/\d[i]? =O y,λi H x H'=>∃p u v,x= .ref p/\H p=Y/\H'=upd H p (.tup [u,v])/\(∀c,bu K H a c->c[i]? =O u)/\∀d,bu K H b d->d[i]? =O v,
  λi H=>∃c d,bu K H a c/\bu K H b d/\(c.length<=i\/d.length<=i)⟩
theorem Ig{pt:Pos}{z TI TO k m:B4}(D:ZipApart z TI TO k m a b):
  Turn P w K (.Tuple es kk pt) (Q_ K a b) [z,TI,TO,k,m] z (λi h=>IsZip h z TI TO .none/\IsPair h TI (.ref k) (.ref m)/\(∃u v,IsPair h TO u v)/\h.IsListIter k a i/\h.IsListIter m b i) where
 mem:=by simp
 obj:=λi h st c J=>by
  obtain⟨A,d,⟨u,v,e⟩,⟨o1,h1,c1,d1⟩,⟨o2,h2,c2,d2⟩⟩:=st;simp only[PP,SO,or_false]at J
  rcases J with q|q|q|q|q<;>subst q
  ·exact⟨_,A,λv q=>by cases q⟩
  ·exact⟨_,d,λv q=>by cases q⟩
  ·exact⟨_,e,λv q=>by cases q⟩
  ·exact⟨o1,h1,λv q=>by rw[d1]at q;cases q⟩
  ·exact⟨o2,h2,λv q=>by rw[d2]at q;cases q⟩
 keep:=λi h h' st kk=>by
  obtain⟨A,d,⟨u,v,e⟩,⟨o1,h1,c1⟩,⟨o2,h2,c2⟩⟩:=st;exact⟨kk z (by simp) _ A,kk TI (by simp) _ d,⟨u,v,kk TO (by simp) _ e⟩,⟨o1,kk k (by simp) _ h1,c1⟩,⟨o2,kk m (by simp) _ h2,c2⟩⟩
 item:=by
  intro X hP W hK J i A' s σ H E I R st hg;subst hP W hK;obtain⟨xs,ys,x,y,l,j,hx,hy⟩:=hg;obtain⟨a0,rv,p,T⟩:=I.list l;obtain⟨u,hu,ru⟩:=rv.get hx;obtain⟨Q,C,p2,V⟩:=I.list j;obtain⟨v,hv,a7⟩:=C.get hy;obtain⟨A,d,⟨u0,v0,e⟩,n,t⟩:=st;refine wpAny_pyNext_zip_item D A d e n t p.isList p2.isList (x:=u) (y:=v) (by simpa using hu) (by simpa using hv) λh' a1 a2 a3 a4 a5 a6 kp=>⟨_,U,?_⟩;refine wpAny_letOwnedTupleGo_zip a1 λg2 N G=>?_;have lz:z<s.heap.objs.size:=Gc A;have a8:TI<s.heap.objs.size:=Gc d;have S:TO<s.heap.objs.size:=Gc e
  have l1:k<s.heap.objs.size:=by obtain⟨o,B,_⟩:=n;exact Gc B
  have l2:m<s.heap.objs.size:=by obtain⟨o,B,_⟩:=t;exact Gc B
  have nT:H s.heap.objs.size=Y:=I.fresh;have a9:g2.get? s.heap.objs.size=O {cls:= .type "tuple",data:= .seq #[u,v]}:=(G.2 _ (VW lz)).trans a5
  have I1:Inv X A' σ (upd H s.heap.objs.size (.tup [x,y])) {s with heap:=g2,toks:=s.toks}:=by
   refine I.nM (t':=s.toks) (ch:=[z,TI,TO,k,m]) (λc o f q=>?_) R (B9 _) ⟨?_,[u,v],.cons ru (.cons a7 .nil),⟨_,a9,U,0,U⟩⟩
   ·simp only[PP,SO,or_false,not_or]at f;exact(G.2 c f.1).trans (kp c o f.1 f.2.2.1 f.2.2.2.1 f.2.2.2.2 q)
   ·show 2<=sizeLine;decide
  refine⟨.ref s.heap.objs.size,_,I1,U,⟨_,x,y,U,nT,U,λzs F=>?_,λzs F=>?_⟩,⟨N,?_,⟨u,v,?_⟩,?_,?_⟩,λc f=>?_⟩
  ·rw[I.mD F l];exact hx
  ·rw[I.mD F j];exact hy
  ·exact(G.2 TI D.TIz).trans (kp TI _ D.TIz D.TITO D.TIi1 D.TIi2 d)
  ·exact(G.2 TO D.TOz).trans a2
  ·obtain⟨o,B,r⟩:=a3;exact⟨o,(G.2 k D.i1z).trans B,r⟩
  ·obtain⟨o,B,r⟩:=a4;exact⟨o,(G.2 m D.i2z).trans B,r⟩
  ·have g:=(R c f).1;simp only[PP,SO,or_false]at f
   rcases f with q|q|q|q|q<;>subst q
   ·rw[ax (Sy lz)];exact g
   ·rw[ax (Sy a8)];exact g
   ·rw[ax (Sy S)];exact g
   ·rw[ax (Sy l1)];exact g
   ·rw[ax (Sy l2)];exact g
 done:=by
  intro X hP W hK J i A' s σ H E I R st hg;subst hP W hK;obtain⟨xs,ys,l,j,M⟩:=hg;obtain⟨a0,rv,p,T⟩:=I.list l;obtain⟨Q,C,p2,V⟩:=I.list j;obtain⟨A,d,⟨u0,v0,e⟩,n,t⟩:=st;have l1:=rv.length;have l2:=C.length;refine wpAny_pyNext_zip_end (I.ok.hd J) D A d e n t p.isList p2.isList ?_ λh' kp=>⟨U,I.BG (t':=s.toks) (ch:=[z,TI,TO,k,m]) (λc o f q=>?_) R⟩
  ·rcases M with q|q
   ·exact .inl (by simp;lia)
   ·exact .inr (by simp;lia)
  ·simp only[PP,SO,or_false,not_or]at f;exact kp c o f.1 f.2.2.1 f.2.2.2.1 f.2.2.2.2 q
 self:=λ_ _ _ _ _ st h=>abl st.1 h
section
variable{pt:Pos}
inductive Ol(K:B0)(R:It->Hp->Prop)(vs:L V)(H1:Hp):Prop
 |mk (a:_) (b:_) (c0:vs=[.ref a,.ref b]) (c1:(∃xs,bu K H1 a xs)) (c2:(∃ys,bu K H1 b ys)) (c3:R (Q_ K a b) H1)
def Ri(K:B0)(a:TA):TI:=λσ H R=>a σ H λb H1=>Ol K R b H1
def Nb{l m:Expr}{z:TA}(W:Gl X "zip")(G:X.mg "zip"=Y)(J:PA X [l,m] z)(hs:P3 [l,m] X.env=[(F',eval l X.env),(F',eval m X.env)]:=by rfl)(e:P3 [m] X.env=[(F',eval m X.env)]:=by rfl):
  PI X (.Tuple es kk pt) (.Call (.Name "zip" p) [l,m] [] pos) (Ri X.K z):=by
 intro A' s σ H R I h;refine aaB (ip I W G PyProof.Rows.boot_zip (TL (cR (J pos A' s σ H _ I h) λus s1 ⟨vs,H1,d,D,E⟩=>?_) (by rw[hs,e]) (by rw[e];rfl)));obtain⟨a,b,j,⟨xs,g⟩,⟨ys,i⟩,q⟩:=E;subst j;obtain⟨u,v,j,P,Q⟩:=vals2 D;subst j;obtain rfl:u=Kf a:=P;obtain rfl:v=Kf b:=Q;obtain⟨T,rv,B,x⟩:=d.list g;obtain⟨A,M,f,N⟩:=d.list i
 have la:a<s1.heap.objs.size:=by obtain⟨o,w,_⟩:=B.isList;exact Gc w
 have F:b<s1.heap.objs.size:=by obtain⟨o,w,_⟩:=f.isList;exact Gc w
 refine call_zip_2 B.isList f.isList λh' x k t n r S kp=>?_;have V:Inv X A' σ H1 {s1 with heap:=h'}:=d.kept (t':=s1.toks) kp;refine abl x ⟨s1.heap.objs.size+4,[s1.heap.objs.size+4,s1.heap.objs.size+2,s1.heap.objs.size+3,s1.heap.objs.size,s1.heap.objs.size+1],_,_,H1,U,V,Ig (zipApart_new la F),⟨x,k,⟨_,_,t⟩,n,r⟩,λc C=>?_,q⟩
 have y:s1.heap.objs.size<=c:=by
  simp only[PP,SO,or_false]at C
  rcases C with q|q|q|q|q<;>rw[q]
  ·exact Vu _ _
  ·exact Vu _ _
  ·exact Vu _ _
  ·exact B9 _
  ·exact Vu _ _
 exact d.oS y (d.hok.fresh y)
end
section
variable{M:abg}{E:B5->FM->Prop}
def wk{T:UP}{rest:L Expr}{b:L WC}{Q:B5->FM->Prop}(h:Ki M A (spliced (UJ pos (P3 (e::rest) env))) (λj s1=>Ki M A (evalAll ((Vc pos (Ut b env)).map (·.2)))
   (λk s2=>Ki M A (call (.builtin T) j (((Vc pos (Ut b env)).filterMap (·.1)).zip k)) Q E s2) E s1) E s)(g:UJ pos (P3 (e::rest) env)=(F',eval e env)::UJ pos (P3 rest env):=by rfl)(d:(UJ pos (P3 (e::rest) env)).any (·.1)=F':=by rfl)(c:(Vc pos (Ut b env)).all (·.1.isSome)=T':=by rfl)(f:(Vc pos (Ut b env)).any (·.1.isNone)=F':=by rfl):
  Ki M A (callWith pos (.builtin T) [] (UJ pos (P3 (e::rest) env)) (Vc pos (Ut b env))) Q E s:=by
 have h2:Ki M A (evalArgs (.builtin T) T' (UJ pos (P3 (e::rest) env)) (Vc pos (Ut b env))) (λa s1=>Ki M A (call (.builtin T) ([]++a.pos) a.kw) Q E s1) E s:=by
  rw[g]at h⊢;exact evalArgs_kwB c h
 unfold callWith;refine B1 (Uh (SW h2 (λa s1 l=>B1 (UM ?_)) λ_ _ z=>z));simp only[d,f,XS];exact B1 (GE (B1 (SW l (λr s2 i=>B1 (Uh (aan (GE i)))) λ_ _ z=>z)))
end
def same_none(s:aa H H')(h:H' b=Y):H b=Y:=by
 cases e:H b with
 |none=>rfl
 |some u=>rw[s b u e]at h;cases h
abbrev NK(K:B0):TG:=Ov K 2 (Fb (eY 0) (Fb (eY 1) Oy))
def aa.qh{l:B4}(s:aa H H2)(a:H l=Y):aa H (upd H2 l o):=λb u e=>by
 rw[ax (aH e a)];exact s b u e
def iA{α:Type}(n:M')(c:M'->Tq)(f:M'->α):((Tg (n+1)).filter c).map f=((Tg n).filter c).map f++(if c n=T' then[f n]else[]):=by
 rw[List.range_succ,XY,KM];by_cases h:c n=T'
 ·rw[KF h,List.filter_cons_of_pos h];rfl
 ·rw[GM h,ZO h];rfl
theorem CV{xs ys:L V}(c:M'->Tq)(f:M'->V)(M:bu K H a xs)(N:bu K H b ys)(G:min xs.length ys.length<sizeLine)(J:∀(i:M')(x y:V)(H':Hp)(k:Tq->Hp->Prop),xs[i]? =O x->ys[i]? =O y->aa H H'->(∀d,aa H' d->k (c i) d)->tt (O x::O y::σ) H' k)(F:∀(i:M')(x y:V)(H':Hp)(k:VK),c i=T'->xs[i]? =O x->ys[i]? =O y->aa H H'->(∀d,aa H' d->k (f i) d)->te (O x::O y::σ) H' k)(R:∀D H',H D=Y->aa H H'->H' D=O (.lst (((Tg (min xs.length ys.length)).filter c).map f))->Q (.ref D) H'):gK (Q_ K a b) H 2 σ (NK K) tt te Q:=by
 intro D t;refine⟨λi m H'=>m=min xs.length ys.length-i/\i<=min xs.length ys.length/\aa H H'/\H' D=O (.lst (((Tg i).filter c).map f)),⟨_,U,Sm _,aa.qh (aa.refl H) t,ag⟩,?_⟩;rintro i m H' ⟨rfl,X,s1,r⟩;have n:=s1.seq M;have o:=s1.seq N;by_cases g:i<min xs.length ys.length
 ·have T:i<xs.length:=by lia
  have P:i<ys.length:=by lia
  refine .inr ⟨⟨xs,ys,xs[i],ys[i],n,o,by simp[T],by simp[P]⟩,λx H2 ρ s y=>?_⟩;obtain⟨p,u,v,rfl,E,rfl,S,I⟩:=y;have z:=S xs n;have A:=I ys o
  match ρ,s with
  |[r0,W],_=>
   have s2:aa H' (upd H' p (.tup [u,v])):=aa.qh (aa.refl _) E;refine⟨p,_,U,bq.of ag,U,_,_,U,_,_,U,U,⟨[O u,O v],U,U⟩,?_⟩;have j:=aa.trans s1 s2;have w:=s2 _ _ r;refine J i u v _ _ z A j λH3 B=>?_;have l:=B _ _ w;have h:=aa.trans j B
   cases q:c i with
   |true=>
    refine dJ (F i u v _ _ q z A h λH4 C=>⟨_,C _ _ l,?_,_,Uz _ _ g,U,g,aa.qh (aa.trans h C) t,?_⟩)
    ·rw[AC];exact VO (Tf (V6 _ _) (by rw[Ue];lia)) G
    ·rw[ag,iA,KF q]
   |false=>
    refine bW ⟨_,Uz _ _ g,U,g,h,?_⟩;rw[l,iA,GM (by rw[q];exact Om),Ni]
 ·have e:i=min xs.length ys.length:=by lia
  refine .inl ⟨⟨xs,ys,n,o,aB⟩,?_⟩;rw[e]at r;exact R D H' t s1 r
end L2
namespace S2
open PySem L2
def bQ(H:Hp)(as:L B4)(rows:L (L V)):Prop:=as.length=rows.length/\∀(i:M')(p:B4)(r:L V),as[i]? =O p->rows[i]? =O r->H p=O (.tup r)
def bQ.same{H a:Hp}{as:L B4}{rows:L (L V)}(h:bQ H as rows)(s:aa H a):bQ a as rows:=⟨h.1,λi p r c b=>s _ _ (h.2 i p r c b)⟩
variable{H H2:Hp}{as:L B4}
def bQ.nil:bQ H [] []:=⟨U,λi p r e=>by simp at e⟩
theorem bQ.snoc{rows:L (L V)}{p:B4}{r:L V}(h:bQ H as rows)(s:aa H H2)(f:H2 p=O (.tup r)):bQ H2 (as++[p]) (rows++[r]):=by
 refine⟨by rw[B3,B3,h.1];rfl,λi q x a b=>?_⟩;by_cases c:i<as.length
 ·rw[Sv c]at a;rw[Sv (by rw[<-h.1];exact c)]at b;exact s _ _ (h.2 i q x a b)
 ·rw[Re aB]at a;rw[Re (by rw[<-h.1];lia),<-h.1]at b
  cases e:i-as.length with
  |zero=>
   rw[e]at a b
   cases a
   cases b
   exact f
  |succ d=>rw[e]at a;simp at a
def bQ.get{rows:L (L V)}(h:bQ H as rows){i:M'}{x:V}(e:(as.map V.ref)[i]? =O x):∃p r,x= .ref p/\as[i]? =O p/\rows[i]? =O r/\H p=O (.tup r):=by
 rw[B6]at e
 cases a:as[i]? with
 |none=>rw[a]at e;cases e
 |some p=>
  rw[a]at e
  have b:i<rows.length:=by rw[<-h.1];exact cQ a
  exact⟨p,rows[i],(SV e).symm,U,by simp[b],h.2 i p rows[i] a (by simp[b])⟩
end S2
namespace L2
open PySem PySem.Spec PyProof.Rows
noncomputable def Rz(x:Z):It:=⟨λi _=>i<x.cps.size,λi H v a=>a=H/\∃c,x.cps[i]? =O c/\v= .str ⟨#[c]⟩,λi _=>x.cps.size<=i⟩
variable{K:B0}{P:To}{tg:Expr}{w:TV}{X:Cx}
def wB{T:UP}(n:T="str_ascii_iterator"\/T="str_iterator")(a:B4)(x:Z)(t:Tok):Turn P w K tg (Rz x) [a] a (λi h=>h.IsStrIter a T x t i/\i<=x.cps.size) where
 mem:=by simp
 obj:=λi h f b g=>by
  have e:b=a:=by simpa using g
  subst e;obtain⟨⟨o,e,c,d⟩,_⟩:=f;exact⟨o,e,λv z=>by rw[d]at z;cases z⟩
 keep:=λi h p f k=>by
  obtain⟨⟨o,e,r⟩,F⟩:=f;exact⟨⟨o,k a (by simp) o e,r⟩,F⟩
 item:=by
  intro X N G B m i S s σ H E I q f j;subst N G B;obtain⟨M,f1,f2,C,D,R⟩:=q a (by simp)
  have W:Walks X.prog X.w X.A a [a] [a] x.cps.size (SignAt x) (λi h=>h.IsStrIter a T x t i):=by
   rcases n with rfl|rfl
   ·exact Walks.strAscii (I.ok.hd m) a x t
   ·exact Walks.strWide (I.ok.hd m) a x t
  have j:i<x.cps.size:=j;refine W.item i s _ _ j f.1 λv p Q hv l J=>?_;obtain⟨c,u,y,rfl⟩:=hv;have V:Inv X S σ H {s with heap:=p,toks:=Q}:=I.turned (λb o g e=>J b o (by simpa using g) e) M f1 C D R;obtain⟨o,e,cc,d⟩:=id l;exact⟨_,U,wg (s:={s with heap:=p,toks:=Q}) e cc d (by rcases n with rfl|rfl<;>decide) ⟨.str ⟨#[c]⟩,H,V,⟨u,U⟩,⟨U,c,y,U⟩,⟨l,j⟩,λb g=>(q b g).1⟩⟩
 done:=by
  intro X N G B m i S s σ H E I q f j;subst N G B;obtain⟨M,f1,f2,C,D,R⟩:=q a (by simp)
  have W:Walks X.prog X.w X.A a [a] [a] x.cps.size (SignAt x) (λi h=>h.IsStrIter a T x t i):=by
   rcases n with rfl|rfl
   ·exact Walks.strAscii (I.ok.hd m) a x t
   ·exact Walks.strWide (I.ok.hd m) a x t
  have F:i=x.cps.size:=Nat.le_antisymm f.2 j;subst F;exact W.done s _ _ f.1 λp Q J=>⟨U,I.turned (λb o g e=>J b o (by simpa using g) e) M f1 C D R⟩
 self:=λ_ _ _ _ _ f h=>by
  rcases n with rfl|rfl
  ·exact wpAny_pyIter_striter_ascii f.1 h
  ·exact wpAny_pyIter_striter_wide f.1 h
def OJ(tl:TE):TI:=λσ H R=>tl σ H λv a=>∃x,v= .str x/\R (Rz x) a
def zh{l:Expr}{tl:TE}(i:PE X l tl):PI X tg l (OJ tl):=by
 intro m s σ H R I h;refine cR (i m s σ H _ I h) λv a ⟨y,f,c,j,k⟩=>?_;obtain⟨x,e,q⟩:=k;subst e;obtain⟨t,rfl⟩:=j
 cases g:x.cps.all (·<128)
 ·refine wpAny_pyIter_wide g ?_;refine⟨a.heap.objs.size,[a.heap.objs.size],_,_,f,U,c.kept (t':=a.toks) λb o e=>B7 _ e,wB (.inr U) _ x t,⟨⟨_,Ss _ U,U,U⟩,Sm _⟩,λb d=>?_,q⟩
  have e:b=a.heap.objs.size:=by simpa using d
  subst e;exact c.oS (B9 _) (c.hok.fresh (B9 _))
 ·refine wpAny_pyIter_ascii g ?_;refine⟨a.heap.objs.size,[a.heap.objs.size],_,_,f,U,c.kept (t':=a.toks) λb o e=>B7 _ e,wB (.inl U) _ x t,⟨⟨_,Ss _ U,U,U⟩,Sm _⟩,λb d=>?_,q⟩
  have e:b=a.heap.objs.size:=by simpa using d
  subst e;exact c.oS (B9 _) (c.hok.fresh (B9 _))
def Rv:R2:=λa b H Q=>∃x y:Z,a= .str x/\b= .str y/\Q (.bl (!decide (y.cps.toList<x.cps.toList))) H
def vk:je X (compareOp .LtE) Rv:=by
 intro i s σ H x y v u Q I f c h;obtain⟨a,b,e,d,q⟩:=h;subst e d;obtain⟨t,rfl⟩:=f;obtain⟨g,rfl⟩:=c;exact PySem.P.le_str ⟨.bl _,H,I,U,q⟩
open S2
variable{H:Hp}{Q:VK}{a:B4}{te:TE}{xs:L V}{σ:St}
theorem nY(f:V->V)(s:H a=O (.tup xs))(u:xs.length<sizeLine)(r:∀(i:M')(x:V)(b:Hp)(k:VK),xs[i]? =O x->aa H b->(∀h,aa b h->k (f x) h)->te (O x::σ) b k)(p:∀D b,H D=Y->aa H b->b D=O (.lst (xs.map f))->Q (.ref D) b):fQ (L7 K a) H σ gn te Q:=by
 intro D g;refine⟨λi m b=>m=xs.length-i/\i<=xs.length/\aa H b/\b D=O (.lst ((xs.take i).map f)),⟨xs.length,aB,Sm _,aa.put (aa.refl H) g,ag⟩,?_⟩;rintro i m b ⟨rfl,t,c,d⟩;have q:bq K b a xs:=bq.of (c _ _ s);by_cases j:i<xs.length
 ·refine .inr ⟨⟨xs,xs[i],q,by simp[j]⟩,λx l y=>?_⟩;obtain⟨e,y⟩:=y;subst e;have n:=y xs q;show te _ l _;refine r i x l _ n c λh o=>⟨_,o _ _ d,by rw[AC,TJ];lia,xs.length-(i+1),aB,U,aB,aa.put (c.trans o) g,?_⟩;rw[ag,UA,n,KM];rfl
 ·have e:i=xs.length:=by lia
  subst e;rw[UO]at d;exact .inl ⟨⟨xs,q,B9 _⟩,p D b g c d⟩
def aq{t u:TS}{D:Ends}(h:∀N:St->Hp->Prop,(∀σ H,u D σ H->N σ H)->t {D with nx:=N} σ H):Es t u D σ H:=h _ λ_ _ x=>x
open PySem.W
def DG{c:To}{K:Type}[aaz K]{b:KeyKind c w K}{h:T9}{f:L (K×B5)}(d:h.DictOf b a f):∃e,h.DictAt b a f e:=by
 obtain⟨o,g,e,n,l,j,k,i,m⟩:=d;exact⟨e,o,g,n,l,j,k,i,m⟩
variable{i:M'}
def Q8{b:L (Key×V)}{a:L (Key×B5)}(r:KV b a){k:Key}{x:V}(h:b[i]? =O (k,x)):∃v,a[i]? =O (k,v)/\RelV x v:=by
 induction r generalizing i with
 |nil=>cases h
 |cons p q c=>
  cases i with
  |zero=>
   cases h
   obtain⟨e,z⟩:=p;exact⟨_,by rw[List.getElem?_cons_zero];exact Tb O (Prod.ext e.symm U),z⟩
  |succ i=>exact c h
def L1{k:Key}{u:B5}(h:(bx P w).is k u=T'):RelV (kV k) u:=by
 rcases dh h with⟨i,t,rfl,rfl⟩|⟨x,t,rfl,rfl⟩
 ·exact⟨t,U⟩
 ·exact⟨t,U⟩
def qb:entryFor table "dict_itemiterator.__iter__"=O Builtin.«dict_keyiterator.__iter__»:=
 entryFor_alias (id':="dict_keyiterator.__iter__") (by kernel_rfl) U bf (by kernel_rfl)
def M_:L V->Hp->VK->Prop:=λxs H Q=>∃(a:B4)(b:L (Key×V)),xs=[.ref a]/\Rd H a (.dK b)/\∀p,H p=Y->Q (.ref p) (upd H p (.lst (b.map λc=>kV c.1)))
def Ah(G:X.calm=T'):e_ X (.type "list") M_:=by
 intro A' s σ H xs i Q I r h;obtain⟨a,B,F,d,q⟩:=h;subst F;obtain⟨u,D,P⟩:=vals1 r;subst D;obtain rfl:u=Kf a:=P;obtain⟨z,hd,A,n,dd⟩:=lg I.hok d;obtain⟨ep,M⟩:=DG dd;refine kdl_call (kdl_dict (knd:=bx X.prog X.w) (kvs:=A) (ep:=ep) hd) (I.ok.hd G) M (by rw[<-n.length];exact z) λW T f c E S b=>?_
 have N:Vals (B.map λg=>kV g.1) f.toList:=by
  have J:f.toList.length=A.length:=by rw[SG];exact b.1
  have go:∀(y:L (Key×V))(i:L (Key×B5))(as:L B5),KV y i->as.length=i.length->(∀(j:M')(v:B5),as[j]? =O v->∃k x,i[j]? =O (k,x)/\(bx X.prog X.w).is k v=T')->Vals (y.map λg=>kV g.1) as:=by
   intro y i as g
   induction g generalizing as with
   |nil=>intro l _;cases as with
    |nil=>exact .nil
    |cons=>cases l
   |cons p t K=>
    intro l C
    cases as with
    |nil=>cases l
    |cons v as=>
     refine .cons ?_ (K as (by simpa using l) λj w e=>C (j+1) w (by simpa using e));obtain⟨k,x,e,m⟩:=C 0 v U;have R:=SV e;show RelV (kV _) v;rw[p.1,R];exact L1 m
  exact go B A _ n J λj v e=>b.2 j v (by rw[<-Vf];exact e)
 refine⟨.ref s.heap.objs.size,_,I.laid (a:=s.heap.objs.size) (o:= .lst (B.map λg=>kV g.1)) (t':=T) E (B9 _) ⟨by rw[AC];exact z,f.toList,c,N,by simpa using S⟩,U,q _ (I.hok.fresh (B9 _))⟩
def iJ(J:It)(H:Hp)(xs:L V):Prop:=
 (∀i a,aa H a->i<xs.length->J.go i a)/\(∀a,aa H a->J.stop xs.length a)/\∀i x a b,aa H a->J.yld i a x b->b=a/\xs[i]? =O x
theorem iJ.list(h:bu K H a xs):iJ (MU K a) H xs:=
 ⟨λi b s d=>⟨xs,xs[i],s.seq h,by simp[d]⟩,λb s=>⟨xs,s.seq h,B9 _⟩,λi x b c s y=>by
  obtain⟨e,y⟩:=y
  exact⟨e,y xs (s.seq h)⟩⟩
def oH{α:Type}{l:L α}{c:α->Tq}{x:α}(h:l[i]? =O x):(l.take (i+1)).filter c=(l.take i).filter c++if c x=T' then[x]else[]:=by
 rw[UA,h,XY]
 congr 1
 cases a:c x<;>simp[a]
theorem uu{α:Type}{J:It}{l:L α}{t:TT}(inj:α->V)(c:α->Tq)(f:α->V)(q:iJ J H (l.map inj))(A:l.length<sizeLine)(B:∀(x:α)(a:Hp)(j:Tq->Hp->Prop),x∈l->aa H a->(∀d,aa a d->j (c x) d)->t (O (inj x)::σ) a j)(z:∀(x:α)(a:Hp)(j:VK),c x=T'->x∈l->aa H a->(∀d,aa a d->j (f x) d)->te (O (inj x)::σ) a j)(C:∀D a,H D=Y->aa H a->a D=O (.lst ((l.filter c).map f))->Q (.ref D) a):fQ J H σ t te Q:=by
 intro D p;refine⟨λi m a=>m=l.length-i/\i<=l.length/\aa H a/\a D=O (.lst (((l.take i).filter c).map f)),⟨_,U,Sm _,aa.qh (aa.refl H) p,ag⟩,?_⟩;rintro i m a ⟨rfl,E,h,o⟩;by_cases b:i<l.length
 ·refine .inr ⟨q.1 i a h (by rw[AC];exact b),λx w y=>?_⟩;obtain⟨e,r⟩:=q.2.2 i x a w h y;subst e;have ex:l[i]? =O l[i]:=B2 b;rw[B6,ex]at r
  cases r
  have s:=Do ex;generalize l[i]=x at *;refine B x _ _ s h λG u=>?_;have k:=u _ _ o;have g:=aa.trans h u
  cases n:c x with
  |true=>
   refine dJ (z x _ _ n s g λF v=>⟨_,v _ _ k,?_,_,Uz _ _ b,U,b,aa.qh (aa.trans g v) p,?_⟩)
   ·rw[AC];exact VO (Tf (V6 _ _) (by rw[TJ];lia)) A
   ·rw[ag,oH ex,KF n,KM];rfl
  |false=>
   refine bW ⟨_,Uz _ _ b,U,b,g,?_⟩;rw[k,oH ex,GM (by rw[n];exact Om),Ni]
 ·have e:i=l.length:=by lia
  have :=q.2.1 a h;rw[AC]at this;rw[e];refine .inl ⟨this,?_⟩;rw[e,UO]at o;exact C D a p h o
end L2
namespace L2
open PySem PySem.Spec PyProof.Rows
variable{A:UU}{C f a C1:B4}{K:B0}{P:To}{e tg:Expr}{es:L Expr}{U':L Env}{pos hp1 np1 p tpos:Pos}{ps:L Z}{sp:Sp}{w:TV}{x n c1:Z}{X:Cx}{ta:TE}{H H':Hp}{h B:T9}{od:O' B4}{i:M'}{A':L (B4×Obj)}{s:FM}{σ:St}{T1:TS}{b1:SX}{su1 body:L SX}{tb:XK->TS}{xe:B5->FM->Prop}
section
variable{mg:Z->O' B5}{B':T9}{N:L Z}{V':Z}{S':Vj}{cd:B5}{s₀:FM}{H₀:Hp}{E:XK}{fI:B4}{dI:Ud}{k:M'}{np cpos:Pos}{t:TA}
def K1(C:B4)(sp:Sp)(E:XK)(t:TA):TS:=λ_ σ H=>t σ H λe b=>e.length<=1000/\∀a,b a=Y->sp (.ref a::e) (upd b a (xo C a Y)) (λv d=>v= .non/\∃c,d a=O (xo C a (O c))/\E (.ref C) (O c) (del d a)) E0
def Ei(c:ownIn K C fI=T')(S:W4 K (.ref fI)=T')(kp:Td K (.ref C)=T')(G:aS P w K mg B' dz k fI dI ps sp)(hr:gk (k+1) (aT (cu P w) P w K mg B' N V' S' f cd A U' s₀ H₀ E).A)(hg:Gl (aT (cu P w) P w K mg B' N V' S' f cd A U' s₀ H₀ E) x)(hm:mg x=O (.ref C))(hb:Binds K dI ps [])(ha:PA (aT (cu P w) P w K mg B' N V' S' f cd A U' s₀ H₀ E) (e::es) t)(a3:(x==("__debug__":Z))=F':=by decide)(he:P3 (e::es) (aT (cu P w) P w K mg B' N V' S' f cd A U' s₀ H₀ E).env=(F',eval e (aT (cu P w) P w K mg B' N V' S' f cd A U' s₀ H₀ E).env)::P3 es (aT (cu P w) P w K mg B' N V' S' f cd A U' s₀ H₀ E).env:=by rfl)(a1:(UJ cpos (P3 es (aT (cu P w) P w K mg B' N V' S' f cd A U' s₀ H₀ E).env)).any (·.1)=F':=by rfl):
  PS (aT (cu P w) P w K mg B' N V' S' f cd A U' s₀ H₀ E) (.Raise (O (.Call (.Name x np) (e::es) [] cpos)) Y pos) (K1 C sp E t):=by
 intro A' s σ H D I h;obtain⟨bm,ns,nm,qn,bs,hd,sn,sub,ab,col,dd,k0,k1,k2,k3,k5,B,p,a0,Q⟩:=(Hj I.ok.mod.kin c).out;have j:bm.contains (.type "BaseException")=T':=p.hasType bf;refine uo (C:=C) (nm:=nm) (q:=qn) (N:=ns) (bs:=bs) (bm:=bm) (hdct:=hd) (sn:=sn) (sub:=sub) (ab:=ab) (col:=col) (dd:=dd) (k0:=k0) (k1:=k1) (k2:=k2) (k3:=k3) (k5:=k5) (newId:="ValueError.__new__") j (I.ok.hd U) ?_;refine Uv (iE I hg hm ?_ a3);refine XX (h₀:=B') I.ok.mod.kin kp (cR (ha cpos A' s σ H _ I h) λg d ⟨vs,H1,l,r,T,q⟩=>⟨l.jG,?_⟩) he a1;have a2:=r.length;have M:=l.bk;obtain⟨oF,X,J⟩:=Sn.mp (beq_iff_eq.mp S);have hq:=q (d.heap.objs.size+1) (l.hok.fresh (Wd _))
 have hz:g.length<=sizeLine:=by
  rw[<-a2];exact W7 (VO T bp)
 have x1:((d.heap.push (iO g)).push (dG C d.heap.objs.size Y)).get? (d.heap.objs.size+1)=O (dG C d.heap.objs.size Y):=by
  have z:=Ss (d.heap.push (iO g)) (o:=dG C d.heap.objs.size Y) U
  rwa [V1]at z
 have IA:=l.kept (h':=d.heap.push (iO g)) (t':=d.toks) λb u e=>B7 _ e;have R:=IA.laid (a:=d.heap.objs.size+1) (o:=xo C (d.heap.objs.size+1) Y) (h':=(d.heap.push (iO g)).push (dG C d.heap.objs.size Y)) (t':=d.toks) (λb u e=>B7 _ e) (Yc (V1 _ _)) (LR x1);have r2:Vals (V.ref (d.heap.objs.size+1)::vs) (Kf (d.heap.objs.size+1)::g):= .cons U r
 have hl:(Kf (d.heap.objs.size+1)::g).length=ps.length:=by
  have e:=r2.length;rw[G.len _ _ _ _ hq]at e;exact e.symm
 obtain⟨hp1,g1,d1,t1,n⟩:=d;refine FE Uq bf Uq (p.keeps M) (M _ _ B) (a0.keeps M) Q (l.jG _ _ X) J ?_ hz;have m:=hb ⟨(hp1.push (iO g)).push (dG C hp1.objs.size Y),g1,d1,t1,n⟩ (Kf (hp1.objs.size+1)::g) R.jG (by rw[Ni];exact hl);rw[Ni]at m;refine VR (G.run _ (aT (cu P w) P w K mg B' N V' S' f cd A U' s₀ H₀ E).stack ⟨(hp1.push (iO g)).push (dG C hp1.objs.size Y),g1,d1,t1,n⟩ _ ⟨Kf (hp1.objs.size+1)::g,[]⟩ (Kf (hp1.objs.size+1)::g) _ _ E0 (hr.make C g []) (R.NR.make C g []) m r2 hq) λr s' i=>?_
 cases r with
 |error e=>exact i.elim
 |ok fl=>
  cases fl with
  |ret u=>
   obtain⟨v,H',I3,rv,ev,dx,y,q3⟩:=R.after i;subst ev;obtain⟨t3,e3⟩:=Aa I3.hok y;refine⟨rv,_,t3,O dx,U,I3.bk _ _ B,e3,Ft I3 ?_ y q3⟩;exact Tf l.sz (Wd _)
  |next=>exact i.elim
  |brk=>exact i.elim
  |cont=>exact i.elim
def KR(C:B4)(E:XK):TS:=λ_ _ H=>E (.ref C) Y H
def ia(b:T4 K C gM "ValueError.__new__"=T')(r:Gl (aT (cu P w) P w K mg B' N V' S' f cd A U' s₀ H₀ E) x)(m:mg x=O (.ref C))(kp:Td K (.ref C)=T')(k:(x==("__debug__":Z))=F':=by decide):
  PS (aT (cu P w) P w K mg B' N V' S' f cd A U' s₀ H₀ E) (.Raise (O (.Call (.Name x np) [] [] cpos)) Y pos) (KR C E):=by
 intro A' s σ H D I h;obtain⟨bm,p,nm,o,bs,hd,sn,sub,ab,col,dd,k0,k1,k2,k3,k5,v,g,i,j,d⟩:=ub I.jG b;have c:bm.contains (.type "BaseException")=T':=d.hasType bf;refine uo (C:=C) (nm:=nm) (q:=o) (N:=p) (bs:=bs) (bm:=bm) (hdct:=hd) (sn:=sn) (sub:=sub) (ab:=ab) (col:=col) (dd:=dd) (k0:=k0) (k1:=k1) (k2:=k2) (k3:=k3) (k5:=k5) (newId:="ValueError.__new__") c (I.ok.hd U) ?_;refine Uv (iE I r m ?_ k);refine aaF I.jG kp ?_;obtain⟨hp1,g1,y,z,n⟩:=s;refine aaD Uq bf Uq d g i j (λu a l=>?_) (Sm _);obtain⟨t,e,_⟩:=l.there;exact⟨a,t,Y,U,l.keeps _ _ g,e,HM I l h⟩
end
structure vM(K:B0)(C:B4):Prop where
 ov:ky K C=T'
 sa:SE K (.ref C) "__setattr__"=O (O (.builtin "object.__setattr__"))
 ga:SE K (.ref C) "__getattribute__"=O (O (.builtin "BaseException.__getattribute__"))
 gt:SE K (.ref C) "__getattr__"=O Y
 mb:T3 K C (.type "BaseException")=O T'
 mo:T3 K C (.type "object")=O T'
 cl:SE K (.ref C) "__class__"=O (O (.builtin "object.__class__"))
 cg:X5 K (.builtin "object.__class__") "__get__"=O (O (.builtin "getset_descriptor.__get__"))
 ct:Yy K (.builtin "object.__class__")=O T'
section
variable{o value:Expr}{fl:Z}{pos':Pos}{tv:TE}
def Ow(K:B0)(ta tv:TE)(fl:Z):TS:=λD σ H=>tv σ H λy d=>ta σ d λx c=>∃a C,x= .ref a/\c a=O (xo C a Y)/\vM K C/\SE K (.ref C) fl=O Y/\∀b,c b=Y->D.nx σ (upd (upd c b (.xd [(fl,y)])) a (xo C a (O b)))
def Jd(M:PE X o ta)(T:PE X value tv)(hs:VP value (O (.Attribute o fl pos')) pos.line X.env=pure F'):PS X (.Assign [.Attribute o fl pos'] value pos) (Ow X.K ta tv fl):=by
 intro A' s σ H D I h;refine Ym (cR (T A' s σ H _ I h) λu Q ⟨y,W,G,B,q⟩=>cR (M A' Q σ W _ G q) λov j ⟨x,p,k,P,a,C,ex,i,A,R,S⟩=>?_) hs;subst ex;obtain rfl:ov=Kf a:=P;obtain⟨t,J⟩:=Aa k.hok i;refine Kr k.jG J A.ov R A.sa λh' V l r kp=>?_;have d:p j.heap.objs.size=Y:=k.hok.fresh (B9 _)
 have E:j.heap.objs.size≠a:=λz=>by rw[z,i]at d;cases d
 have f:∀{b:B4}{o:HO},p b=O o->(∀ψ,o≠ .ext ψ)->b≠a:=λ{b o} e n z=>by
  rw[z,i]at e;exact n _ (SV e).symm
 refine⟨σ,_,k.un (h':=h') (t':=V) (H':=upd (upd p j.heap.objs.size (.xd [(fl,y)])) a (xo C a (O j.heap.objs.size))) ⟨λb o e n _ _=>kp b o (λz=>by rw[z,i]at n;cases n) e,λb o e n _ _=>⟨o.slots,kp b o (λz=>by rw[z,i]at n;cases n) e⟩,λb o e n _=>?_,λb o e _=>?_,λb F e=>?_,λb o u e=>?_,λb ps e=>⟨#[],?_⟩⟩ (λb o e=>?_),S _ d⟩
 ·rw[ax (λz=>by rw[z,i]at n;cases n),ax (Sy (Gc e))];exact n
 ·by_cases z:b=a
  ·rw[z];exact⟨_,l⟩
  ·exact⟨o,kp b o z e⟩
 ·rw[ax (f e λψ z=>by cases z),ax (aH e d)];exact e
 ·rw[ax (f e λψ z=>by cases z),ax (aH e d)];exact e
 ·rw[ax (f e λψ z=>by cases z),ax (aH e d),e];simp
 ·by_cases z:b=a
  ·subst z;rw[ag]at e
   cases e
   exact LR l
  ·rw[ax z]at e;by_cases w:b=j.heap.objs.size
   ·subst w;rw[ag]at e
    cases e
    refine⟨_,r,λg=>?_⟩;show il (VQ g [(fl,y)]) (if g=fl then O u else Y);rw[Um];by_cases m:g=fl
    ·rw[KF m,show(g==fl)=T' by simpa using m];exact B
    ·rw[GM m,show(g==fl)=F' by simpa using m];exact T8
   ·rw[ax w]at e;refine(k.hok b o e).oQ (λc v N q=>kp c v ?_ q) (λc q=>?_) λc F q=>?_
    ·rcases N with y1|y1
     ·rw[y1];exact z
     ·exact f y1 λψ z=>by cases z
    ·rw[ax (f q λψ z=>by cases z),ax (aH q d)];exact q
    ·rw[ax (f q λψ z=>by cases z),ax (aH q d)];exact q
end
noncomputable def xh(C a:B4)(od:O' B4):HO:= .ext λh=>∃o,h.get? a=O o/\o.cls= .ref C/\o.dict=od/\Xs o=T'
def Gm(ok:jE P w H h)(e:H a=O (xh C a od)):∃o,h.get? a=O o/\o.cls= .ref C/\o.dict=od/\Xs o=T':=(show cM P w H h a (xh C a od)from ok a _ e).1
def Pl{o:Obj}(e:h.get? a=O o)(b:o.cls= .ref C)(g:o.dict=od)(c:Xs o=T'):cM P w H h a (xh C a od):=
 ⟨⟨o,e,b,g,c⟩,⟨_,e⟩,λj i ⟨f,d,r⟩ k=>⟨f,k _ d,r⟩⟩
section
variable{fl:Z}
def findObj_cls{od:O' Obj}(a:vM K C):PySem.W.findObj K C od "__class__"=O (.bind (.builtin "getset_descriptor.__get__") (.builtin "object.__class__")):=by
 obtain⟨c,b,_⟩:=Vq a.ov;unfold PySem.W.findObj;rw[b,Uw,a.cl,Uw];dsimp only;rw[a.cg,Uw];dsimp only;rw[a.ct,Uw]
def wU{x:B4}(b:vM K C):PySem.W.KitX K (.ref x) (.ref C) (λh=>∃j od,Xv h x j C od) where
 ty:=λ_ _ _ ⟨_,_,I⟩=>I.type
 it:=λ_ _ X _=>by
  obtain⟨d,a,_⟩:=Vq b.ov;unfold Zw at a
  split at a
  ·rename_i p l c f i
   intro A' s u r k q;unfold isType loadHead;exact B1 (Xm (k _ _ (X _ _ i)) (GE q))
  ·cases a
 ne:=λh o dd m n t X g=>by
  obtain⟨d,a,_⟩:=Vq b.ov;refine Vp.mpr λq=>?_;have e:C=o:=Value.ref.inj (beq_iff_eq.mp q);subst e;unfold Zw at a
  split at a
  ·rename_i p l c f i
   have z:=(X _ _ i).symm.trans g
   cases z
  ·cases a
 ca:=λX ⟨_,_,I⟩ k=>IM X I b.ga b.gt b.mb b.mo (findObj_cls b) k
def qT(K:B0):L V->Hp->VK->Prop:=λd H Q=>∃a C D od b,d=[.ref a,.ref D]/\H a=O (xh C a od)/\(∀c,od=O c->∃fs,H c=O (.xd fs))/\vM K C/\TX K (.ref C) (.ref D)=O b/\Q (.bl b) H
def gX:e_ X (.builtin "isinstance") (qT X.K):=by
 intro A' s σ H B E Q I r h;obtain⟨a,C,D,od,b,d,m,n,t,y,q⟩:=h;subst d;obtain⟨u,v,c,l,w⟩:=vals2 r;subst c;obtain rfl:u=Kf a:=l;obtain rfl:v=Kf D:=w;obtain⟨o,d,g,c,j⟩:=Gm I.hok m
 have p:∃k od,Xv s.heap a k C od:=by
  cases od with
  |none=>exact⟨o,Y,d,g,j,by rw[c];exact T8⟩
  |some i=>
   obtain⟨fs,f⟩:=n i U;obtain⟨x,e⟩:=(I.hok i _ f).ex;exact⟨o,O x,d,g,j,by rw[c];exact e⟩
 exact TY (wU t) I.jG p y (λz=>nomatch z) λA=>⟨.bl b,H,I.tok A,U,q⟩
end
noncomputable abbrev Cx.Eu(X:Cx)(e:B5):Cx:={X with A:=X.A.mark (O e),calm:=F',xe:=λ_ _=>False}
def Inv.Eu(I:Inv X A' σ H s)(e:B5):Inv (X.Eu e) A' σ H s:=
 let ok:=I.ok
 ⟨⟨ok.mod,ok.kind,ok.glob,ok.blt,ok.above,ok.inj,ok.has,ok.cab,λz=>KB z Om,ok.frames,ok.stk,ok.exf,ok.bs,ok.bsz,ok.noex,ok.exfs,ok.jK,ok.frf⟩,I.os,I.bare,I.base,I.loc,I.cell,I.free,I.freeC,I.pin,I.hok,I.len⟩
def Inv.OC{e:B5}(ok:X.Ok)(I:Inv (X.Eu e) A' σ H s):Inv X A' σ H s:=⟨ok,I.os,I.bare,I.base,I.loc,I.cell,I.free,I.freeC,I.pin,I.hok,I.len⟩
def name_goes{M:abg}{E:B5->FM->Prop}{Q:aav->FM->Prop}(I:Inv X A' σ H s)(hN:X.N.Nodup)(K:X.N[i]? =O n)(J:X.env.kindOf n=O .local)(h:∀F,Inv X A' (σ.set i Y) H F->Q () F):
  Ki M A (do bindName X.env n .none;Xn X.env n pos) Q E s:=by
 obtain⟨m,P,hl⟩:=id I.loc
 have a:(X.env.scope.kind== .class||(X.env.scope.kind== .module&&X.env.locals !=X.env.globals))=F':=by rw[I.ok.kind];rfl
 have FX:=I.FX
 have l:i<σ.length:=by rw[I.len];exact(TK.mp K).1
 refine B1 (wpAny_bindName (aab J P (λh1 C B=>?_) a));unfold Xn;refine wpAny_onRaise ?_;unfold unbindName;refine B1 (aan (B1 ?_));unfold deleteName;simp only[J,a];rw[GM bp];refine B1 (wpAny_nsDel_keeps C λh2 v w u=>?_);simp only[Ww,aa1,Bool.not_true,US,Wp];refine GE (aan ?_);have f:=B.trans u;obtain⟨oL,_,_,a0,_⟩:=id P;refine h _ ⟨I.ok,I.os,I.bare,⟨λb o e n x r=>?_,λb o e n x r=>?_,I.base.free,λb o e r=>?_,I.base.tups,I.base.frzs,I.base.tbls⟩,⟨_,w,λj y v' g t S=>?_⟩,λy c e=>?_,I.free,I.freeC,λp T=>?_,λb ob e=>?_,by simpa using I.len⟩
 ·exact(f.2 b (Sy (SA (Gc e) I.ok.above))).trans (I.base.keep b o e n x r)
 ·obtain⟨V,g⟩:=I.base.slot b o e n x r;exact⟨V,(f.2 b (Sy (SA (Gc e) I.ok.above))).trans g⟩
 ·obtain⟨W,g⟩:=I.base.there b o e r;exact⟨W,(f.2 b (Sy (SA (Gc e) I.ok.above))).trans g⟩
 ·by_cases D:j=i
  ·subst D;rw[W9 l]at t
   cases t
  ·rw[Xy (SZ D)]at t;obtain⟨u',r',q⟩:=hl j y v' g t S;refine⟨u',r',?_⟩
   rcases q with⟨k,e⟩|⟨k,c,e,z⟩
   ·refine .inl ⟨k,?_⟩;have :y≠n:=λe=>D (qm hN g (e▸K));simp[this,e]
   ·exact .inr ⟨k,c,e,z.sameBut f (FX y c e)⟩
 ·obtain⟨R,z⟩:=I.cell y c e;exact⟨R,z.sameBut f (FX y c e)⟩
 ·obtain⟨e,n,G,nf,d⟩:=I.pin p T;exact⟨(f.2 p.1 G).trans e,n,G,nf,d⟩
 ·refine(I.hok b ob e).oQ (λc R hc q=>(f.2 c ?_).trans q) (λ_ q=>q) λ_ _ q=>q;rintro rfl
  rcases hc with rfl|hc
  ·rw[I.free]at e;cases e
  ·rw[I.free]at hc;cases hc
structure Cy(K:B0)(D:B4):Prop where
 cd:∃cd,Zw K D=O cd
 tp:YY K (.ref D) (.type "tuple")=O F'
 be:T3 K D (.type "BaseException")=O T'
noncomputable def NV(i:M')(D:Ends):Ends:={nx:=λσ H=>D.nx (σ.set i Y) H,rt:=λ_ _=>False}
section
variable{k:M'}{C2:B4}{fd:Ud}{y c2:Z}{yp apos np2 hp2:Pos}{t:TA}{T2:TS}{b2:SX}{su2:L SX}{iy:M'}
def zQ{T:TS}{b:SX}{m:L SX}{l:Pos}{g:B5}{s5:FM}{D:Ends}(p:X.N.Nodup)(o:X.N[i]? =O n)(h:X.env.kindOf n=O .local)(P:si (X.Eu (.ref a)) (b::m) T)(ok:X.Ok)(J:∀c:FM,c.gens=s5.gens->c.os=s5.os->TU B X.stack a (.ref C) g c.heap->s5.heap.UpToSlots c.heap->XD c.heap a od->Inv X A' σ (upd H' a (xh C a od)) c)(fl:TU B X.stack a (.ref C) g s5.heap)(xd:XD s5.heap a od)(q:T (NV i D) (σ.set i (O (.ref a))) (upd H' a (xh C a od))):
  UV (Pp X.prog X.w) (X.A.mark (O (.ref a))) (.handlers (.ref a) [.ExceptHandler Y (O n) (b::m) l] X.env) (λr s=>match r with
     | .ok f=>Ki (Pp X.prog X.w) X.A (do bindName X.env n .none;Xn X.env n l) (λ_ F=>SP X A' D f F) X.xe s
     | .error x=>cameBackBy (Pp X.prog X.w) X.A X.env X.xe x s) s5:=by
 refine codeAny_handlers_suite_as ?_;have go:Ki (Pp X.prog X.w) (X.A.mark (O (.ref a))) (setFlight (.ref a) Y) (λ_ c=>∃e,c={s5 with heap:=e}/\TU B X.stack a (.ref C) g e/\s5.heap.UpToSlots e) (λ_ _=>False) s5:=lands_againW fl λe j k=>⟨e,U,j,k⟩;refine SW (iV (gD _ _) xd go) (λ_ c z=>?_) λ_ _ z=>z.elim;obtain⟨⟨e,t,j,k⟩,y⟩:=z;subst t;have M:=(J {s5 with heap:=e} rfl U j k y).Eu (.ref a);refine qG (X:=X.Eu (.ref a)) (i:=i) (v:= .ref a) M p o (.inl h) U (λQ I=>?_) (.inr h);refine SW (P A' Q _ _ (NV i D) I q) (λfl R z=>?_) λ_ _ z=>z.elim
 cases fl with
 |next=>
  obtain⟨E,K,H,d⟩:=z;exact name_goes (H.OC ok) p o h λS G=>⟨_,K,G,d⟩
 |brk=>obtain⟨_,_,_,d⟩:=z;exact d.elim
 |cont=>obtain⟨_,_,_,d⟩:=z;exact d.elim
 |ret u=>obtain⟨_,_,_,_,_,d⟩:=z;exact d.elim
def HL{A:Hp}{r h j:T9}{R:B5}(un:Un (fz U') [] A H' r h)(x:jE P w H' h)(y:h.FunFrames B U')(S:H' a=Y)(s:∀b o,H' b=O o->∀k,h.get? b=O k->B.get? b=O k)(m:∀b k,r.get? b=O k->b∉fz U'->∃t,B.get? b=O t/\(A b=Y->t=k))(N:h.UpToSlots j)(fl:TU B U' a (.ref C) R j)(xd:XD j a od):
  Un (fz U') [] A (upd H' a (xh C a od)) r j/\jE P w (upd H' a (xh C a od)) j:=by
 obtain⟨oe,X,g,l,f,H⟩:=fl.first
 have E:∀o,r.get? a≠O o:=λo d=>by
  by_cases J:a∈fz U'
  ·obtain⟨_,M,I,Q⟩:=fl.2.2.1.mem J;rw[g]at I
   cases I
   exact Q _ f
  ·obtain⟨t,G,_⟩:=m a o d J;rw[fl.2.1]at G
   cases G
 have u:=vl un y m fl.1 N;have ok:=kE x s fl.1
 have i:∀{b:B4}{o:HO},H' b=O o->b≠a:=λ{b o} e z=>by rw[z,S]at e;cases e
 refine⟨⟨u.keep,u.slot,λb o d n T=>?_,u.there,λb F d=>?_,λb o K d=>?_,λb ps d=>?_⟩,λb o d=>?_⟩
 ·rw[ax (λz:b=a=>E o (by rw[<-z];exact d))];exact u.free b o d n T
 ·have z:=u.tups b F d;rw[ax (i z)];exact z
 ·have z:=u.frzs b o K d;rw[ax (i z)];exact z
 ·obtain⟨more,z⟩:=u.tbls b ps d;exact⟨more,by rw[ax (i z)];exact z⟩
 ·by_cases z:b=a
  ·subst z;rw[ag]at d
   cases d
   obtain⟨M,p,D⟩:=xd;rw[g]at p
   cases p
   exact Pl g l D.1 (by unfold Xs;rw[f])
  ·rw[ax z]at d
   exact(ok b o d).oQ (λc v V q=>q) (λc q=>by rw[ax (i q)];exact q) λc F q=>by rw[ax (i q)];exact q
end
def NQ(i:M')(C1:B4)(T1:TS)(D:Ends)(b:M'):XK:=λd od H'=>∀a,H' a=Y->d= .ref C1/\∀c:St,c.length=b->T1 (NV i D) (c.set i (O (.ref a))) (upd H' a (xh C1 a od))
def OV(i:M')(C1:B4)(tb:XK->TS)(T1:TS)(a:M'):TS:=λD σ H=>tb (NQ i C1 T1 D a) {nx:=D.nx,rt:=λ_ _=>False} σ H
def Inv.JV{a:L (B4×Obj)}(I:Inv {X with pn:=X.pn++A',xe:=xe} a σ H s):Inv X A' σ H s:=
 ⟨⟨I.ok.mod,I.ok.kind,I.ok.glob,I.ok.blt,I.ok.above,I.ok.inj,I.ok.has,I.ok.cab,I.ok.hd,I.ok.frames,I.ok.stk,I.ok.exf,I.ok.bs,I.ok.bsz,I.ok.noex,I.ok.exfs,I.ok.jK,I.ok.frf⟩,I.os,I.bare,I.base,I.loc,I.cell,I.free,I.freeC,λp b=>I.pin p (Ul _ b),I.hok,I.len⟩
def Inv.LD(I:Inv X A' σ H s):Inv {X with pn:=X.pn++A',xe:=xe} [] σ H s:=
 ⟨⟨I.ok.mod,I.ok.kind,I.ok.glob,I.ok.blt,I.ok.above,I.ok.inj,I.ok.has,I.ok.cab,I.ok.hd,I.ok.frames,I.ok.stk,I.ok.exf,I.ok.bs,I.ok.bsz,I.ok.noex,I.ok.exfs,I.ok.jK,I.ok.frf⟩,I.os,I.bare,I.base,I.loc,I.cell,I.free,I.freeC,λp a=>I.pin p (by simpa using a),I.hok,I.len⟩
noncomputable def xy(K:B0)(a:B4)(n:M'):It:=
 ⟨λi H=>∃b x,bu K H a b/\b.length=n/\i<n/\b[n-1-i]? =O x,λi H x H'=>H'=H/\∀b,bu K H a b->b[n-1-i]? =O x,λi H=>n<=i⟩
theorem FF(a j:B4)(n:M'):Turn P w K tg (xy K a n) [j] j (λi h=>i<=n/\h.IsRevIter j a ((n:J')-1-(i:J'))) where
 mem:=by simp
 obj:=λi h g b m=>by
  have e:b=j:=by simpa using m
  subst e;obtain⟨_,o,e,c,d⟩:=g;exact⟨o,e,λv z=>by rw[d]at z;cases z⟩
 keep:=λi h q g k=>⟨g.1,g.2.at λo e=>k j (by simp) o e⟩
 item:=by
  intro X G C t M i A' s σ H E I r g F;subst G C t;obtain⟨xs,x,Q,N,W,R⟩:=F;obtain⟨a1,rv,p,hz⟩:=I.list Q;obtain⟨u,hu,ru⟩:=rv.get R;obtain⟨D,f1,f2,A,B,J⟩:=r j (by simp)
  have y:(n:J')-1-(i:J')=((n-1-i:M'):J'):=by lia
  have f:=g.2;rw[y]at f;refine wpAny_pyNext_rev_item f p.isList (x:=u) (by simpa using hu) λq l V=>?_;have S:Inv X A' σ H {s with heap:=q}:=I.turned (t':=s.toks) (λb o m e=>(V.2 b m).trans e) D f1 A B J
  have T:((n-1-i:M'):J')-1=(n:J')-1-((i+1:M'):J'):=by lia
  rw[T]at l;obtain⟨o,e,c,d⟩:=id l;exact⟨u,U,wg (s:={s with heap:=q}) e c d bp ⟨x,H,S,ru,⟨U,λys hy=>by rw[I.mD hy Q];exact R⟩,⟨W,l⟩,λb m=>(r b m).1⟩⟩
 done:=by
  intro X G C t M i A' s σ H E I r g F;subst G C t;obtain⟨D,f1,f2,A,B,J⟩:=r j (by simp);have a0:n<=i:=F
  have y:(n:J')-1-(i:J')= -1:=by have :=g.1;lia
  have f:=g.2;rw[y]at f;exact wpAny_pyNext_rev_end (I.ok.hd M) f λq eb=>⟨U,I.turned (t':=s.toks) (λb o m e=>eb b o m e) D f1 A B J⟩
 self:=λ_ _ _ _ _ g h=>Xl g.2 h
def QX(K:B0)(ta:TA):TI:=λσ H R=>ta σ H λd c=>∃a b,d=[.ref a]/\bu K c a b/\R (xy K a b.length) c
def Nx{l:Expr}{ta:TA}(A:Gl X "reversed")(t:X.mg "reversed"=Y)(z:UI "reversed"=O (.type "reversed"))(v:PA X [l] ta)(n:P3 [l] X.env=[(F',eval l X.env)]:=by rfl):
  PI X tg (.Call (.Name "reversed" p) [l] [] pos) (QX X.K ta):=by
 intro A' s σ H R I h;refine aaB (ip I A t z (TL (cR (v pos A' s σ H _ I h) λF c ⟨G,k,f,m,r⟩=>?_) n U));obtain⟨a,i,g,C,q⟩:=r;subst g;obtain⟨u,g,w⟩:=vals1 m;subst g;obtain rfl:u=Kf a:=w;obtain⟨d,y,D,J⟩:=f.list C;have x:=y.length;refine aaQ D.isList ?_;have B:Inv X A' σ k {c with heap:=c.heap.push (ZU a ((d.toArray.size:J')-1))}:=f.kept (t':=c.toks) λb o e=>B7 _ e
 have j:Heap.IsRevIter (c.heap.push (ZU a ((d.toArray.size:J')-1))) c.heap.objs.size a ((i.length:J')-1-((0:M'):J')):=by
  refine⟨_,Ss _ U,U,?_⟩;rw[B8,<-x];simp[ZU]
 refine Xl j ⟨c.heap.objs.size,[c.heap.objs.size],_,_,k,U,B,FF a _ i.length,⟨Sm _,j⟩,λb E=>?_,q⟩
 have e:b=c.heap.objs.size:=by simpa using E
 subst e;exact f.oS (B9 _) (f.hok.fresh (B9 _))
theorem Kt{xs:L V}{g:TG}{tb:TS}{D:Ends}(b:M'->St->Hp->Prop)(u:b 0 σ H)(k:∀i σ H,i<=xs.length->b i σ H->bu K H a xs)(l:∀i x σ H,i<xs.length->xs[xs.length-1-i]? =O x->b i σ H->g x σ H λf h=>tb {D with nx:=b (i+1),ct:=b (i+1),bk:=D.nx} f h)(o:∀σ H,b xs.length σ H->D.nx σ H):
  ∃W:M'->M'->St->Hp->Prop,(∃m,W 0 m σ H)/\∀i m σ H,W i m σ H->
   ((xy K a xs.length).stop i H/\D.nx σ H)\/((xy K a xs.length).go i H/\∃N:St->Hp->Prop,(∀d H',N d H'->∃j,j<m/\W (i+1) j d H')/\∀x H',(xy K a xs.length).yld i H x H'->g x σ H' λf h=>tb {D with nx:=N,ct:=N,bk:=D.nx} f h):=by
 refine⟨λi m σ H=>m=xs.length-i/\i<=xs.length/\b i σ H,⟨xs.length,by simp,Sm _,u⟩,?_⟩;rintro i m σ H ⟨rfl,t,p⟩;have q:=k i σ H t p;by_cases c:i<xs.length
 ·have n:xs.length-1-i<xs.length:=by lia
  refine .inr ⟨⟨xs,xs[xs.length-1-i],q,U,c,by simp[n]⟩,b (i+1),λd H' s=>⟨xs.length-(i+1),aB,U,c,s⟩,λx H' y=>?_⟩;obtain⟨r,y⟩:=y;subst r;exact l i x σ _ c (y xs q) p
 ·have e:i=xs.length:=by lia
  subst e;exact .inl ⟨B9 _,o σ H p⟩
section
variable{CT:B4}
def Lg(hb:∀(E:XK)(pn:L (B4×Obj))(xe:B5->FM->Prop),Passes (cu X.prog X.w) {X with pn:=pn,xe:=xe} E->si {X with pn:=pn,xe:=xe} body (tb E))(hN:X.N.Nodup)(hi:X.N[i]? =O n)(hn:X.env.kindOf n=O .local)(g1:Gl X c1)(m1:X.mg c1=O (.ref C1))(D1:Cy X.K C1)(a2:T3 X.K CT (.ref C1)=O T')(a1:∀a,si (X.Eu (.ref a)) (b1::su1) T1)(o:X.stack=X.env::X.outer)(Q:X.env.frame=O X.env.locals)(G:(c1==("__debug__":Z))=F':=by decide):
  PS X (.Try body [.ExceptHandler (O (.Name c1 np1)) (O n) (b1::su1) hp1] [] [] tpos) (OV i CT tb T1 X.N.length):=by
 intro A' s σ H D I h;refine abn ?_
 have m:=hb (NQ i CT T1 D X.N.length) (X.pn++A') (λe d=>∃c H1 y,Inv X A' c H1 y/\cu X.prog X.w X.stack H1 y (NQ i CT T1 D X.N.length) e d)
  (λa0 c H' y e s' V hq=>⟨c,H',y,V.JV,hq⟩) [] s σ H _ I.LD h
 refine SW m (λf d z=>?_) (λev d z=>?_)
 ·cases f with
  |next=>
   obtain⟨c,H',V,q⟩:=z;exact VG ⟨c,H',V.JV,q⟩
  |brk=>obtain⟨_,_,_,F⟩:=z;exact F.elim
  |cont=>obtain⟨_,_,_,F⟩:=z;exact F.elim
  |ret u=>obtain⟨_,_,_,_,_,F⟩:=z;exact F.elim
 ·obtain⟨c,H1,y,I1,z⟩:=z;obtain⟨a,t,k,od,B,H',rfl,os,r,un,a4,fl,xd,na,S,a6,q⟩:=z
  have fr:X.A.frames=O (X.env::X.outer):=by rw[<-o];exact I.ok.frames
  have a3:TU B (X.env::X.outer) a k (.ref t) d.heap:=by rw[<-o];exact fl
  have T:Ki (Pp X.prog X.w) X.A (noteFrame (.ref a) X.env) (λ_ s4=>∃j,s4={d with heap:=j}/\aa5 B (X.env::X.outer) a k (.ref t) X.env.locals j/\d.heap.UpToSlots j) (λ_ _=>False) d:=Yx fr Q a3 λj f4 u4=>⟨j,U,f4,u4⟩;refine SW (iV (mW _ _) xd T) (λ_ s4 z=>?_) λ_ _ z=>z.elim;obtain⟨⟨j,e4,f4,u4⟩,x4⟩:=z;subst e4;have a5:Ki (Pp X.prog X.w) X.A (setFlight (.ref a) Y) (λ_ s5=>∃g,s5={d with heap:=g}/\TU B (X.env::X.outer) a k (.ref t) g/\j.UpToSlots g) (λ_ _=>False) {d with heap:=j}:=ZR (s:={d with heap:=j}) f4 λg p u5=>⟨g,U,p,u5⟩;refine SW (iV (s:={d with heap:=j}) (gD _ _) x4 a5) (λ_ s5 z=>?_) λ_ _ z=>z.elim;obtain⟨⟨g,e5,p,u5⟩,x5⟩:=z;subst e5;have us:d.heap.UpToSlots g:=u4.trans u5;rw[<-o]at p
  have J:∀(C:B4),k= .ref C->∀l:FM,l.gens=d.gens->l.os=d.os->TU B X.stack a (.ref C) (.ref t) l.heap->g.UpToSlots l.heap->XD l.heap a od->Inv X A' c (upd H' a (xh C a od)) l:=λC eC l eg eo f6 u6 x6=>by
   obtain⟨M,q2⟩:=HL (P:=X.prog) (w:=X.w) un a4 fl.2.2.1 na S a6 (us.trans u6) f6 x6;exact I1.mj (s':=l) (ch:=[]) (eo.trans os) M q2 (by rw[eg];exact r) (λb z=>KB z (by simp))
  obtain⟨oe,ws,R,v,a8,a7⟩:=p.first;obtain⟨a9,x⟩:=D1.cd;obtain⟨rfl,M⟩:=q a na;have J5:=J CT U {d with heap:=g} rfl U p (aaL _) x5;refine aaC (aae (iE (X:=X.Eu (.ref a)) (J5.Eu _) g1 m1 ?_ G)) (by intro q;cases q);refine tT (s:={d with heap:=g}) J5.jG R v x D1.tp D1.be a2 ?_;exact zQ (s5:={d with heap:=g}) hN hi hn (a1 a) I.ok (J CT U) p x5 (M c I1.len)
def AI(K:B0):L V->Hp->VK->Prop:=λd H Q=>∃(a C:B4)(T:UP)(od:O' B4)(b:Tq),d=[.ref a,.ty T]/\H a=O (xh C a od)/\(∀c,od=O c->∃fs,H c=O (.xd fs))/\vM K C/\TX K (.ref C) (.type T)=O b/\Q (.bl b) H
def sx:e_ X (.builtin "isinstance") (AI X.K):=by
 intro A' s σ H B D Q I r h;obtain⟨a,C,T,od,b,d,m,n,t,y,q⟩:=h;subst d;obtain⟨u,v,c,l,w⟩:=vals2 r;subst c;obtain rfl:u=Kf a:=l;obtain rfl:v=VN T:=w;obtain⟨o,d,g,c,j⟩:=Gm I.hok m
 have p:∃k od,Xv s.heap a k C od:=by
  cases od with
  |none=>exact⟨o,Y,d,g,j,by rw[c];exact T8⟩
  |some i=>
   obtain⟨fs,f⟩:=n i U;obtain⟨x,e⟩:=(I.hok i _ f).ex;exact⟨o,O x,d,g,j,by rw[c];exact e⟩
 exact TY (wU t) I.jG p y (λz=>nomatch z) λA=>⟨.bl b,H,I.tok A,U,q⟩
end
end L2
namespace PySem
variable{A:UU}{prog:To}{s:FM}{w:TV}
namespace DT
section
variable{R:YW->FM->Prop}{I:B4}{fp wr:L B4}{n:M'}{P:M'->B5->Prop}{St:M'->T9->Prop}
theorem Ct(W:Walks prog w A.in1 I fp wr n P St)(z:M'->M'->Tq)(E:CmpOf prog w A.in1 .Gt P z)(dv:B5)(S:B4)(C:S∉fp):
  ∀(k j:M')(s:FM)(p:B5)(c:M'),n-(j+1)=k->j+1<=n->St (j+1) s.heap->P (XF z j) p->
  s.heap.get? S=O {cls:= .type "list",dict:=Y,data:= .seq #[p,p] c,slots:=#[]}->
  (∀v H K,P (XF z (n-1)) v->(∀b o,b∉wr->b≠S->s.heap.get? b=O o->H.get? b=O o)->R (.ok (.ret v)) {s with heap:=H,toks:=K})->
  UV (Pp prog w) A (.builtin "max.loop" ⟨[.ref I,.none,.ref S],[(Ua "default",dv)]⟩) R s:=by
 have B:S∉wr:=λh=>C (W.sub _ h)
 have l:(toString "max"++toString ".loop":UP)="max.loop":=by decide
 intro k
 induction k with
 |zero=>
  intro j s p c X hj t q G J
  have D:j+1=n:=by lia
  refine Wh W0 ?_;rw[Wg Ux _];show Ki _ A.in1 (XC (.ref S) >>= _) _ _ s;refine B1 (Vh G U ?_);show Ki _ A.in1 (tryCatch (pyNext (.ref I)) _ >>= _) _ _ s;refine B1 (Wm (W.done s _ _ (D▸t) λH K d=>?_));have g:=d S _ B G;show Ki _ A.in1 (Yo S (λ_=>#[]) >>= _) _ _ _;refine B1 ?_;refine VD g U (B1 (Wv (GE ?_)));refine J p _ K (by rw[<-D];exact q) λb o a f e=>(Th _ _ (SZ f)).trans (d b o a e)
 |succ k Q=>
  intro j s p c X hj t q G J
  have x:j+1<n:=by lia
  refine Wh W0 ?_;rw[Wg Ux _];show Ki _ A.in1 (XC (.ref S) >>= _) _ _ s;refine B1 (Vh G U ?_);show Ki _ A.in1 (tryCatch (pyNext (.ref I)) _ >>= _) _ _ s;refine B1 (Wm (W.item (j+1) s _ _ x t λv H K T r d=>?_));have g:=d S _ B G;show Ki _ A.in1 (tryCatch (ZV [v,v] (richCompare .Gt v p >>= _)) _ >>= _) _ _ _;refine B1 (Wm (Uh (B1 (E (j+1) (XF z j) v p _ _ _ T q ?_))));refine B1 (Uh (T_ ?_));refine B1 (Wv (GE ?_))
  cases V:z (j+1) (XF z j)with
  |true=>
   simp only[Ww];refine B1 ?_;refine VD g U (B1 (Wv ?_));rw[l]
   refine GE ⟨VB Ux _,Q (j+1) _ v _ aB x (W.frame _ _ _ r λb N o e=>?_) (by simp only[XF,V,Ww];exact T) (Tj _ g U)
    λM y m u i=>?_⟩
   ·exact(Th _ _ (λh:S=b=>C (by rw[h];exact N))).trans e
   ·exact J M y m u λb o a f e=>i b o a f ((Th _ _ (SZ f)).trans (d b o a e))
  |false=>
   simp only[US,Wp];refine B1 (Wv ?_);rw[l];refine GE ⟨VB Ux _,Q (j+1) _ p c aB x r (by simp only[XF,V,US,Wp];exact q) g λM y m u i=>?_⟩;exact J M y m u λb o a f e=>i b o a f (d b o a e)
def yR(W:Walks prog w A.in1 I fp wr n P St)(q:M'->M'->Tq)(j:CmpOf prog w A.in1 .Gt P q)(B:B5)(S:B4)(a:S∉fp)(E:0<n){c:M'}(t:St 0 s.heap)(C:s.heap.get? S=O {cls:= .type "list",dict:=Y,data:= .seq #[] c,slots:=#[]})(G:∀v u D,P (XF q (n-1)) v->(∀b o,b∉wr->b≠S->s.heap.get? b=O o->u.get? b=O o)->R (.ok (.ret v)) {s with heap:=u,toks:=D}):
  UV (Pp prog w) A (.builtin "max.loop" ⟨[.ref I,.none,.ref S],[(Ua "default",B)]⟩) R s:=by
 have r:S∉wr:=λh=>a (W.sub _ h)
 have d:(toString "max"++toString ".loop":UP)="max.loop":=by decide
 refine Wh W0 ?_;rw[Wg Ux _];show Ki _ A.in1 (XC (.ref S) >>= _) _ _ s;refine B1 (Vh C U ?_);show Ki _ A.in1 (tryCatch (pyNext (.ref I)) _ >>= _) _ _ s;refine B1 (Wm (W.item 0 s _ _ E t λv u D J k p=>?_));have i:=p S _ r C;show Ki _ A.in1 (Yo S (λ_=>#[v,v]) >>= _) _ _ _;refine B1 ?_;refine VD i U ?_;rw[d];refine GE ⟨VB Ux _,Ct W q j B S a _ 0 _ v _ U E (W.frame _ _ _ k λb x o e=>?_) J (Tj _ i U) λH z g y l=>?_⟩
 ·exact(Th _ _ (λh:S=b=>a (by rw[h];exact x))).trans e
 ·exact G H z g y λb o f m e=>l b o f m ((Th _ _ (SZ m)).trans (p b o f e))
end
def DY(a b:B5):argsOk "max" ⟨[a],[(Ua "default",b)]⟩:=by unfold argsOk;kernel_rfl
section
variable{E:B5->FM->Prop}{l:B4}
def vP{a:Us (J'×Tok)}{m:B5}{Q:B5->FM->Prop}(I:A.handled=Y)(G:s.heap.IsList l (YR a))(M:a.size=0->∀c f,(∀b o,s.heap.get? b=O o->c.get? b=O o)->Q m {s with heap:=c,toks:=f})(h:∀v c f,0<a.size->(YR a)[XF (λi j=>decide (numAt a i>numAt a j)) (a.size-1)]? =O v->(∀b o,s.heap.get? b=O o->c.get? b=O o)->Q v {s with heap:=c,toks:=f}):
  Ki (Pp prog w) A (call (.builtin "max") [.ref l] [(Ua "default",m)]) Q E s:=by
 have k:(toString "max"++toString ".loop":UP)="max.loop":=by decide
 refine PyProof.Rows.kmk_tree PySem.F.kind_max PySem.F.plain_max PySem.F.entry_max (DY _ _) ?_;show Ki _ A.in1 (YO "max" ["key","default"] 0 ⟨[],[(Ua "default",m)]⟩ >>= _) _ _ s;refine B1 (aao (show YO "max" ["key","default"] 0 ⟨[],[(Ua "default",m)]⟩=pure [Y,O m]from U) ?_);refine B1 (GE ?_);refine B1 (iter_intList G λz e H r t=>?_);subst e;refine B1 (Wu ?_);have x:(s.heap.push {cls:= .type "list_iterator",data:= .fields #[.ref l,.int 0 0]}).objs.size∉[s.heap.objs.size,l]:=λu=>TR _ (r _ u);rw[k];have W:=Walks.list (prog:=prog) (w:=w) (A:=A.in1) I s.heap.objs.size l t (YR a)
 have d:(YR a).size=a.size:=by simp[YR]
 generalize K:s.heap.push {cls:= .type "list_iterator",data:= .fields #[.ref l,.int 0 0]}=g at *
 have q:∀b o,s.heap.get? b=O o->g.get? b=O o:=λb o e=>by rw[<-K];exact B7 _ e
 have n:=W.frame 0 g (g.push {cls:= .type "list",data:= .seq ([]:L B5).toArray}) H λb _ o e=>B7 _ e;have p:(g.push {cls:= .type "list",data:= .seq ([]:L B5).toArray}).get? g.objs.size=O {cls:= .type "list",dict:=Y,data:= .seq #[] 0,slots:=#[]}:=Ss _ U
 have C:∀b o,s.heap.get? b=O o->b∉[s.heap.objs.size]:=λb o e u=>by
  rw[Dk.mp u]at e;exact KB (Gc e) (TR _)
 rcases Nat.eq_zero_or_pos a.size with B|hp
 ·refine GE ⟨VB Ux _,Wh W0 ?_⟩;rw[Wg Ux _];show Ki _ _ (XC (.ref g.objs.size) >>= _) _ _ _;refine B1 (Vh p U ?_);show Ki _ _ (tryCatch (pyNext (.ref s.heap.objs.size)) _ >>= _) _ _ _;rw[d,B]at W;refine B1 (Wm (W.done {s with heap:=g.push {cls:= .type "list",data:= .seq ([]:L B5).toArray}} _ _ n λc f y=>?_));refine B1 (YQ (GE ?_));exact M B c f λb o e=>y b o (C b o e) (B7 _ (q b o e))
 ·refine GE ⟨VB Ux _,yR (s:={s with heap:=g.push {cls:= .type "list",data:= .seq ([]:L B5).toArray}}) W _ (CmpOf.ints_gt (numAt a) (λ_ _=>intItems_at)) m g.objs.size x (by rw[d];exact hp) n p λv c f D J=>?_⟩;rw[d]at D;exact h v c f hp D λb o e=>J b o (C b o e) (Sy (Gc (q b o e))) (B7 _ (q b o e))
end
end DT
end PySem
namespace L2
open PySem PySem.Spec PyProof.Rows
variable{X:Cx}{pos:Pos}{x:Z}{r:R2}{st:SX}
def LO(K:B0):L V->L V->Hp->VK->Prop:=λc e H Q=>∃(p:B4)(a:L J')(d:J'),c=[.ref p]/\e=[.int d]/\bu K H p (a.map V.int)/\∀M:J',(a=[]->M=d)->(a≠[]->M∈a/\∀b∈a,b<=M)->Q (.int M) H
theorem DJ{y:L (B4×Obj)}{σ:St}(N:X.calm=T'){s:FM}{H:Hp}{k x:L V}{o B:L B5}{Q:VK}(I:Inv X y σ H s)(r:Vals k o)(P:Vals x B)(h:LO X.K k x H Q):
  Ki (Pp X.prog X.w) X.A (call (.builtin "max") o ([Ua "default"].zip B)) (EP X y σ Q) X.xe s:=by
 obtain⟨p,C,d,G,c,hS,q⟩:=h;subst G c;obtain⟨u,c,W⟩:=vals1 r;subst c;obtain rfl:u=Kf p:=W;obtain⟨v,c,g⟩:=vals1 P;subst c;obtain⟨F,rfl⟩:=g;obtain⟨R,S,pl,hz⟩:=I.list hS;have m:=intsAre_of S;obtain⟨e,l⟩:=m.allInts.items
 have i:C=e.toList.map (·.1):=by rw[<-m.numsOf,<-nums_intItems,<-l]
 have D:=pl.isList;rw[l]at D
 have a:C.length=e.size:=by rw[i,AC,SG]
 refine PySem.DT.vP (I.ok.hd N) D (λhz J tk f=>?_) λv J tk hs T f=>?_
 ·exact⟨.int d,H,I.kept f,⟨F,U⟩,q d (λ_=>U) λz=>KB (S0 aB) z⟩
 obtain⟨t,E⟩:=intItems_at T;subst E;obtain⟨g1,g2⟩:=argBest_gt (numAt e) (e.size-1);refine⟨.int _,H,I.kept f,⟨t,U⟩,q _ (λz=>?_) λ_=>⟨?_,λb n=>?_⟩⟩
 ·rw[z]at a;simp at a
  lia
 ·rw[i,numAt_eq];exact getD_mem (by rw[AC,SG];lia)
 ·rw[i]at n;obtain⟨j,hj,M⟩:=mem_getD n;subst M;rw[AC,SG]at hj;rw[<-numAt_eq];exact g2 j aB
def QD(K:B0)(a b:TA):TE:=λσ H Q=>a σ H λf d=>b σ d λc e=>LO K f c e Q
def IX{l:Expr}{a:L WC}{f g:TA}{p:Pos}(u:X.calm=T')(q:Gl X "max")(o:X.mg "max"=Y)(r:PA X [l] f)(n:PK X a g)(d:(Vc pos (Ut a X.env)).filterMap (·.1)=[Ua "default"]:=by rfl)(v:UJ pos (P3 [l] X.env)=(F',eval l X.env)::UJ pos (P3 [] X.env):=by rfl)(c:(UJ pos (P3 [l] X.env)).any (·.1)=F':=by rfl)(b:(Vc pos (Ut a X.env)).all (·.1.isSome)=T':=by rfl)(e:(Vc pos (Ut a X.env)).any (·.1.isNone)=F':=by rfl):
  PE X (.Call (.Name "max" p) [l] a pos) (QD X.K f g):=by
 intro i s σ H Q I h;refine Uv (ip I q o aag (wk (cR (r pos i s σ H _ I h) λC y ⟨F,w,k,j,m⟩=>cR (n pos i y σ w _ k m) λE A ⟨D,B,t,x,z⟩=>?_) v c b e));rw[d];exact DJ u t j x z
theorem EI:e_ X (.builtin "len") (λf H Q=>∃(a:B4)(c:L (Key×V)),f=[.ref a]/\Rd H a (.dK c)/\Q (.int c.length) H):=by
 intro n s σ H f m Q I r h;obtain⟨a,c,e,d,q⟩:=h;subst e;obtain⟨u,g,i⟩:=vals1 r;subst g;obtain rfl:u=Kf a:=i;obtain⟨z,k,o,b,dd⟩:=lg I.hok d;have l:=lC;have p:sizeLine=16777216:=U6;have j:=b.length;refine call_len_dict k dd aB ?_;rw[<-j];exact⟨.int _,H,I.tok _,⟨_,U⟩,q⟩
section
variable{es:L Expr}{env:Env}
def xk{a k p}:P3 (Expr.Constant a k p::es) env=(F',eval (Expr.Constant a k p) env)::P3 es env:=rfl
def xl{a p}:P3 (Expr.Name a p::es) env=(F',eval (Expr.Name a p) env)::P3 es env:=rfl
end
structure Ds(X:Cx)(e:Expr)(t:TE):Prop where
 out:PE X e t
structure P9(X:Cx)(e:L Expr)(t:TA):Prop where
 out:PA X e t
structure QI(X:Cx)(e:SX)(t:TS):Prop where
 out:PS X e t
structure Kg(X:Cx)(e:L SX)(t:TS):Prop where
 out:si X e t
def r_(i:M')(b:X.N[i]? =O x:=by rfl)(d:QN X.env.scope x:=by first|exact Te U|exact Y3 (Te U)|exact Y3 (Y3 U))(c:(x==("__debug__":Z))=F':=by decide)(a:(x==("__classdict__":Z))=F':=by decide):Ds X (.Name x pos) (eA i):=⟨pv i b d c a⟩
def aF{x j pos}:Ds X (.Constant (.str x) j pos) (tC (.str x)):=⟨ak⟩
def cV(h:P9 X es t):Ds X (.List es pos) (sN t):=⟨bt h.out⟩
def dW{c:Operator}(f:je X (binaryOp c) r)(e:Ds X a ta)(d:Ds X b tb):Ds X (.BinOp a c b pos) (ix r ta tb):=⟨aE f e.out d.out⟩
def Et{r:L V->Hp->VK->Prop}{c:UP}(f:e_ X (.builtin c) r)(d:Gl X x)(j:X.mg x=Y)(h:UI x=O (.builtin c))(k:P9 X (e::es) t)(i:x≠"__name__":=by decide)(a:(x==("__debug__":Z))=F':=by decide)(g:P3 (e::es) X.env=(F',eval e X.env)::P3 es X.env:=by first|exact star_tup|exact xk|exact xl|exact star_bin|exact star_lst|exact star_un|exact star_cal|exact star_sub|rfl)(b:(UJ pos (P3 es X.env)).any (·.1)=F':=by rfl):Ds X (.Call (.Name x p) (e::es) [] pos) (wN r t):=⟨aI f d j h k.out i a g b⟩
def My(e:Ot X r)(f:Ds X a ta)(c:Ds X b tb)(d:pk b):Ds X (.Subscript a b pos) (ix r ta tb):=⟨jD e f.out c.out d⟩
def cY{i:M'}{e:Expr}{b:TE}{a:Pos}(c:X.N.Nodup)(d:X.N[i]? =O x)(j:Loc X.env.scope x)(f:Ds X e b)(h:VP e (O (.Name x a)) pos.line X.env=pure F':=by rfl)(g:X.fn x=T'\/X.env.scope.names.lookup x=O .local:=by first|exact .inl U|exact .inr U|assumption):QI X (.Assign [.Name x a] e pos) (lO b (eY i)):=⟨zV c d j f.out h g⟩
def JL(a:Ds X e te):QI X (.Return (O e) pos) (sf te):=⟨ar a.out⟩
def bN{rest:L SX}(a:QI X st t)(b:Kg X rest u):Kg X (st::rest) (Es t u):=⟨ah a.out b.out⟩
def Fq(a:QI X st t):Kg X [st] t:=⟨ai a.out⟩
def cS:P9 X [] dc:=⟨eO⟩
def aA(c:Ds X e te)(b:P9 X es t)(a:P3 (e::es) X.env=(F',eval e X.env)::P3 es X.env:=by first|exact star_tup|exact xk|exact xl|exact star_bin|exact star_lst|exact star_un|exact star_cal|exact star_sub|rfl):P9 X (e::es) (aY te t):=⟨bj c.out b.out a⟩
def c_.Se{P:To}{w:TV}{K:B0}{m:Z->O' B5}{l:T9}{e:Z}{f:B4}{j:Ud}{N i:L Z}{k:M'}{g:Sp}(F:c_ K x e st f j)(S:ay N i (aj st))(len:∀b H Q E,g b H Q E->b.length=i.length)(a:∀(c:B5)(A:UU)(d:L Env)(s:FM)(H:Hp)(b:L V)(Q:VK)(E:XK),gk k (A.deeper (envOfC e (aj st) s.heap.objs.size f c))->g b H Q E->
   ∃t,Kg (aT dz P w K m l N e (aj st) f c A d s H E).Mh (fE st) t/\t {nx:=λ_ o=>Q .non o,rt:=Q} (start N b) H):aS P w K m l dz (k+1) f j i g:=
 F.ok S len λc A d s H b Q E q h=>by
  obtain⟨t,⟨n⟩,p⟩:=a c A d s H b Q E q h;exact⟨t,n,p⟩
open PySem.W
noncomputable def gx(z:Z)(b a:O' J'):Z:=if(Tn b a 1 z.length).length==z.length then z else⟨((Tn b a 1 z.length).filterMap (z.cps[·]?)).toArray⟩
def kX(z:Z)(b a:O' J'):(gx z b a).length<=z.length:=by
 unfold gx
 split
 ·exact B9 _
 ·show((Tn b a 1 z.length).filterMap (z.cps[·]?)).toArray.size<=_;rw[B8];exact Tf (ZA _ _) (sliceIndices_le _ _ _)
def QY:V->O' J'->O' J'->Hp->VK->Prop:=λx a b H Q=>∃z,x= .str z/\z.length<=sizeLine/\Q (.str (gx z a b)) H
def ph:Ra X QY:=by
 intro G s σ H x v D J b d E Q I j C y r h;obtain⟨z,g,B,q⟩:=h;subst g;obtain⟨t,e⟩:=(show∃t,v=Uj z t from j);subst e;refine⟨"str",_,F.slot_str_getitem.lookup,VL s z t,?_⟩
 have a:∀{v:B5}{o:O' J'},IsPart v o->∃l:O' (J'×Tok),v=partValue l/\l.map (·.1)=o:=λ{v o} p=>by
  cases p with
  |none=>exact⟨Y,U,U⟩
  |int i t=>exact⟨O (i,t),U,U⟩
 obtain⟨l,k,m⟩:=a y;obtain⟨u,f,A⟩:=a r;subst k f;refine wpAny_getItem_str_slice (l:=l) (u:=u) (st:=Y) C U ?_;have le:=kX z b d
 have n:slicePicked z l u Y=Tn b d 1 z.length:=by unfold slicePicked;rw[m,A];rfl
 unfold sliceMade;rw[n];unfold gx at q le;by_cases c:((Tn b d 1 z.length).length==z.length)=T'
 ·rw[KF (by rw[c];rfl)];rw[KF c]at q;exact⟨.str z,H,I,⟨t,U⟩,q⟩
 ·rw[GM (by intro w;exact c (by simpa using w))];rw[GM c]at q le;exact⟨Tf le B,.str _,H,I.tok _,⟨_,U⟩,q⟩
theorem vK(x:Us M'):∀(n:M')(a:Us M'),((TZ n x).foldl (·++·) a).size=a.size+n*x.size
 |0,a=>by simp
 |n+1,a=>by
  rw[aaI,Xg,vK x n,Array.size_append,Ya]
  lia
noncomputable def oo(z:Z)(n:M'):Z:=⟨(TZ n z.cps).foldl (·++·) #[]⟩
def jM(z:Z)(n:M'):(oo z n).length=n*z.length:=by
 show((TZ n z.cps).foldl (·++·) #[]).size=_;rw[vK];show 0+_=_;rw[X_];rfl
def P7:R2:=λx y H Q=>∃(z:Z)(n:M'),x= .str z/\y= .int n/\n<=1000/\1<=z.length/\z.length<=1000/\Q (.str (oo z n)) H
theorem Ba:je X (binaryOp .Mult) P7:=by
 intro C s σ H x y v u Q I o d h;obtain⟨z,n,l,f,i,D,g,k⟩:=h;subst l f;obtain⟨t,rfl⟩:=o;obtain⟨B,rfl⟩:=d;have j:z.length*n<=1000*1000:=Xw g i
 have b:((n:J')).toNat=n:=by lia
 refine P.mul_str ?_ (λA _=>?_) (λ_ _=>?_) ?_
 ·have m:¬(n:J')< -(2^63:J'):=by lia
  have r:¬(n:J')≥2^63:=by lia
  rw[GT m,GT r];rfl
 ·have q:(9223372036854775:J')<=(2^63-1)/(n:J'):=by
   rw[Int.le_ediv_iff_mul_le aB]
   lia
  lia
 ·rw[b];show decide (z.length*n>sizeLine)=F';exact GT (by rw[U6];lia)
 ·by_cases a:(n:J')<1
  ·rw[KF a]
   have :n=0:=by lia
   subst this;exact⟨bp,.str _,H,I.tok _,⟨_,U⟩,k⟩
  ·rw[GM a];by_cases c:((n:J')==1||z.length==0)=T'
   ·rw[KF c];rw[Xh]at c
    rcases c with c|c
    ·have :(n:J')=1:=by simpa using c
     have :n=1:=by lia
     subst this;refine⟨.str z,H,I,⟨t,U⟩,?_⟩
     have e:oo z 1=z:=by
      show(⟨#[]++z.cps⟩:Z)=z;rw[Array.empty_append]
     rw[e]at k;exact k
    ·have :z.length=0:=by simpa using c
     lia
   ·rw[GM c,b];refine⟨?_,.str _,H,I.tok _,⟨_,U⟩,k⟩;show(List.foldl (λp w=>p++w) #[] (TZ n z.cps)).size<=_;rw[vK];show 0+n*z.cps.size<=sizeLine;have e:z.cps.size*n<=1000*1000:=j;rw[U6,Nat.mul_comm]
    lia
end L2
namespace L2
open PySem PySem.Spec PyProof.Rows
def tuple_addW0(l b:B4)(a c:Us B5)(n o:M')(dd e:O' B4)(k f:Us (O' B5))(m:a.isEmpty=T'):
  Meets (Builtin.«tuple.__add__» ⟨[.ref l,.ref b],[]⟩) (λ_ R s=>s.heap.get? l=O {cls:= .type "tuple",dict:=dd,data:= .seq a n,slots:=k}/\s.heap.get? b=O {cls:= .type "tuple",dict:=e,data:= .seq c o,slots:=f}/\R (.ok (.ret (Kf b))) {s with heap:=s.heap,toks:=s.toks}):=
 .of_wp λi w A R s h=>by obtain⟨q,g,d,v,r⟩:=s;obtain⟨j,p,h⟩:=h;have f1:=AutoSeq1.idx_int;have f2:=AutoSeq1.sub_tuple_tuple;have t:=AutoSeq1.sub_list_list;have u:=AutoSeq1.sub_tuple_list;have x:=AutoSeq1.sub_list_tuple;wp_walk using VE j,VE p;exact⟨_,U,h⟩
variable{X:Cx}
def Nu(K:B0):R2:=λx y H Q=>∃a b c,x= .ref a/\y= .ref b/\bq K H a []/\bq K H b c/\Q (.ref b) H
def FY:je X (binaryOp .Add) (Nu X.K):=by
 intro N s σ H x y v u Q I B r h;obtain⟨a,b,M,rfl,rfl,J,G,q⟩:=h
 cases B
 cases r
 obtain⟨C,t,D,_⟩:=I.tuple J;obtain⟨m,P,z,_⟩:=I.tuple G
 cases t
 obtain⟨⟨E,dd,p,w⟩,o,j,n,l⟩:=id D;obtain⟨⟨k,f,i,g⟩,c,d,A,e⟩:=id z;simp only at j l d e;subst j l d e
 exact ZW ⟨_,o,U⟩ ⟨_,c,U⟩ Yp Zu W6 WX (WL _ _)
   (tuple_addW0 a b _ _ n A dd f w g U) ⟨o,c,⟨.ref b,H,I,U,q⟩⟩
def LN(K:B0):R2:=λx y H Q=>∃a b c d,x= .ref a/\y= .ref b/\bq K H a c/\bq K H b d/\c.length+d.length<=sizeLine/\(c=[]->Q (.ref b) H)/\(c≠[]->d=[]->Q (.ref a) H)/\(∀p,H p=Y->Q (.ref p) (upd H p (.tup (c++d))))
def JY:je X (binaryOp .Add) (LN X.K):=by
 intro j s σ H x y v u Q I i c h;obtain⟨a,b,d,f,rfl,rfl,g,k,o,n,l,m⟩:=h;by_cases e:d=[]
 ·subst e;exact FY j s σ H _ _ v u Q I i c ⟨a,b,f,U,U,g,k,n U⟩
 ·exact BZ j s σ H _ _ v u Q I i c ⟨a,b,d,f,U,U,g,k,e,o,l e,λ_=>m⟩
open PySem.W
noncomputable def Pt(a:L (Key×V)):It:=
 ⟨λi _=>i<a.length,λi H x b=>∃p k v,x= .ref p/\H p=Y/\a[i]? =O (k,v)/\b=upd H p (.tup [kV k,v]),λi _=>a.length<=i⟩
variable{K:B0}{P:To}{a:B4}{ep kk:M'}{es:L Expr}{K':L (Key×V)}{w:TV}
theorem yx{pt:Pos}{d:B4}{o:Obj}{D:L (Key×B5)}(Q:K.lookup a=O o)(m:KV K' D)(da:∀h:T9,h.get? a=O o->h.DictAt (bx P w) a D ep):
  Turn P w K (.Tuple es kk pt) (Pt K') [d] d (λi h=>∃ok f,IsItemIter h d a i D.length ep ok f) where
 mem:=by simp
 obj:=λi h b c u=>by
  obtain⟨ok,f,b⟩:=b
  cases(Dk.mp u)
  exact⟨_,b,λv q=>by cases q⟩
 keep:=λi h S b kk=>by
  obtain⟨ok,f,b⟩:=b;exact⟨ok,f,kk d (by simp) _ b⟩
 item:=by
  intro X J C B u i W s σ H E I y b G;subst J C B;obtain⟨ok,f,b⟩:=b;have T:i<K'.length:=G;obtain⟨⟨k,x⟩,hx⟩:∃p,K'[i]? =O p:=⟨K'[i],by simp[T]⟩;obtain⟨v,hv,rv⟩:=Q8 m hx;have M:=I.jG a o Q;refine wpAny_pyNext_items_item b (da _ M) hv λt S r l j a0 kp=>⟨_,U,?_⟩;refine wpAny_letOwnedTupleGo_items l λg2 n R=>?_;have V:d<s.heap.objs.size:=Gc b;have nT:H s.heap.objs.size=Y:=I.fresh;have N:g2.get? s.heap.objs.size=O {cls:= .type "tuple",data:= .seq #[t,v]}:=(R.2 _ (VW V)).trans j
  have I1:Inv X W σ (upd H s.heap.objs.size (.tup [kV k,x])) {s with heap:=g2,toks:=s.toks}:=by
   refine I.nM (t':=s.toks) (ch:=[d]) (λc o g q=>?_) y (B9 _) ⟨?_,[t,v],.cons (L1 r) (.cons rv .nil),⟨_,N,U,0,U⟩⟩
   ·have e:c≠d:=λz=>g (by simp[z]);exact(R.2 c e).trans (kp c o e q)
   ·show 2<=sizeLine;decide
  refine⟨.ref s.heap.objs.size,_,I1,U,⟨_,k,x,U,nT,hx,U⟩,⟨_,_,n⟩,λc g=>?_⟩;have e:=(y c g).1
  cases(Dk.mp g)
  rw[ax (Sy V)];exact e
 done:=by
  intro X J C B u i W s σ H E I y b G;subst J C B;obtain⟨ok,f,b⟩:=b;have T:K'.length<=i:=G;have M:=I.jG a o Q;have el:=m.length;refine wpAny_pyNext_items_end (I.ok.hd u) b (da _ M) (List.getElem?_eq_none_iff.mpr aB) λS kp=>⟨U,I.BG (t':=s.toks) (ch:=[d]) (λc o g q=>?_) y⟩;exact kp c o (λz=>g (by simp[z])) q
 self:=λ_ _ _ _ _ b h=>by
  obtain⟨ok,f,b⟩:=b;have A:Shared.TypeIs _ (.ref d) "dict_itemiterator":=⟨_,b,U⟩;refine wpAny_pyIter_slot A XO (WR XO A qb ?_ (PySem.F.args_dict_itemiterator_iter_1 _));show Ki _ _ (ret (.ref d)) _ _ _;exact GE ⟨_,U,"dict_itemiterator",_,A,PySem.F.slot_dict_itemiterator_next.lookup,h⟩
structure yc(P:To)(w:TV)(K:B0)(a:B4)(K':L (Key×V)):Prop where
 is:∃(o:Obj)(vs:L (Key×B5))(ep:M'),K.lookup a=O o/\KV K' vs/\(∀h:T9,h.get? a=O o->h.DictAt (bx P w) a vs ep)
 ns:(a==UF)=F'
def Kl(a:B4)(K':L (Key×V))(c:TE):TI:=λσ H R=>c σ H λx b=>x= .ref a/\R (Pt K') b
section
variable{o:Expr}{pt:Pos}{apos cpos:Pos}{td:TE}
theorem EC(t:yc X.prog X.w X.K a K')(E:PE X o td)(n:VC o "items" X.env (eval o X.env)=eval o X.env:=by rfl)(D:(apos.endLine==cpos.line)=T':=by rfl):
  PI X (.Tuple es kk pt) (.Call (.Attribute o "items" apos) [] [] cpos) (Kl a K' td):=by
 intro B s σ H R I h;refine aa_ n U D UE ZJ PySem.F.type_dict_items (cR (E B s σ H _ I h) λu l ⟨x,G,i,A,ex,v⟩=>?_);subst ex;obtain rfl:u=Kf a:=A;obtain⟨j,r,ep,p,m,g⟩:=t.is;have c:=i.jG a j p;have f:=g _ c
 have y:∀b,Kf a= .ref b->∃j,l.heap.get? b=O j/\j.dict=Y:=λb q=>by
  cases q
  obtain⟨k,_,C,z,_⟩:=f;exact⟨k,C,z.2.1⟩
 refine⟨f.dictOf.typeIs,y,?_⟩;refine V2 U (PyProof.Rows.evalArgs_empty ?_);refine VS ZJ f.dictOf.typeIs PySem.F.entry_dict_items (PySem.F.args_dict_items_1 _) (meets_dict_items (bx X.prog X.w) a t.ns) ⟨⟨r,f.dictOf⟩,?_⟩;refine wpAny_pyIter_items (knd:=bx X.prog X.w) (d:=a) (kvs:=r) (ep:=ep) ⟨_,Ss _ U,U,U⟩ (f.push _) ?_;have J:a<l.heap.objs.size:=Gc c;refine⟨_,[_],_,_,_,U,i.kept (t':=l.toks) λb o e=>B7 _ (B7 _ e),yx (ep:=ep) p m g,⟨_,_,Ss _ U⟩,λb n=>?_,v⟩
 cases(Dk.mp n)
 exact i.oS (by rw[size_push'];lia) (i.hok.fresh (by rw[size_push'];lia))
end
theorem zY{g:TG}{l:TS}{D:Ends}{σ:St}{H:Hp}(a:M'->St->Hp->Prop)(w:a 0 σ H)(q:∀(i:M')(k:Key)(v:V)(p:B4)(σ:St)(H:Hp),K'[i]? =O (k,v)->H p=Y->a i σ H->g (.ref p) σ (upd H p (.tup [kV k,v])) λf j=>l {D with nx:=a (i+1),ct:=a (i+1),bk:=D.nx} f j)(s:∀σ H,a K'.length σ H->D.nx σ H):
  ∃W:M'->M'->St->Hp->Prop,(∃m,W 0 m σ H)/\∀i m σ H,W i m σ H->
   ((Pt K').stop i H/\D.nx σ H)\/((Pt K').go i H/\∃N:St->Hp->Prop,(∀d c,N d c->∃n,n<m/\W (i+1) n d c)/\∀x c,(Pt K').yld i H x c->g x σ c λf j=>l {D with nx:=N,ct:=N,bk:=D.nx} f j):=by
 refine⟨λi m σ H=>m=K'.length-i/\i<=K'.length/\a i σ H,⟨K'.length,by simp,Sm _,w⟩,?_⟩;rintro i m σ H ⟨rfl,A,p⟩;by_cases h:i<K'.length
 ·refine .inr ⟨h,a (i+1),λd c u=>⟨K'.length-(i+1),aB,U,h,u⟩,λx c y=>?_⟩;obtain⟨b,k,v,t,z,o,r⟩:=y;subst t r;exact q i k v b σ H o z p
 ·have e:i=K'.length:=by lia
  subst e;exact .inl ⟨B9 _,s σ H p⟩
def G_{es:L Ys}{ps:L (Z×Z)}(s:K.lookup a=O {cls:= .type "dict",data:= .dict es.toArray ep})(j:Paired (λ(p:Z×Z) (e:Ys)=>e.hash=Ts w.params p.1/\(∃t,e.key= .str p.1 t)/\∃t,e.val= .str p.2 t) ps es)(x:(ps.map (·.1)).Nodup)(o:(a==UF)=F'):
  yc P w K a (ps.map λp=>(Tt p.1,V.str p.2)):=by
 have key:∀{ps:L (Z×Z)}{es:L Ys},Paired (λ(p:Z×Z) (e:Ys)=>e.hash=Ts w.params p.1/\(∃t,e.key= .str p.1 t)/\∃t,e.val= .str p.2 t) ps es->
   ∃d:L (Key×B5),KV (ps.map λp=>(Tt p.1,V.str p.2)) d/\d.map (·.1)=ps.map (λp=>(Tt p.1:Key))/\Pairs (bx P w) es d/\∀e∈es,∃k,(bx P w).is k e.key=T'/\e.hash=(bx P w).hash k:=λ{ps es} h=>by
  induction h with
  |nil=>exact⟨[],.nil,U,.nil,λe j=>nomatch j⟩
  | @cons p e ps es r t y=>
   obtain⟨d,m,i,f,l⟩:=y;obtain⟨A,⟨v,u⟩,tv,q⟩:=r
   have n:(bx P w).is (Tt p.1) e.key=T':=by
    rw[u];show XM p.1 (.str p.1 v)=T';simp[XM]
   refine⟨(Tt p.1,e.val)::d,.cons ⟨U,⟨tv,q⟩⟩ m,by rw[SQ,SQ,i],.cons n U f,λg c=>?_⟩
   rcases PP.mp c with z|z
   ·rw[z];refine⟨Tt p.1,n,?_⟩;rw[A];rfl
   ·exact l g z
 obtain⟨d,m,i,f,l⟩:=key j;refine⟨⟨_,d,ep,s,m,λh e=>⟨_,es.toArray,e,⟨U,U,U⟩,U,λg c=>l g (by simpa using c),by simpa using f,?_⟩⟩,o⟩;rw[i,show ps.map (λp=>(Tt p.1:Key))=(ps.map (·.1)).map Tt by rw[SN];rfl];exact List.Pairwise.map _ (λa b h e=>h (Wy e)) x
end L2
namespace L2
open PySem PySem.Spec PyProof.Rows S2
noncomputable def ki(c b:L (Key×V)):L (Key×V):=b.foldl (λa p=>putK a p.1 p.2) c
theorem Ad(b:L (Key×V)):∀a,(ki a b).length<=a.length+b.length:=by
 induction b with
 |nil=>intro a;exact B9 _
 |cons p r c=>
  intro a;have d:=c (putK a p.1 p.2);have e:=fV a p.1 p.2;show(ki (putK a p.1 p.2) r).length<=_;rw[Da]
  lia
variable{X:Cx}
def Eo{more:L (Key×V)}{c:L (Key×B5)}(r:KV more c):∀{b:L (Key×V)}{a:L (Key×B5)},KV b a->KV (ki b more) (merged a c):=by
 induction r with
 |nil=>intro b a h;exact h
 | @cons p q e d h t f=>
  intro b a g;show KV (ki (putK b p.1 p.2) e) (merged (stored a q.1 q.2) d);rw[<-h.1];exact f (g.put p.1 h.2)
inductive Mg(x:V)(vs:L V)(H:Hp)(Q:VK):Prop
 |mk (d o:B4) (K' more:L (Key×V)) (c0:x= .ref d) (c1:vs=[.ref o]) (c2:d≠o) (c3:H d=O (.dK K')) (c4:Rd H o (.dK more)) (c5:K'.length+more.length<=sizeLine) (c6:Q .non (upd H d (.dK (ki K' more))))
def Pk:V->L V->Hp->VK->Prop:=λx a H Q=>Mg x a H Q
theorem qH:EM X "dict.update" Pk:=by
 intro r s σ H x R v N Q I p A h;obtain⟨d,o,g,more,rfl,rfl,f,k,E,y,q⟩:=h
 cases p
 obtain⟨u,rfl,B⟩:=A.one;obtain rfl:u=Kf o:=B;obtain⟨z,j,l,b,dd⟩:=lg I.hok (.inl k);obtain⟨M,i,m,a,e⟩:=lg I.hok E;have P:=WM b;have S:=WM a;refine VS WK dd.typeIs PySem.F.entry_dict_update (PySem.F.args_dict_update_2 _ _) (meets_dict_update (bx X.prog X.w) d o f i) ⟨l,m,dd,e,aB,λn c _ J=>?_⟩
 have t:(ki g more).length<=sizeLine:=by have :=Ad more g;lia
 obtain⟨C,K,T,G,rest⟩:=id c;have D:Inv X r σ (upd H d (.dK (ki g more))) {s with heap:=n}:=kW I (by rw[k];exact T8) J ⟨C,G⟩ ⟨t,j,_,Eo a b,c⟩;exact⟨.non,_,D,U,q⟩
open PySem.Builtin PySem.Builtin.Str
theorem jV:∀l:L (TN×Tok),Vals ((l.map (·.1)).map V.str) (abp l)
 |[]=> .nil
 |p::l=> .cons ⟨p.2,U⟩ (jV l)
def GV:V->L V->Hp->VK->Prop:=λx a H Q=>∃z y,x= .str z/\a=[.str y]/\(y.length==0)=F'/\z.length+2<=sizeLine/\∀l,H l=Y->Q (.ref l) (upd H l (.lst ((So z y).map V.str)))
theorem iS:EM X "str.split" GV:=by
 intro r s σ H x K v J Q I p E h;obtain⟨z,y,g,m,i,f,q⟩:=h;subst g m;obtain⟨t,n⟩:=(show∃t,v=Uj z t from p);subst n;obtain⟨C,j,G⟩:=E.one;obtain⟨u,A⟩:=(show∃t,C=Uj y t from G);subst j A
 have a:∀(l:L (TN×Tok))(k:M'),l.map (·.1)=So z y->EP X r σ Q (.ref s.heap.objs.size) {s with heap:=s.heap.push {cls:= .type "list",data:= .seq (abp l).toArray},toks:=k}:=λl k e=>by
  have D:((So z y).map V.str).length<=sizeLine:=by
   rw[AC];exact Tf (split_le z y) f
  refine⟨.ref s.heap.objs.size,_,I.laid (t':=k) (λb o e=>B7 _ e) (B9 _) (show cM X.prog X.w _ _ _ (.lst ((So z y).map V.str))from⟨D,abp l,0,?_,Ss _ U⟩),U,q _ (I.hok.fresh (B9 _))⟩;rw[<-e];exact jV l
 have B:(partsBetween z (occurrences z y 0 z.length (z.length+1)) y.length).length<=sizeLine:=by
  have g:=StrLaws.occ_length_le z y 0 z.length (z.length+1);rw[length_partsBetween];lia
 cases c:(decide (z.length<y.length)||decide (strKind z<strKind y))
 ·cases d:(occurrences z y 0 z.length (z.length+1)).isEmpty
  ·refine VM UL (VL _ _ _) Yj (XZ _ _) (meets_str_split_sep z y t u c i d aB B) ?_;show wants _ _ _ {s with toks:=_,heap:=s.heap.push {cls:= .type "list",data:= .seq (strsFrom s.toks (partsBetween z (occurrences z y 0 z.length (z.length+1)) y.length)).toArray}};rw[strsFrom_eq];exact a (numbered s.toks _) _ ((numbered_texts _ _).trans ((GM (XI c)).trans (GM (XI d))).symm)
  ·exact VM UL (VL _ _ _) Yj (XZ _ _) (meets_str_split_not_found z y t u c i d) (a [(z,t)] s.toks ((GM (XI c)).trans (KF d)).symm)
 ·exact VM UL (VL _ _ _) Yj (XZ _ _) (meets_str_split_cannot_occur z y t u c) (a [(z,t)] s.toks (KF c).symm)
noncomputable def parted(z y:TN):L TN:=match occurrences z y 0 z.length 1 with
 |i::_=>[strSub z 0 i,y,strSub z (i+y.length) z.length]
 |[]=>[z,WV,WV]
def Kq:V->L V->Hp->VK->Prop:=λx a H Q=>∃z y,x= .str z/\a=[.str y]/\(y.length==0)=F'/\z.length<=sizeLine/\∀l,H l=Y->Q (.ref l) (upd H l (.tup ((parted z y).map V.str)))
def mw:EM X "str.partition" Kq:=by
 intro p s σ H x K v J Q I n D h;obtain⟨z,y,l,j,G,d,q⟩:=h;subst l j;obtain⟨t,m⟩:=(show∃t,v=Uj z t from n);subst m;obtain⟨B,g,E⟩:=D.one;obtain⟨u,A⟩:=(show∃t,B=Uj y t from E);subst g A
 have C:((parted z y).map V.str).length<=sizeLine:=by
  have :(parted z y).length=3:=by unfold parted;split<;>rfl
  rw[AC,this];decide
 have a:∀(c:L B5)(k:M'),Vals ((parted z y).map V.str) c->EP X p σ Q (.ref s.heap.objs.size) {s with toks:=k,heap:=s.heap.push {cls:= .type "tuple",data:= .seq c.toArray}}:=λc k r=>
  ⟨.ref s.heap.objs.size,_,I.laid (t':=k) (λb o e=>B7 _ e) (B9 _) (show cM X.prog X.w _ _ _ (.tup ((parted z y).map V.str))from⟨C,c,r,abC _ _⟩),U,q _ (I.hok.fresh (B9 _))⟩
 refine VM F.slot_str_partition (VL _ _ _) F.entry_str_partition (F.args_str_partition_2 _ _) (meets_str_partition z y t u G d) ?_;unfold parted at a
 cases f:occurrences z y 0 z.length 1 with
 |nil=>
  rw[f]at a;exact a _ _ (.cons ⟨_,U⟩ (.cons ⟨_,U⟩ (.cons ⟨_,U⟩ .nil)))
 |cons i r=>
  rw[f]at a;exact a _ _ (.cons ⟨_,U⟩ (.cons ⟨_,U⟩ (.cons ⟨_,U⟩ .nil)))
noncomputable def ck(z y:TN):TN:=if ZF y.cps.contains T' F' z then z else stripped y.cps.contains T' F' z
def KJ:V->L V->Hp->VK->Prop:=λx a H Q=>∃z y,x= .str z/\a=[.str y]/\(ck z y).length<=sizeLine/\Q (.str (ck z y)) H
def Dm:EM X "str.lstrip" KJ:=by
 intro n s σ H x o v m Q I k d h;obtain⟨z,y,g,e,a,q⟩:=h;subst g e;obtain⟨t,i⟩:=(show∃t,v=Uj z t from k);subst i;obtain⟨j,c,f⟩:=d.one;obtain⟨u,l⟩:=(show∃t,j=Uj y t from f);subst c l;refine VM F.slot_str_lstrip (VL _ _ _) F.entry_str_lstrip (F.args_str_lstrip_2 _ _) (gives_str_lstrip_chars z y t u).meets ?_;unfold ck at q a
 cases b:ZF y.cps.contains T' F' z with
 |true=>
  rw[b]at q a;exact⟨.str z,H,I,⟨_,U⟩,q⟩
 |false=>
  rw[b]at q a;exact⟨a,.str (stripped y.cps.contains T' F' z),H,I.tok _,⟨_,U⟩,q⟩
def Jc:V->L V->Hp->VK->Prop:=λx a H Q=>∃z y,x= .str z/\a=[.str y]/\Q (.bl (0+y.length<=z.length&&subAt z y 0)) H
def sT:EM X "str.startswith" Jc:=by
 intro l s σ H x m v k Q I i b h;obtain⟨z,y,e,c,q⟩:=h;subst e c;obtain⟨t,f⟩:=(show∃t,v=Uj z t from i);subst f;obtain⟨g,a,d⟩:=b.one;obtain⟨u,j⟩:=(show∃t,g=Uj y t from d);subst a j;exact VM F.slot_str_startswith (VL _ _ _) F.entry_str_startswith (F.args_str_startswith_2 _ _) (gives_str_startswith z y t u).meets ⟨.bl _,H,I,U,q⟩
def uC:e_ X (.type "int") (λa H Q=>∃z n,a=[.str z]/\z.length<=640/\Xr z=O n/\Q (.int n) H):=by
 intro e s σ H a d Q I r h;obtain⟨z,n,rfl,b,c,q⟩:=h;obtain⟨u,rfl,t,rfl⟩:=vals1 r;exact call_int_1 (PySem.W.KIN.gives_text b c).meets (show(Made.int n).post _ s from⟨U,.int n,H,I.tok _,⟨_,U⟩,q⟩)
end L2
namespace DW
open PySem PySem.StrLaws PySem.Builtin PySem.Builtin.Str
variable{x y:TN}{Zq:L M'}{c:M'}
def oV(h:x.cps.toList=y.cps.toList):x=y:=by
 cases x;cases y
 simp only[Str.mk.injEq];exact Array.toList_inj.mp h
def eU(x:TN):x.cps.toList.length=x.length:=by rw[SG];rfl
noncomputable def eX(a:L M'):L (L M')->L M'
 |[]=>[]
 |[p]=>p
 |p::q::r=>p++(a++eX a (q::r))
theorem join_list(y:TN):∀a:L TN,(Tr y a).cps.toList=eX y.cps.toList (a.map λp=>p.cps.toList)
 |[]=>rfl
 |[p]=>rfl
 |p::q::r=>by
  show((p.cps++y.cps)++(Tr y (q::r)).cps).toList=_;rw[SF,SF,join_list y (q::r),Sx];rfl
section
variable{t:L M'}
def Rb(b:y.cps.toList=c::t){k:M'}(h:At x y x.length k):x.cps.toList[k]? =O c:=by
 have a:=h.2;rw[subAt_eq,W3,b,<-eU y,b,Da]at a
 cases e:x.cps.toList.drop k with
 |nil=>rw[e]at a;cases a
 |cons d r=>
  rw[e,List.take_succ_cons]at a
  injection a with f _
  have :(x.cps.toList.drop k)[0]? =O d:=by rw[e];rfl
  rw[U_,Z4]at this;rw[this,f]
theorem at_of(b:y.cps.toList=c::t){k:M'}(h:x.cps.toList.drop k=y.cps.toList++Zq):At x y x.length k:=by
 have a:=Tb Wf h;rw[Ta,B3,eU,eU]at a
 have d:y.length=t.length+1:=by rw[<-eU,b];rfl
 refine⟨aB,?_⟩;rw[subAt_eq,W3,h,<-eU y,Y4]
theorem EV(f:y.cps.toList=c::t){a k:M'}{p:L M'}(g:x.cps.toList.drop a=p++Zq)(d:c∉p)(j:a<=k)(i:k<a+p.length):¬At x y x.length k:=λh=>by
 have e:=Rb f h
 have b:(x.cps.toList.drop a)[k-a]? =O c:=by rw[U_,show a+(k-a)=k by lia];exact e
 rw[g,Sv aB]at b;exact d (Do b)
theorem rm(j:y.cps.toList=c::t):∀(o:L (L M'))(a:M')(b:L M')(f:M'),o≠[]->(∀p∈o,c∉p)->x.cps.toList.drop a=eX y.cps.toList o->a<=x.length->ChainG x y x.length a b f->(∀k,f<=k->¬At x y x.length k)->(partsFrom x y.length a b).map (λp=>p.cps.toList)=o
 |[],_,_,_,h,_,_,_,_,_=>KB U h
 |[p],a,b,f,_,l,d,H,n,s=>by
  have d:x.cps.toList.drop a=p:=d
  have J:p.length=x.length-a:=by rw[<-d,Ta,eU]
  cases b with
  |nil=>
   show[(strSub x a x.length).cps.toList]=[p];rw[strSub_toList,d,Tp aB]
  |cons i r=>
   obtain⟨v,m,_⟩:=n;have :=m.1
   have I:1<=y.length:=by rw[<-eU,j];exact Wk _
   exact KB m (EV (Zq:=[]) j (by rw[Ni];exact d) (l p De) v aB)
 |p::q::r,a,b,f,_,l,d,H,n,s=>by
  have d:x.cps.toList.drop a=p++(y.cps.toList++eX y.cps.toList (q::r)):=d;have G:=Tb Wf d;rw[Ta,B3,B3,eU,eU]at G
  have z:x.cps.toList.drop (a+p.length)=y.cps.toList++eX y.cps.toList (q::r):=by
   rw[<-V0,d,VY]
  have g:=at_of j z
  cases b with
  |nil=>
   have e:f=a:=n;exact KB g (s _ aB)
  |cons i w=>
   obtain⟨v,m,B,E⟩:=n
   have C:i=a+p.length:=by
    by_cases A:i<a+p.length
    ·exact KB m (EV j d (l p De) v A)
    ·by_cases F:a+p.length<i
     ·exact KB g (B _ aB F)
     ·lia
   subst C;show(strSub x a (a+p.length)).cps.toList::(partsFrom x y.length (a+p.length+y.length) w).map (λp=>p.cps.toList)=p::q::r;rw[strSub_toList,d,show a+p.length-a=p.length by lia,Y4]
   congr 1
   refine rm j (q::r) _ w f (Ub _ _) (λD u=>l D (Fk _ u)) ?_ aB E s;rw[<-V0,z,<-eU y,VY]
end
theorem mX:∀{a b:L TN},a.map (λp=>p.cps.toList)=b.map (λp=>p.cps.toList)->a=b
 |[],[],_=>rfl
 |[],_::_,h=>nomatch h
 |_::_,[],h=>nomatch h
 |p::a,q::b,h=>by
  injection h with c d
  rw[oV c,mX d]
theorem fN{t:L M'}(n:y.cps.toList=c::t)(w:strKind y=1){a:L TN}(g:a≠[])(o:∀p∈a,c∉p.cps.toList):So (Tr y a) y=a:=by
 have q:1<=y.length:=by rw[<-eU,n];exact Wk _
 obtain⟨f,l,s⟩:=occ_tight (Tr y a) y q
 have b:=rm (x:=Tr y a) n (a.map λp=>p.cps.toList) 0 _ f (λe=>g (abA.mp e)) (λp k=>by
  obtain⟨v,u,rfl⟩:=Su.mp k
  exact o v u) (by rw[Vk,join_list]) (Sm _) l s
 have b:=mX b
 have j:¬strKind (Tr y a)<strKind y:=by
  have :=PyProof.Rows.strKind_pos (Tr y a)
  lia
 unfold So;by_cases m:(Tr y a).length<y.length
 ·rw[KF (by rw[FB m];rfl)]
  have d:occurrences (Tr y a) y 0 (Tr y a).length ((Tr y a).length+1)=[]:=by
   cases e:occurrences (Tr y a) y 0 (Tr y a).length ((Tr y a).length+1)with
   |nil=>rfl
   |cons i r=>
    rw[e]at l;have :=l.2.1.1
    lia
  rw[d]at b;exact Eq.trans (by show[_]=[strSub _ 0 _];rw[sub_whole]) b
 ·rw[GM (by rw[GT m,GT j];decide)];by_cases h:(occurrences (Tr y a) y 0 (Tr y a).length ((Tr y a).length+1)).isEmpty=T'
  ·rw[KF h];rw[List.isEmpty_iff.mp h]at b;exact Eq.trans (by show[_]=[strSub _ 0 _];rw[sub_whole]) b
  ·rw[GM h,partsBetween_eq];exact b
open L2
variable{p r z:TN}
theorem uf{t:L M'}(h:y.cps.toList=c::t)(s:z=p++(y++r))(n:∀k,k<p.length->¬At z y z.length k):parted z y=[p,y,r]:=by
 have b:z.cps.toList=p.cps.toList++(y.cps.toList++r.cps.toList):=by
  rw[s];show(p.cps++(y.cps++r.cps)).toList=_;rw[SF,SF]
 have e:z.cps.toList.drop p.length=y.cps.toList++r.cps.toList:=by rw[b,<-eU p,VY]
 have a:=at_of h e;unfold parted
 rcases occ_head z y 1 (B9 _)with⟨f,d⟩|⟨i,u,f,d,j⟩
 ·exact KB a (d _)
 ·rw[f]
  have m:i=p.length:=by
   by_cases q:i<p.length
   ·exact KB d (n i q)
   ·by_cases o:p.length<i
    ·exact KB a (j _ o)
    ·lia
  subst m;have l:strSub z 0 p.length=p:=oV (by rw[strSub_toList,Vk,Z2,b,<-eU p,Y4])
  have v:z.length=p.length+(y.length+r.length):=by
   have :=Tb Wf b;rw[B3,B3,eU,eU,eU,eU]at this;exact this
  have g:strSub z (p.length+y.length) z.length=r:=oV (by
   rw[strSub_toList,<-V0,e,<-eU y,VY,Tp];rw[eU,eU]
   lia)
  show[strSub z 0 p.length,y,strSub z (p.length+y.length) z.length]=_;rw[l,g]
def DP(a:∀k,¬At z y z.length k):parted z y=[z,WV,WV]:=by
 unfold parted
 rcases occ_head z y 1 (B9 _)with⟨b,_⟩|⟨i,d,_,c,_⟩
 ·rw[b]
 ·exact KB c (a i)
theorem wx{t:L M'}(b:y.cps.toList=c::t)(d:c∉p.cps.toList):parted (p++(y++r)) y=[p,y,r]:=by
 refine uf b U λk e=>?_;refine EV (a:=0) (p:=p.cps.toList) (Zq:=y.cps.toList++r.cps.toList) b ?_ d (Sm _) (by rw[eU];lia);rw[Vk];show(p.cps++(y.cps++r.cps)).toList=_;rw[SF,SF]
theorem Cc{k:M'}(b:z.cps.toList=TZ k 32++r.cps.toList)(o:r.cps.toList.head?≠O 32):ck z " "=r:=by
 have m:(z.cps.toList.takeWhile (" ":TN).cps.contains).length=k:=by
  rw[b]
  have p:∀(k:M')(l:L M'),l.head?≠O 32->((TZ k 32++l).takeWhile (" ":TN).cps.contains).length=k:=λk l f=>by
   induction k with
   |zero=>
    cases l with
    |nil=>rfl
    |cons a l=>
     have s:(" ":TN).cps.contains a=F':=by
      cases e:(" ":TN).cps.contains a with
      |false=>rfl
      |true=>
       have c:a∈(" ":TN).cps:=by simpa using e
       have g:(" ":TN).cps=#[32]:=U;rw[g]at c
       have h:a=32:=by simpa using c
       exact KB (by rw[h];rfl) f
     show((a::l).takeWhile _).length=0;rw[aaG,s];rfl
   |succ k n=>
    show((32::(TZ k 32++l)).takeWhile _).length=k+1;rw[aaG,show(" ":TN).cps.contains 32=T' by decide +kernel];show(_::_).length=_;rw[Da,n]
  exact p k _ o
 have t:z.length=k+r.length:=by
  rw[<-eU,b,B3,V5,eU]
 have d:stripLo (" ":TN).cps.contains T' z=k:=m;have j:stripHi (" ":TN).cps.contains F' z (stripLo (" ":TN).cps.contains T' z)=z.length:=U
 have e:stripped (" ":TN).cps.contains T' F' z=r:=oV (by
  show(strSub z _ _).cps.toList=_;rw[j,d,strSub_toList,b,List.drop_left' (by rw[V5]),Tp];rw[eU]
  lia)
 unfold ck;by_cases q:ZF (" ":TN).cps.contains T' F' z=T'
 ·rw[KF q];unfold ZF at q;rw[d,Tw]at q;have i:k=0:=eq_of_beq q.1;subst i;exact oV (by rw[b];rfl)
 ·rw[GM q];exact e
end DW
namespace L2
open PySem PySem.Spec PyProof.Rows
variable{e a0 cls cd:B5}{env:Env}{A:UU}{B h h2 B':T9}{E:B5->FM->Prop}{M:abg}{Q:aav->FM->Prop}{a C f b:B4}{U':L Env}{s s1:FM}{H H1:Hp}{K:B0}{N:L Z}{P:To}{X:Cx}{mg:Z->O' B5}{A':L (B4×Obj)}{pos px cp:Pos}{V' x:Z}{S':Vj}{te:TE}{tt:TT}{w:TV}{σ:St}
def CZ{env':Env}(h:env'.frame=env.frame):noteFrame e env'=noteFrame e env:=by
 unfold noteFrame PySem.frameOf;rw[h]
def Cn{c:B4}{fl:B5}(i:A.frames=O (env::U'))(h:env.frame=O c)(D:B.StaysIn s.heap)(j:B.get? a=Y)(F:s.heap.FunFrames B (env::U'))(k:s.heap.TracedAtW B a cls a0 fl)(G:∀e,TU B U' a cls a0 e->s.heap.UpToSlots e->Q () {s with heap:=e}):Ki M A (leaving env (.ref a)) Q E s:=by
 by_cases z:fl=Xo c
 ·subst z;unfold leaving;refine B1 (wpAny_noteFrame_againW h k (ZR ⟨D,j,F,k⟩ λe m u=>G e ?_ u));obtain⟨l,p,⟨_,_,g⟩,r⟩:=m;exact⟨l,p,g,r⟩
 ·obtain⟨S,R,T,P,V,x,⟨I,J⟩,C,y,H,N,n,dT,t⟩:=k;subst I
  have v:∀b o,s.heap.get? b=O o->(∀K,o.data≠ .fields K)->b≠T:=λb o d f q=>by
   rw[q,n]at d
   cases d
   exact f _ dT
  have oth:∀b,b≠T->(s.heap.update T (U3 (·.setIfInBounds 3 Uo))).get? b=s.heap.get? b:=λb d=>Th _ _ (SZ d);unfold leaving noteFrame;simp only[h];refine B1 (B1 (Ui x C y ?_));rw[KF (by simp)];refine B1 (Ui n dT t ?_);rw[GM (by simpa using z)];refine B1 (Wn n dT (WG.mp t).1 ?_);refine wpAny_newEntryW (base:=B) i (F.of_keeps λb o d f=>⟨o,(oth b (v b o d f)).trans d,U⟩) h ((oth a (SZ N)).trans x) (λb o d=>(oth b λq=>by rw[q,H]at d;cases d).trans (D b o d)) j C (WG.mp y).1 J λe w=>?_;obtain⟨l,⟨_,_,p⟩,g,r⟩:=w;exact G e ⟨l,j,p,g⟩ λb o d f=>r b o ((oth b (v b o d f)).trans d) f
def zH{l:L Env}{fl:B5}{w:O' B4}(z:B.StaysIn s.heap)(H:s.heap.FunFrames B l)(t:s.heap.TracedAtW B a cls a0 fl)(D:∀d g,B.StaysIn d->d.FunFrames B l->d.TracedAtW B a cls a0 g->s.heap.UpToSlots d->Q () {s with heap:=d}):Ki M A (setFlight (.ref a) w) Q E s:=by
 obtain⟨F,y,T,I,v,m,C,p,n,j,i,h,dT,u⟩:=t;have r:3<v.size:=(WG.mp u).1
 have k:∀b o,s.heap.get? b=O o->(∀G,o.data≠ .fields G)->b≠T:=λb o c e q=>by
  rw[q,h]at c
  cases c
  exact e _ dT
 unfold setFlight;refine B1 (Ui m p n ?_);rw[KF (by simp)];generalize J:(w.elim Uo λf=>Xo f)=x;have oth:∀b,b≠T->(s.heap.update T (U3 (·.setIfInBounds 3 x))).get? b=s.heap.get? b:=λb c=>Th _ _ (SZ c);refine Wn h dT r (D _ x (λb o c=>(oth b λq=>by rw[q,j]at c;cases c).trans (z b o c)) (H.of_keeps λb o c e=>⟨o,(oth b (k b o c e)).trans c,U⟩) ?_ λb o c e=>⟨o.slots,(oth b (k b o c e)).trans c⟩);exact⟨F,y,T,_,_,(oth a (SZ i)).trans m,C,p,n,j,i,Tj _ h (aaj (Wq dT _)),Wq dT _,by simp[r]⟩
theorem qk{d:T9}(g:∀b,b≠C->d.get? b=h.get? b):∀{l:L Env},h.FunFrames B l->C∉fz l->d.FunFrames B l
 |[],_,_=>trivial
 |env::r,⟨i,⟨a,o,f,m,k,j⟩,n⟩,c=>by
  have e:fz (env::r)=a::fz r:=by unfold fz;rw[Wj,f]
  rw[e]at c;exact⟨i,⟨a,o,f,m,(g a λz=>c (by rw[z];exact De)).trans k,j⟩,qk g n λz=>c (Fk _ z)⟩
def KS{t:Hp}{j:T9}{w:L B4}(u:Un (fz U') [] H t h j)(m:j.FunFrames B U')(d:∀b v,h.get? b=O v->b∉fz U'->b∉w->∃c,B.get? b=O c/\(H b=Y->c=v))(r:B.StaysIn h2)(s:∀b∈fz U',∀o,j.get? b=O o->(∀y,o.data≠ .fields y)->∃p,h2.get? b=O {o with slots:=p}):Un (fz U') w H t h h2 where
 keep:=λb o q n a g=>by
  obtain⟨c,e,z⟩:=d b o q a g;rw[<-z n];exact r b c e
 slot:=λb o q n a g=>by
  obtain⟨p,e⟩:=u.slot b o q n a (by simp);obtain⟨_,x,i,l⟩:=m.mem a;rw[e]at i
  cases i
  obtain⟨f,k⟩:=s b a _ e l;exact⟨f,k⟩
 free:=λb o q n g=>u.free b o q n (by simp)
 there:=λb o q g=>by
  by_cases a:b∈fz U'
  ·obtain⟨_,x,i,l⟩:=m.mem a;obtain⟨f,k⟩:=s b a _ i l;exact⟨_,k⟩
  ·obtain⟨c,e,_⟩:=d b o q a g;exact⟨c,r b c e⟩
 tups:=u.tups
 frzs:=u.frzs
 tbls:=u.tbls
section
variable{scope0:Vj}{s₀:FM}{H₀:Hp}{E:XK}
variable{k:M'}{N':L Z}{tg:Expr}{elt iter:Expr}{ifs:L Expr}{wi:TI}{g:TG}
def qE{H:L (B4×Obj)}{c0:St}{H3:Hp}{s3 s':FM}{D:B5}{cl:L (Z×B4)}{fp:L B4}{QQ:B5->FM->Prop}{use:O' (B5->Sem aav)}(hX:X=aT (cu P w) P w K mg B' N V' scope0 f cd A U' s₀ H₀ E)(I3:Inv X A' σ H3 s3)(hC:C=s3.heap.objs.size)(f3:∀b∈fp,km X A' H3 b)(S:Inv (X.gg N' S' cl C fp s3 H3) H c0 H1 s1)(c5:cu P w X.stack H1 s1 E e s'):
  XE (Pp P w) X.A (Xp S' cl C X.env) (λe a9=>YS (Pp P w) X.A X.xe use QQ D C (.error e) a9) e s':=by
 obtain⟨a,t,cls,od,B,H',rfl,os,bare,un,hok,fl,xd,na,c1,c2,q⟩:=c5;have R:Inv X A' σ H1 s1:=I3.mj (ch:=fp) S.os S.base S.hok S.bare λb c=>⟨(f3 b c).2.2.2.1,(f3 b c).2.1,(f3 b c).2.2.2.2.1,(f3 b c).2.2.2.2.2⟩;have HC:H1 C=Y:=S.free;obtain⟨_,cL,cF,cG,cE,cP⟩:=I3.oS (H':=H1) (Yc hC.symm) HC
 have u:C∉fz X.stack:=λz=>by
  rcases PP.mp (I3.kc C z)with y|y
  ·exact cL y
  ·exact cF y
 obtain⟨m1,⟨oc,es,ep,ho,hd,hr⟩,_⟩:=S.loc;have b0:s'.heap.get? C=O oc:=un.keep C oc ho HC u (by simp);have c8:s'.heap.Ns C m1:=⟨oc,es,ep,b0,hd,hr⟩;have b9:H' C=Y:=un.free C oc ho HC (by simp);have kB:(SS B [C]).StaysIn B:=λb o q=>U8 _ q;have nB:(SS B [C]).get? C=Y:=Xt _ De;have V:∀b o,b≠C->B.get? b=O o->(SS B [C]).get? b=O o:=λb o c e=>T6 _ e (by simpa using c);have p:=PySem.W.flyingW_base kB fl;have a7:∀b o,H' b=O o->∀g,s'.heap.get? b=O g->(SS B [C]).get? b=O g:=λb o e g eb=>V b g (λz=>by rw[z,b9]at e;cases e) (c1 b o e g eb)
 have a8:∀b g,s1.heap.get? b=O g->b∉fz X.stack->b∉[C]->∃x,(SS B [C]).get? b=O x/\(H1 b=Y->x=g):=λb g e c hx=>by
  obtain⟨x,n,z2⟩:=c2 b g e c;exact⟨x,V b x (by simpa using hx) n,z2⟩
 clear c1 fl;have d1:=c2;clear c2;generalize SS B [C]=B' at *
 have fr:X.A.frames=O (X.env::X.outer):=by
  have :=I3.ok.frames;rw[hX]at this⊢;exact this
 have G:X.stack=X.env::X.outer:=by rw[hX];rfl
 have a4:X.env.frame=O X.env.locals:=by rw[hX];rfl
 unfold XE;rw[CZ (env:=X.env) (env':=Xp S' cl C X.env) U];rw[G]at p;have b2:Ki (Pp P w) X.A (noteFrame (.ref a) X.env) (λ_ s4=>∃v,s4={s' with heap:=v}/\aa5 B' (X.env::X.outer) a cls (.ref t) X.env.locals v/\s'.heap.UpToSlots v) (λ_ _=>False) s':=Yx fr a4 p λv f4 u4=>⟨v,U,f4,u4⟩;refine SW (iV (mW _ _) xd b2) (λ_ s4 z=>?_) λ_ _ z=>z.elim;obtain⟨⟨v,e4,⟨k4,ka,a5,t4⟩,u4⟩,x4⟩:=z;subst e4;have a1:=u4.ns c8;refine⟨m1,a1,λj Q a6 _=>?_⟩;obtain⟨o4,d0,_,b1,c6,_⟩:=a1
 have m:∀{b:B4}{o:Obj}{I:Us B5},v.get? b=O o->o.data= .fields I->b≠C:=λ{b o I} e d z=>by
  rw[z]at e;have n:=b1.symm.trans e
  cases n
  rw[c6]at d
  cases d
 obtain⟨oe,I,T,oT,ts,he,c3,r,h1,b3,c9,hT,a2,h3⟩:=t4;have aC:=m he r;have TC:=m hT a2;have a0:j.get? a=O oe:=(Q.2 a aC).trans he;have t5:j.TracedAtW B' a cls (.ref t) (Xo X.env.locals):=⟨oe,I,T,oT,ts,a0,c3,r,h1,b3,c9,(Q.2 T TC).trans hT,a2,h3⟩;have k5:B'.StaysIn j:=λb o q=>(Q.2 b λz=>by rw[z,nB]at q;cases q).trans (k4 b o q);rw[<-G]at a5;have b4:j.FunFrames B' X.stack:=qk Q.2 a5 u
 have x5:XD j a od:=by
  obtain⟨o,e,d⟩:=x4;exact⟨o,(Q.2 a aC).trans e,d⟩
 unfold PySem.passOn;refine B1 (Ui (s:={s' with heap:=j}) a0 r h1 ?_);rw[GM (by simp)];have b6:Ki (Pp P w) X.A (setFlight (.ref a) a6.frame) (λ_ s6=>∃h l,s6={s' with heap:=h}/\B'.StaysIn h/\h.FunFrames B' X.stack/\h.TracedAtW B' a cls (.ref t) l/\j.UpToSlots h) (λ_ _=>False) {s' with heap:=j}:=zH (s:={s' with heap:=j}) k5 b4 t5 λh l k6 F t6 u6=>⟨h,l,U,k6,F,t6,u6⟩;refine B1 (SW (iV (s:={s' with heap:=j}) (gD _ _) x5 b6) (λ_ s6 z=>?_) λ_ _ z=>z.elim);obtain⟨⟨h,l,e6,k6,F,t6,u6⟩,x6⟩:=z;subst e6;refine aam ?_;have b7:Ki (Pp P w) X.A (leaving X.env (.ref a)) (λ_ s7=>∃i,s7={s' with heap:=i}/\TU B' X.outer a cls (.ref t) i/\h.UpToSlots i) (λ_ _=>False) {s' with heap:=h}:=Cn (s:={s' with heap:=h}) fr a4 k6 ka (by rw[<-G];exact F) t6 λi M u7=>⟨i,U,M,u7⟩;have c7:=iV (s:={s' with heap:=h}) (gL _ _) x6 b7
 have us:∀i:T9,h.UpToSlots i->∀b∈fz X.stack,∀o,s'.heap.get? b=O o->(∀I,o.data≠ .fields I)->∃sl,i.get? b=O {o with slots:=sl}:=λi u7 b c o e nf=>by
  obtain⟨sl,e1⟩:=u4 b o e nf;have n:j.get? b=O {o with slots:=sl}:=(Q.2 b λz=>u (by rw[<-z];exact c)).trans e1;obtain⟨d3,e3⟩:=u6 b _ n nf;obtain⟨c4,e4⟩:=u7 b _ e3 nf;exact⟨c4,e4⟩
 subst hX;refine SW c7 (λ_ s7 z=>?_) λ_ _ z=>z.elim;obtain⟨⟨i,e7,M,u7⟩,x7⟩:=z;subst e7;obtain⟨d2,g',d',t',b5⟩:=s';have b8:=KS un p.2.2.1 a8 M.1 (us i u7);have J:=R.mj (s':=⟨i,g',d',t',b5⟩) (ch:=[C]) os b8 (kE hok a7 M.1) bare (λb z=>by rw[Dk.mp z];exact⟨cG,cL,cE,cP⟩);refine⟨a,t,cls,od,B',H',U,J.os,J.bare,J.base,J.hok,M,x7,na,ni hok a7 M.1,λb g c hf=>?_,q⟩;have k:=Gc c
 have nl:b≠(aT (cu P w) P w K mg B' N V' scope0 f cd A U' s₀ H₀ E).env.locals:=λz=>by
  have h2:=R.ok.above;rw[z]at k;exact TR _ (SA k h2)
 have nC:b∉[C]:=λz=>by
  rw[Dk.mp z]at k
  rcases cG with y|y
  ·cases y
  ·exact TR _ (SA k y)
 have EO:b∉fz (aT (cu P w) P w K mg B' N V' scope0 f cd A U' s₀ H₀ E).stack:=λz=>by
  rcases PP.mp (R.kc b z)with y|y
  ·exact nl y
  ·exact hf y
 obtain⟨o',a3⟩:=R.base.there b g c (by simp[aT]);obtain⟨x,n,z2⟩:=a8 b o' a3 EO nC;refine⟨x,n,λhn=>?_⟩;have kk:=R.base.keep b g c hn hf (by simp[aT]);rw[a3]at kk
 cases kk
 exact z2 (R.base.free b g c hn (by simp[aT]))
def tV{J:It}{Q:VK}(h:fQ J H1 σ tt te Q):gK J H1 1 σ (eY 0) tt te Q:=by
 intro D d;obtain⟨W,c,a⟩:=h D d;refine⟨W,c,λi m H f=>?_⟩
 rcases a i m H f with q|⟨go,step⟩
 ·exact .inl q
 ·refine .inr ⟨go,λx e ρ b y=>?_⟩
  match ρ,b with
  |[g],_=>exact⟨⟨[O x],U,U⟩,step x e y⟩
def gC.QR(S:gC X x S'):gY X 1 (x::X.N) S':=
 ⟨S.kind,S.cell,S.names,S.free,by rw[Da,W8],λi y h=>by
  rw[W8,ZN]at h
  exact .inl ⟨h,S.cap y (Do h)⟩⟩
def gC.RM(S:gC X x S')(b:B5->FM->Prop)(d:L (Z×B4))(C:B4)(c:L B4)(s:FM)(H:Hp):PG (X.fA b (x::X.N) S' d C c s H) (.Name x px) (eY 0):=by
 have a:(YI S' X.env).names.lookup x=O .local:=aas S.hx;exact aZ (X:=X.fA b (x::X.N) S' d C c s H) (i:=0) S.nd U (.inl a) (.inr a)
def mY(S:gC (aT (cu P w) P w K mg B' N V' scope0 f cd A U' s₀ H₀ E) x S')(hi:PI (aT (cu P w) P w K mg B' N V' scope0 f cd A U' s₀ H₀ E) (.Name x px) iter wi)(n:∀xe d C c s H,Passes (cu P w) ((aT (cu P w) P w K mg B' N V' scope0 f cd A U' s₀ H₀ E).fA xe (x::N) S' d C c s H) E->PE ((aT (cu P w) P w K mg B' N V' scope0 f cd A U' s₀ H₀ E).fA xe (x::N) S' d C c s H) elt te)(F:∀x,UC iter (aT (cu P w) P w K mg B' N V' scope0 f cd A U' s₀ H₀ E).env x=pure x:=by intro _;rfl):PE (aT (cu P w) P w K mg B' N V' scope0 f cd A U' s₀ H₀ E) (.ListComp elt [⟨.Name x px,iter,[],0⟩] S' pos) (mx wi gn te):=by
 have n:∀xe d C c s H,Passes (cu P w) ((aT (cu P w) P w K mg B' N V' scope0 f cd A U' s₀ H₀ E).fA xe (x::(aT (cu P w) P w K mg B' N V' scope0 f cd A U' s₀ H₀ E).N) S' d C c s H) E->PE ((aT (cu P w) P w K mg B' N V' scope0 f cd A U' s₀ H₀ E).fA xe (x::(aT (cu P w) P w K mg B' N V' scope0 f cd A U' s₀ H₀ E).N) S' d C c s H) elt te:=n;generalize m:(aT (cu P w) P w K mg B' N V' scope0 f cd A U' s₀ H₀ E)=X at *;intro A' s σ H Q I h;obtain⟨d,r,V⟩:=pR (env:=X.env) (S':=S') λy hy hf=>I.ok.has y.1 (S.free y hy hf);rw[eval_ListComp];refine VA (use:=Y) U F r S.kind S.names (cR (hi A' s σ H _ I h) λxv s1 h1=>cR h1 λW s2 h2=>?_);obtain⟨it,c,tn,J,H2,e,I2,T,p,f2,q⟩:=h2;subst e
 refine lF (RR:=λl C=>YS (Pp X.prog X.w) X.A X.xe Y (EP X A' σ Q) l C) (xe:=λC z B e i=>∃a g H1 s1,Inv (X.gg (x::X.N) S' d C c z B) a g H1 s1/\cu P w X.stack H1 s1 E e i) S.QR (by rw[<-m];rfl) V (λC s H=>S.RM _ _ _ _ _ _) (λC s H=>cv)
  (λC s H=>n _ _ _ _ _ _ λa g v s0 e i j t=>⟨_,_,_,_,j.RP,t⟩) I2 T p f2 (tV q) ?_ ?_
 ·intro D C i v m' j hn k t;exact⟨m',hn,λh' G=>⟨.ref D,v,j.turned (t':=i.toks) (λb o hb e=>(G.2 b hb).trans e) k.1 k.2.1 k.2.2.2.1 k.2.2.2.2.1 k.2.2.2.2.2,U,t⟩⟩
 ·rintro D C z B e i I3 M R ⟨a,g,H1,s1,j,u⟩;have :=qE (use:=Y) (QQ:=EP X A' σ Q) (D:= .ref D) m.symm I3 M R j u;subst m;exact this
def wH{i:M'}{y:Z}{n g:Pos}(S:gC (aT (cu P w) P w K mg B' N V' scope0 f cd A U' s₀ H₀ E) x S')(V:N.Nodup)(k:N[i]? =O y)(t:Loc scope0 y)(hi:PI (aT (cu P w) P w K mg B' N V' scope0 f cd A U' s₀ H₀ E) (.Name x px) iter wi)(R:∀xe m C l s H,Passes (cu P w) ((aT (cu P w) P w K mg B' N V' scope0 f cd A U' s₀ H₀ E).fA xe (x::N) S' m C l s H) E->PE ((aT (cu P w) P w K mg B' N V' scope0 f cd A U' s₀ H₀ E).fA xe (x::N) S' m C l s H) elt te)(G:VP (.ListComp elt [⟨.Name x px,iter,[],0⟩] S' pos) (O (.Name y n)) g.line (aT (cu P w) P w K mg B' N V' scope0 f cd A U' s₀ H₀ E).env=pure T')(hs:∀x,UC iter (aT (cu P w) P w K mg B' N V' scope0 f cd A U' s₀ H₀ E).env x=pure x:=by intro _;rfl):
  PS (aT (cu P w) P w K mg B' N V' scope0 f cd A U' s₀ H₀ E) (.Assign [.Name y n] (.ListComp elt [⟨.Name x px,iter,[],0⟩] S' pos) g) (lO (mx wi gn te) (eY i)):=by
 have R:∀xe m C l s H,Passes (cu P w) ((aT (cu P w) P w K mg B' N V' scope0 f cd A U' s₀ H₀ E).fA xe (x::(aT (cu P w) P w K mg B' N V' scope0 f cd A U' s₀ H₀ E).N) S' m C l s H) E->PE ((aT (cu P w) P w K mg B' N V' scope0 f cd A U' s₀ H₀ E).fA xe (x::(aT (cu P w) P w K mg B' N V' scope0 f cd A U' s₀ H₀ E).N) S' m C l s H) elt te:=R;have V:(aT (cu P w) P w K mg B' N V' scope0 f cd A U' s₀ H₀ E).N.Nodup:=V;have k:(aT (cu P w) P w K mg B' N V' scope0 f cd A U' s₀ H₀ E).N[i]? =O y:=k;have t:Loc (aT (cu P w) P w K mg B' N V' scope0 f cd A U' s₀ H₀ E).env.scope y:=t;have hf:(aT (cu P w) P w K mg B' N V' scope0 f cd A U' s₀ H₀ E).fn y=T'\/(aT (cu P w) P w K mg B' N V' scope0 f cd A U' s₀ H₀ E).env.scope.names.lookup y=O .local:= .inl U;generalize M:(aT (cu P w) P w K mg B' N V' scope0 f cd A U' s₀ H₀ E)=X at *;intro A' s σ H B I h;obtain⟨m,a1,hc⟩:=pR (env:=X.env) (S':=S') λy t hf=>I.ok.has y.1 (S.free y t hf);rw[aad _ _ _ _ G];refine B1 (UM (B1 ?_));show Ki _ _ (do let _<-comprehension (.ListComp elt [⟨.Name x px,iter,[],0⟩] S' pos) S' X.env _ (newList []) F' (eval iter X.env) (O (assign (.Name y n) X.env))) _ _ s;refine B1 (cR (VA (use:=O (assign (.Name y n) X.env)) (Q:=λ_ d=>SP X A' B .next d) U hs a1 S.kind S.names (cR (hi A' s σ H _ I h) λxv s1 h1=>cR h1 λa5 s2 h2=>?_)) λ_ d u=>GE (GE u));obtain⟨it,l,tn,J,H2,e,I2,T,W,f2,q⟩:=h2;subst e
 refine lF (Q:=λv H=>B.nx (σ.set i (O v)) H) (RR:=λa3 C=>YS (Pp X.prog X.w) X.A X.xe (O (assign (.Name y n) X.env)) (λ_ d=>SP X A' B .next d) a3 C) (xe:=λC s3 H3 e d=>∃c j H1 s1,Inv (X.gg (x::X.N) S' m C l s3 H3) c j H1 s1/\cu P w X.stack H1 s1 E e d) S.QR (by rw[<-M];rfl) hc (λC s H=>S.RM _ _ _ _ _ _) (λC s H=>cv)
  (λC s H=>R _ _ _ _ _ _ λc j H' s0 e d r u=>⟨_,_,_,_,r.RP,u⟩) I2 T W f2 (tV q) ?_ ?_
 ·intro D C d H' m' r hn p u;show Ki _ _ (assign (.Name y n) X.env (.ref D)) _ _ d;refine X0 (nA (v:= .ref D) r V k t U (λF a0 ch=>?_) hf);obtain⟨a,sb,ha⟩:=ch
  have ne:C≠a:=by
   rcases ha with z|z
   ·rw[z];exact p.2.1
   ·exact SZ (p.2.2.2.2.1 y a z)
  refine⟨m',hn.sameBut sb ne,λh' a4=>⟨_,H',a0.turned (t':=F.toks) (λb o hb e=>(a4.2 b hb).trans e) p.1 p.2.1 p.2.2.2.1 p.2.2.2.2.1 p.2.2.2.2.2,u⟩⟩
 ·rintro D C s3 H3 e d I3 hC f3 ⟨c,j,H1,s1,r,a2⟩;have :=qE (use:=O (assign (.Name y n) X.env)) (QQ:=λ_ d=>SP X A' B .next d) (D:= .ref D) M.symm I3 hC f3 r a2;subst M;exact this
end
def sF:entryFor table "proto.unchain"=O Builtin.«proto.unchain»:=entryFor_of_tree (by kernel_rfl)
section
variable{prog:To}
def CQ{α:Type}{d g:Obj}{f e:Us B5}{Q:α->FM->Prop}(j:A.handled=O (.ref b))(m:s.heap.get? b=O g)(k:g.data= .fields e)(l:e[2]? =O .none)(c:b≠a)(n:s.heap.get? a=O d)(o:d.data= .fields f)(i:2<f.size)(h:E (.ref a) {s with heap:=s.heap.update a (U3 (·.setIfInBounds 2 (.ref b)))}):Ki (Pp prog w) A (raiseNew (.ref a):Sem α) Q E s:=by
 unfold raiseNew;refine B1 (wpAny_handled ?_);rw[j];dsimp only;rw[KF (by simpa using c)];refine B1 (Uh (wpAny_runValue (Wh sF ?_)));unfold Builtin.«proto.unchain»;dsimp only;refine B1 (Ui m k l ?_);rw[KF (by simp)];refine B1 (GE (GE ?_));show Ki _ _ (setField (.ref a) 2 (.ref b) >>=λ_=>throw (.ref a)) _ _ s;exact B1 (Wn n o i (aam h))
variable{nm q:Z}{N:B4}{bs bm:L B5}{hdct:Tq}{sn:L Z}{sub:L B5}{ab:Tq}{col:O' Tq}{dd:O' B4}{k0 k1 k2 k3 k5:O' B5}{newId:UP}
def AA{x:Expr}{k:M'}{Q:Flow->FM->Prop}(a:bm.contains (.type "BaseException")=T')(J:A.handled=O (.ref b))(h:Ki (Pp prog w) A (eval x env) (λv s1=>∃e t l u y,v= .ref e/\s1.heap.get? C=O (Wx nm q C N bs bm hdct sn sub ab col dd k0 k1 k2 k3 k5 newId)/\s1.heap.get? e=O (dG C t l)/\b≠e/\s1.heap.get? b=O u/\u.data= .fields y/\y[2]? =O .none/\
   ∀o,Ur e s1.heap o->o.get? e=O {cls:= .ref C,dict:=l,data:= .fields #[.ref t,.none,.ref b,.none,.bool T',.none]}->E (.ref e) {s1 with heap:=o}) E s):
  Ki (Pp prog w) A (exec (.Raise (O x) (O (.Constant .none k cp)) pos) env) Q E s:=by
 have G:(Kf C::bm).contains (.type "BaseException")=T':=by rw[aa3,a,Bool.or_true]
 show Ki (Pp prog w) A (do XB pos;ZG env (O (do let v<-eval x env;XB pos;pure v)) (O (do let v<-eval (.Constant .none k cp) env;XB pos;pure v))) Q E s;refine B1 (UM ?_);unfold ZG;dsimp only;refine B1 (B1 (SW h (λv s1 f=>B1 (UM (GE ?_))) λ_ _ z=>z));obtain⟨e,t,l,u,y,rfl,j,r,i,K,H,I,F⟩:=f;obtain⟨m,g,d,P,M⟩:=s1
 repeat (first|with_reducible refine UB r ?_|with_reducible refine UB j ?_|(with_reducible refine XH j ?_;rw[G])|wp_step)
 have B:C≠e:=λz=>by
  have f:=j;rw[z]at f;have h2:=r.symm.trans f
  cases h2
 generalize p:(m.update e (U3 λx=>x.setIfInBounds 3 Uo)).update e (U3 λx=>x.setIfInBounds 4 (V8 T'))=h2
 have n:Ur e m h2:=by rw[<-p];exact(Vz m e _).trans (Vz _ e _)
 have c:h2.get? e=O {cls:= .ref C,dict:=l,data:= .fields #[.ref t,.none,.none,.none,.bool T',.none]}:=by
  rw[<-p];have f:=Tj (U3 (·.setIfInBounds 3 Uo)) r U;exact Tj (U3 (·.setIfInBounds 4 (V8 T'))) f U
 clear p;have D:=(n.2 C B).trans j;refine UB D (GE ?_);rw[KF (by rfl)];refine GE ?_;unfold setFlight;refine B1 (B1 (Ui c U U ?_));rw[GM (by simp)];refine GE (CQ J ((n.2 b i).trans K) H I i c U (by show 2<6;decide) (F _ (n.trans (Vz h2 e _)) ?_));exact Tj (U3 (·.setIfInBounds 2 (Kf b))) c U
end
section
variable{E:XK}
def Ez{t:B4}{o:Obj}{p:Us B5}(I:Inv (aT (cu P w) P w K mg B' N V' S' f cd A U' s H E) A' σ H1 s1)(keeps:∀b o,s1.heap.get? b=O o->h2.get? b=O o)(h:s1.heap.get? a=Y)(B:h2.get? a=O o)(T:o.cls= .ref C)(hd:o.dict=Y)(hf:o.data= .fields p)(h0:p[0]? =O (.ref t))(h1:p[1]? =O .none)(q:E (.ref C) Y H1):
  (aT (cu P w) P w K mg B' N V' S' f cd A U' s H E).xe (.ref a) {s1 with heap:=h2}:=by
 have X:=I.stack;have r:∀env∈(aT (cu P w) P w K mg B' N V' S' f cd A U' s H E).stack,∀b,env.frame=O b->b∈fz (aT (cu P w) P w K mg B' N V' S' f cd A U' s H E).stack:=λenv V b Q=>WO.mpr ⟨env,V,Q⟩;have m:=W5 (as:=fz (aT (cu P w) P w K mg B' N V' S' f cd A U' s H E).stack) X r;have v:h2.FunFrames (SS s1.heap (fz (aT (cu P w) P w K mg B' N V' S' f cd A U' s H E).stack)) (aT (cu P w) P w K mg B' N V' S' f cd A U' s H E).stack:=m.of_keeps λb o e _=>⟨o,keeps b o e,U⟩;have st:Z8 (SS s1.heap (fz (aT (cu P w) P w K mg B' N V' S' f cd A U' s H E).stack)) h2:=λb o q=>keeps b o (U8 _ q)
 have l:(SS s1.heap (fz (aT (cu P w) P w K mg B' N V' S' f cd A U' s H E).stack)).get? a=Y:=by
  cases e:(SS s1.heap (fz (aT (cu P w) P w K mg B' N V' S' f cd A U' s H E).stack)).get? a with
  |none=>rfl
  |some u=>rw[U8 _ e]at h;cases h
 have na:H1 a=Y:=by
  cases e:H1 a with
  |none=>rfl
  |some o=>
   obtain⟨u,F⟩:=(I.hok a o e).ex;rw[h]at F
   cases F
 have xd:XD h2 a Y:=⟨_,B,hd,λz=>KB U z⟩
 have go:Ki (Pp P w) (A.deeper (envOfC V' S' s.heap.objs.size f cd)) (leaving (envOfC V' S' s.heap.objs.size f cd) (.ref a))
   (λ_ i=>∃g,i={s1 with heap:=g}/\Heap.LeftW (SS s1.heap (fz (aT (cu P w) P w K mg B' N V' S' f cd A U' s H E).stack)) (envOfC V' S' s.heap.objs.size f cd::U') a o.cls (.ref t) h2 g) (λ_ _=>False) {s1 with heap:=h2}:=
  aap (s:={s1 with heap:=h2}) (env:=envOfC V' S' s.heap.objs.size f cd) (outer:=U') I.ok.frames v U B st l hf h1 h0 λg L3=>⟨g,U,L3⟩
 rw[T]at go;refine SW (iV (s:={s1 with heap:=h2}) (gL _ _) xd go) (λ_ i M=>?_) λ_ _ z=>z.elim;obtain⟨⟨g,G,n,⟨_,_,k2⟩,k3,k4⟩,x⟩:=M;subst G;obtain⟨c,g1,d1,t1,k⟩:=s1;have j:∀b d,c.get? b=O d->b∉fz (aT (cu P w) P w K mg B' N V' S' f cd A U' s H E).stack->∃D,(SS c (fz (aT (cu P w) P w K mg B' N V' S' f cd A U' s H E).stack)).get? b=O D/\(H1 b=Y->D=d):=λb d e nb=>⟨d,T6 _ e nb,λ_=>U⟩;have un:Un (fz (aT (cu P w) P w K mg B' N V' S' f cd A U' s H E).stack) [] H1 H1 c c:=Un.refl;have R:Heap.UpToSlots c g:=λb o e S=>k4 b o (keeps b o e) S
 have y:∀b o,H1 b=O o->∀d,c.get? b=O d->(SS c (fz (aT (cu P w) P w K mg B' N V' S' f cd A U' s H E).stack)).get? b=O d:=λb o e d eb=>T6 _ eb λz=>by
  rw[I.kF b z]at e
  cases e
 have J:=I.mj (s':=⟨g,g1,d1,t1,k⟩) (ch:=[]) U (vl un m j n R) (kE I.hok y n) I.bare (λb z=>KB z (by simp));have eo:k=s.os:=J.os;subst eo;exact vb J ⟨n,l,k2,k3⟩ x na (ni I.hok y n) I j q
def O5(c f:B4)(E:XK)(e:XK->TS):TS:=λD σ H=>e (λcls d b=>cls= .ref c/\d≠Y/\∀a,b a=Y->E (.ref f) Y (upd b a (xh c a d))) {nx:=D.nx,rt:=λ_ _=>False} σ H
variable{CB CN:B4}{c1 c2:Z}{np1 np2 hp1 tpos cq rp:Pos}{kk:M'}{tb:XK->TS}{body:L SX}
def zb(p:X=aT (cu P w) P w K mg B' N V' S' f cd A U' s H E)(hb:∀(E:XK)(pn:L (B4×Obj))(xe:B5->FM->Prop),Passes (cu P w) {X with pn:=pn,xe:=xe} E->si {X with pn:=pn,xe:=xe} body (tb E))(g1:Gl X c1)(m1:mg c1=O (.ref CB))(D1:Cy K CB)(b5:T3 K CB (.ref CB)=O T')(c:T4 K CN gM "ValueError.__new__"=T')(g2:Gl X c2)(m2:mg c2=O (.ref CN))(kp:Td K (.ref CN)=T')(a5:(c1==("__debug__":Z))=F':=by decide)(b0:(c2==("__debug__":Z))=F':=by decide):
  PS X (.Try body [.ExceptHandler (O (.Name c1 np1)) Y [.Raise (O (.Call (.Name c2 np2) [] [] cp)) (O (.Constant .none kk cq)) rp] hp1] [] [] tpos) (O5 CB CN E tb):=by
 have hP:X.prog=P:=by rw[p];rfl
 have hw:X.w=w:=by rw[p];rfl
 have hK:X.K=K:=by rw[p];rfl
 have hM:X.mg=mg:=by rw[p];rfl
 have y:X.stack=X.env::X.outer:=by rw[p];rfl
 have b9:X.env.frame=O X.env.locals:=by rw[p];rfl
 have po:∀a:B4,PassesOwnAt (Pp P w) (X.A.mark (O (.ref a))) X.A X.env X.xe:=λa=>by rw[p];exact PassesOwnAt.leaving
 have fm:∀{A':L (B4×Obj)}{σ:St}{H1:Hp}{s1:FM}{h2:T9}{a C t:B4}{o:Obj}{vs:Us B5},Inv X A' σ H1 s1->(∀b o,s1.heap.get? b=O o->h2.get? b=O o)->s1.heap.get? a=Y->h2.get? a=O o->o.cls= .ref C->o.dict=Y->o.data= .fields vs->vs[0]? =O (.ref t)->vs[1]? =O .none->E (.ref C) Y H1->X.xe (.ref a) {s1 with heap:=h2}:=λI=>by
  subst p;exact Ez I
 subst hP hw hK hM;clear p;intro A' s σ H D I h;refine abn ?_
 have v:=hb (λcls r k=>cls= .ref CB/\r≠Y/\∀a,k a=Y->E (.ref CN) Y (upd k a (xh CB a r))) (X.pn++A') (λe s1=>∃d H1 s0,Inv X A' d H1 s0/\cu X.prog X.w X.stack H1 s0 (λcls r k=>cls= .ref CB/\r≠Y/\∀a,k a=Y->E (.ref CN) Y (upd k a (xh CB a r))) e s1)
  (λc5 d k s0 e s' I' hq=>⟨d,k,s0,I'.JV,hq⟩) [] s σ H _ I.LD h
 refine SW v (λf s1 z=>?_) (λev s1 z=>?_)
 ·cases f with
  |next=>
   obtain⟨d,k,I',q⟩:=z;exact VG ⟨d,k,I'.JV,q⟩
  |brk=>obtain⟨_,_,_,V⟩:=z;exact V.elim
  |cont=>obtain⟨_,_,_,V⟩:=z;exact V.elim
  |ret u=>obtain⟨_,_,_,_,_,V⟩:=z;exact V.elim
 ·obtain⟨d,H1,s0,I1,z⟩:=z;obtain⟨a,t,cls,r,B,k,rfl,os,a1,un,c7,fl,xd,na,a7,b8,q⟩:=z
  have fr:X.A.frames=O (X.env::X.outer):=by rw[<-y];exact I.ok.frames
  have b6:TU B (X.env::X.outer) a cls (.ref t) s1.heap:=by rw[<-y];exact fl
  have a8:Ki (Pp X.prog X.w) X.A (noteFrame (.ref a) X.env) (λ_ s4=>∃n,s4={s1 with heap:=n}/\aa5 B (X.env::X.outer) a cls (.ref t) X.env.locals n/\s1.heap.UpToSlots n) (λ_ _=>False) s1:=Yx fr b9 b6 λn f4 u4=>⟨n,U,f4,u4⟩;refine SW (iV (mW _ _) xd a8) (λ_ s4 z=>?_) λ_ _ z=>z.elim;obtain⟨⟨n,e4,f4,u4⟩,x4⟩:=z;subst e4;have b7:Ki (Pp X.prog X.w) X.A (setFlight (.ref a) Y) (λ_ s5=>∃g,s5={s1 with heap:=g}/\TU B (X.env::X.outer) a cls (.ref t) g/\n.UpToSlots g) (λ_ _=>False) {s1 with heap:=n}:=ZR (s:={s1 with heap:=n}) f4 λg R u5=>⟨g,U,R,u5⟩;refine SW (iV (s:={s1 with heap:=n}) (gD _ _) x4 b7) (λ_ s5 z=>?_) λ_ _ z=>z.elim;obtain⟨⟨g,e5,R,u5⟩,x5⟩:=z;subst e5;have us:s1.heap.UpToSlots g:=u4.trans u5;rw[<-y]at R
  have J:∀(C:B4),cls= .ref C->∀j:FM,j.gens=s1.gens->j.os=s1.os->TU B X.stack a (.ref C) (.ref t) j.heap->g.UpToSlots j.heap->XD j.heap a r->Inv X A' d (upd k a (xh C a r)) j:=λC eC j eg eo G u6 x6=>by
   obtain⟨q1,q2⟩:=HL (P:=X.prog) (w:=X.w) un c7 fl.2.2.1 na a7 b8 (us.trans u6) G x6;exact I1.mj (s':=j) (ch:=[]) (eo.trans os) q1 q2 (by rw[eg];exact a1) (λb z=>KB z (by simp))
  obtain⟨oe,ws,c3,S,d0,d1⟩:=R.first;obtain⟨d3,T⟩:=D1.cd;obtain⟨rfl,c9,q1⟩:=q;have J5:=J CB U {s1 with heap:=g} rfl U R (aaL _) x5;refine aaC (aae (iE (X:=X.Eu (.ref a)) (J5.Eu _) g1 m1 ?_ a5)) (by intro q;cases q);refine tT (s:={s1 with heap:=g}) J5.jG c3 S T D1.tp D1.be b5 ?_;refine codeAny_handlers_suite ?_;have b3:Ki (Pp X.prog X.w) (X.A.mark (O (.ref a))) (setFlight (.ref a) Y) (λ_ j=>∃m,j={s1 with heap:=m}/\TU B X.stack a (.ref CB) (.ref t) m/\g.UpToSlots m) (λ_ _=>False) {s1 with heap:=g}:=lands_againW (s:={s1 with heap:=g}) R λm G u6=>⟨m,U,G,u6⟩;refine SW (iV (s:={s1 with heap:=g}) (gD _ _) x5 b3) (λ_ j z=>?_) λ_ _ z=>z.elim;obtain⟨⟨m,e6,G,u6⟩,x6⟩:=z;subst e6;have J6:=J CB U {s1 with heap:=m} rfl U G u6 x6;obtain⟨d2,a4,i,_,l,_⟩:=G.first;obtain⟨o6,a6,_,c8⟩:=x6;have c6:=i.symm.trans a6
  cases c6
  have c0:=c8 c9 a4 l;obtain⟨bm,ns,nm,qn,bs,hd,sn,sub,ab,col,dd,k0,k1,k2,k3,k5,mN,a0,b2,a9,a3⟩:=ub J6.jG c;have x:bm.contains (.type "BaseException")=T':=a3.hasType bf
  have b4:Ki (Pp X.prog X.w) (X.A.mark (O (.ref a))) (exec (.Raise (O (.Call (.Name c2 np2) [] [] cp)) (O (.Constant .none kk cq)) rp) X.env) (λ_ _=>False) X.xe {s1 with heap:=m}:=by
   refine AA (C:=CN) (nm:=nm) (q:=qn) (N:=ns) (bs:=bs) (bm:=bm) (hdct:=hd) (sn:=sn) (sub:=sub) (ab:=ab) (col:=col) (dd:=dd) (k0:=k0) (k1:=k1) (k2:=k2) (k3:=k3) (k5:=k5) (newId:="ValueError.__new__") (b:=a) x U ?_;refine Uv (iE (X:=X.Eu (.ref a)) (J6.Eu _) g2 m2 ?_ b0);refine aaF J6.jG kp ?_;refine aaD Uq bf Uq a3 a0 b2 a9 (λh' a2 M=>?_) (Sm _);obtain⟨t2,e2,_⟩:=M.there
   have ne:∀b o,m.get? b=O o->b≠a2:=λb o e z=>by
    rw[z,M.new]at e
    cases e
   refine⟨a2,t2,Y,_,a4,U,M.keeps _ _ a0,e2,ne a _ i,M.keeps _ _ i,l,c0,λc4 sb b1=>?_⟩;exact fm (s1:={s1 with heap:=m}) (h2:=c4) J6 (λb o e=>(sb.2 b (ne b o e)).trans (M.keeps b o e)) M.new b1 U U U U U (q1 a na)
  refine SW (Q:=λ_ _=>False) (E:=X.xe) ?_ (λ_ _ z=>z.elim) (λe s z=>po a e s z);exact Yn (SW b4 (λ_ _ z=>z.elim) λ_ _ z=>z)
end
def Ac{d:L (Key×V)}(i:yc X.prog X.w X.K a d)(j:d.length<=sizeLine):e_ X (.type "dict") (λg H Q=>g=[.ref a]/\∀l,H l=Y->Q (.ref l) (upd H l (.dK d))):=by
 intro A' s σ H g A Q I r h;obtain⟨t,q⟩:=h;subst t;obtain⟨u,m,n⟩:=vals1 r;subst m;obtain rfl:u=Kf a:=n;obtain⟨v,C,z,p,c,e⟩:=i.is;have y:=e _ (I.jG a v p);refine kt_call_dict i.ns y.dictOf (by rw[<-c.length];exact j) λB f x=>?_;refine⟨.ref s.heap.objs.size,_,I.laid (a:=s.heap.objs.size) (o:= .dK d) (t':=s.toks) (λb q k=>?_) (B9 _) (rM j (beq_eq_false_iff_ne.mpr (SZ (Sy I.big))) c f),U,q _ (I.hok.fresh (B9 _))⟩;exact(x.2 b (Sy (Gc k))).trans (B7 _ k)
def Qh:V->L V->Hp->VK->Prop:=λx c H Q=>∃(a:B4)(b:L (Key×V))(k:Key)(z:V),x= .ref a/\c=[kV k,z]/\H a=O (.dK b)/\((∃v,du b k=O v/\Q v (upd H a (.dK (nq b k))))\/(du b k=Y/\Q z H))
def JQ:EM X "dict.pop" Qh:=by
 intro A' s σ H x w v t Q I l n h;obtain⟨a,A,k,z,j,i,d,h⟩:=h;subst j i;obtain rfl:v=Kf a:=l;obtain⟨u,r,f,e,p⟩:=n.two;subst f
 rcases h with⟨y,o,q⟩|⟨m,q⟩
 ·exact Pw I d e o (.inr ⟨r,U⟩) λB g c b=>⟨y,_,c,b,q⟩
 ·exact Mr I d e m λg c=>⟨z,H,c,p,q⟩
def Lz:V->L V->Hp->VK->Prop:=λx c H Q=>∃(a:B4)(b:L (Key×V))(k:Key)(z:V),x= .ref a/\c=[kV k,z]/\H a=O (.dK b)/\b.length<sizeLine/\((∃v,du b k=O v/\Q v H)\/(du b k=Y/\Q z (upd H a (.dK (putK b k z)))))
theorem sg:EM X "dict.setdefault" Lz:=by
 intro A' s σ H x V v T Q I K N h;obtain⟨a,p,k,z,E,D,l,m,h⟩:=h;subst E D;obtain rfl:v=Kf a:=K;obtain⟨u,r,B,P,A⟩:=N.two;subst B;obtain⟨C,t,e,c,dd⟩:=xF I.hok l
 have R:e.length<=sizeLine:=by rw[<-c.length];exact C
 refine VS YC dd.typeIs PySem.F.entry_dict_setdefault (PySem.F.args_dict_setdefault_3 _ _ _) (kt_meets_setdefault (bx X.prog X.w) a (mq P) t r) ⟨e,dd,R,λW n=>?_,λi G f S=>?_⟩
 ·rcases h with⟨y,j,q⟩|⟨i,q⟩
  ·obtain⟨w2,b,g⟩:=il.some_of (v:=y) (o:=V_ e k) (by rw[<-j];exact c.val k);rw[n]at b
   cases b
   exact⟨y,H,I.tok _,g,q⟩
  ·have d:V_ e k=Y:=il.none_of (by rw[<-i];exact c.val k);rw[n]at d
   cases d
 ·rcases h with⟨y,j,q⟩|⟨_,q⟩
  ·obtain⟨w2,b,_⟩:=il.some_of (v:=y) (o:=V_ e k) (by rw[<-j];exact c.val k);rw[i]at b
   cases b
  ·have J:∃q,G.get? a=O q:=let⟨q,_,_,hq,_⟩:=f;⟨q,hq⟩
   have M:(putK p k z).length<=sizeLine:=by have :=fV p k z;lia
   exact⟨z,_,kW I (by rw[l];exact T8) S J (rM M t (c.put k A) f),A,q⟩
end L2
namespace PySem
variable{A:UU}{E:B5->FM->Prop}{I l:B4}{prog:To}{s:FM}{w:TV}{xs:Us B5}
namespace DB5
def sS:Slot "list_reverseiterator" "__length_hint__" "list_reverseiterator.__length_hint__":=
 .of (owner:="list_reverseiterator") (n:="__length_hint__") (by rw[typeLookup_type,aaf];kernel_rfl) bf bf bf
  (by first|exact .inl bf|exact .inr bf) (by rw[isSubtype_type];kernel_rfl)
def zk:XU (.type "list_reverseiterator") "__len__"=pure Y:=by rw[typeLookup_type,aaf];kernel_rfl
def Fp{g:B4}{Q:Tq->FM->Prop}(c:s.heap.IsRevIter g l ((xs.size:J')-1))(k:s.heap.IsList l xs)(j:xs.size<=sizeLine)(h:∀b i,s.toks<=i->Q b {s with toks:=i}):Ki (Pp prog w) A (YN (.ref g)) Q E s:=by
 have e:=j;rw[U6]at e;unfold YN;refine B1 (Yw c.typeIs zk ?_);show Ki _ _ (specialOf (Kf g) (Ua "__length_hint__") >>= _) _ _ _;refine B1 (Yw c.typeIs sS.lookup ?_);generalize d:("list_reverseiterator.__length_hint__":UP)=f
 wp_delta
 rw[show splitId f=O ("list_reverseiterator","__length_hint__")from by subst d;decide +kernel];subst d;refine B1 (wpAny_isInstance (T:="list_reverseiterator") (b:=T') c.typeIs (by rw[isSubtype_type];kernel_rfl) ?_);refine Xb (λa=>KB a bp) (λ_=>?_);refine Xb (λ_=>?_) (λa=>KB bf a);refine Xb (λa=>KB a bf) (λ_=>?_);exact GE (h _ _ (B9 _))
section
variable{R:YW->FM->Prop}
theorem As(hh:A.in1.handled=Y)(hz:xs.size<=sizeLine)(D:l≠I)(S:B4)(p:S≠I)(x:S≠l)(res:B5)(m:M')(g:s.heap.IsRevIter I l ((xs.size:J')-1))(N:s.heap.IsList l xs)(Q:s.heap.get? S=O {cls:= .type "list",data:= .seq #[] m})(hR:∀H k a t,s.toks<=k->(∀b o,b≠S->b≠I->s.heap.get? b=O o->H.get? b=O o)->H.get? S=O {cls:= .type "list",dict:=Y,data:= .seq a t,slots:=#[]}->ItemsOf (λi v=>xs[xs.size-1-i]? =O v) a xs.size->R (.ok (.ret res)) {s with heap:=H,toks:=k}):
  Ki (Pp prog w) A.in1 (Vg (.ref S) (.ref I) res)
   (λP n=>match P with| .done f=>R (.ok f) n| .again t=>t.quiet=T'/\UV (Pp prog w) A t R n) (λe n=>R (.error e) n) s:=by
 have W:=Walks.listRev (prog:=prog) (w:=w) (A:=A.in1) hh I l D xs
 have K:S∉[I,l]:=by simp only[PP,SO,or_false,not_or];exact⟨p,x⟩
 have X:(xs.size:J')-1-((0:M'):J')=(xs.size:J')-1:=by lia
 have y:∀(h:T9)(d k:M'),s.toks<=k->h.IsRevIter I l ((xs.size:J')-1)->h.IsList l xs->(∀b o,b≠S->s.heap.get? b=O o->h.get? b=O o)->
   h.get? S=O {cls:= .type "list",data:= .seq #[] d}->UV (Pp prog w) A (.builtin "list.extend.loop" ⟨[.ref S,.ref I,res],[]⟩) R {s with heap:=h,toks:=k}:=by
  intro h d k j M E V r;refine codeAny_extend_loopS W.toS hz S K res xs.size 0 _ #[] d U (Sm _) ⟨Sm _,by rw[X];exact M,E⟩ r (ItemsOf.nil _) λn a t G C z=>?_;have u:=G.toks;rw[Moved.eq_with G];refine hR n.heap n.toks a t (Tf j u) (λb o B J e=>G.heap b o (λhmem=>?_) (V b o B e)) C z
  rcases PP.mp hmem with e'|hmem
  ·exact B e'
  ·exact J (Dk.mp hmem)
 unfold Vg;refine B1 (wpAny_typeOf g.typeIs ?_)
 have M:ZE (.ref S) (.ref I)=F':=by simp[ZE,p]
 have E:(VN "list_reverseiterator"==VN "list")=F':=by decide
 have T:(VN "list_reverseiterator"==VN "tuple")=F':=by decide
 simp only[M,E,T,XS,US,Wp];refine B1 (Xl g ?_);refine B1 (Uh (Fp g N hz λb k j=>?_));refine Xb (λ_=>?_) (λ_=>GE ⟨VB aaM _,y _ m _ j g N (λb o _ e=>e) Q⟩);refine B1 (YQ ?_);refine B1 ?_;show Ki _ _ (Yo S (·.push .none) >>=λ_=>Yo S (·.pop)) _ _ _;refine B1 (VD (s:={s with toks:=k}) Q U ?_);have c:=Tj (UQ (·.push Uo)) Q U;refine VD (hz:=by seq_fits) (s:={s with heap:=s.heap.update S (UQ (·.push Uo)),toks:=k}) c U ?_;have q:=Tj (UQ (·.pop)) c U
 have oth:∀b o,b≠S->s.heap.get? b=O o->((s.heap.update S (UQ (·.push Uo))).update S (UQ (·.pop))).get? b=O o:=
  λb o B e=>(Th _ _ (SZ B)).trans ((Th _ _ (SZ B)).trans e)
 refine GE ⟨VB aaM _,y _ _ _ j (g.at λo e=>oth _ _ (SZ p) e) (N.at λo e=>oth _ _ (SZ x) e) oth q⟩
def GU(E:A.in1.handled=Y)(G:xs.size<=sizeLine)(t:l≠I)(S:B4)(j:S≠I)(h:S≠l)(B:s.heap.IsRevIter I l ((xs.size:J')-1))(C:s.heap.IsList l xs)(u:s.heap.get? S=O {cls:= .type "list",data:= .seq #[]})(D:∀g p a d,s.toks<=p->(∀b o,b≠S->b≠I->s.heap.get? b=O o->g.get? b=O o)->g.get? S=O {cls:= .type "list",dict:=Y,data:= .seq a d,slots:=#[]}->ItemsOf (λi v=>xs[xs.size-1-i]? =O v) a xs.size->R (.ok (.ret .none)) {s with heap:=g,toks:=p}):
  Ki (Pp prog w) A.in1 (Builtin.«list.__init__» ⟨[.ref S,.ref I],[]⟩)
   (λr m=>match r with| .done f=>R (.ok f) m| .again d=>d.quiet=T'/\UV (Pp prog w) A d R m) (λe m=>R (.error e) m) s:=by
 show Ki _ A.in1 (do let y<-Z_ (.ref S);Builtin.List.listUpdate (.ref S) (λ_=>#[]);letGo y.toList.reverse;Vg (.ref S) (.ref I) .none) _ _ s;refine B1 ?_;unfold Z_;refine B1 (Vh u U (GE ?_));show Ki _ A.in1 (Yo S (λ_=>#[]) >>=λ_=>letGo (#[]:Us B5).toList.reverse >>=λ_=>Vg (.ref S) (.ref I) .none) _ _ s;refine B1 (VD u U ?_);have c:=Tj (UQ (λ_=>(#[]:Us B5))) u U
 have oth:∀b o,b≠S->s.heap.get? b=O o->(s.heap.update S (UQ (λ_=>(#[]:Us B5)))).get? b=O o:=
  λb o n e=>(Th _ _ (SZ n)).trans e
 refine B1 (Wv ?_);refine As (s:={s with heap:=s.heap.update S (UQ (λ_=>(#[]:Us B5)))}) E G t S j h .none _ (B.at λo e=>oth _ _ (SZ j) e) (C.at λo e=>oth _ _ (SZ h) e) c λg p a d z F q k=>?_;exact D g p a d z (λb o n x e=>F b o n x (oth b o n e)) q k
end
theorem sr{Q:B5->FM->Prop}(y:A.handled=Y)(J:xs.size<=sizeLine)(p:l≠I)(f:s.heap.IsRevIter I l ((xs.size:J')-1))(u:s.heap.IsList l xs)(G:∀i n q,s.toks<=n->(∀b o,b≠I->s.heap.get? b=O o->i.get? b=O o)->i.get? s.heap.objs.size=O {cls:= .type "list",dict:=Y,data:= .seq xs.toList.reverse.toArray q,slots:=#[]}->Q (.ref s.heap.objs.size) {s with heap:=i,toks:=n}):
  Ki (Pp prog w) A (call (.type "list") [.ref I]) Q E s:=by
 refine callType_codes (Q₁:=λh d=>h= .ref s.heap.objs.size/\d={s with heap:=s.heap.push {cls:= .type "list",data:= .seq #[]}}) F.called_list (F.typeCall_list_1 _) F.entry_list_init
  (code_list_new _ ⟨U,U⟩) λh d k=>?_
 obtain⟨rfl,rfl⟩:=k;have x:(s.heap.push {cls:= .type "list",data:= .seq #[]}).get? s.heap.objs.size=O {cls:= .type "list",data:= .seq #[]}:=Ss _ U
 have n1:s.heap.objs.size≠I:=by obtain⟨o,t,_⟩:=f;exact VW (Gc t)
 have H:s.heap.objs.size≠l:=by obtain⟨o,t,_⟩:=u;exact VW (Gc t)
 refine⟨⟨_,x,U⟩,F.args_list_init_2 _ _,GU (A:=A.in1) (s:={s with heap:=s.heap.push {cls:= .type "list",data:= .seq #[]}}) y J p _ n1 H (f.at λo e=>B7 _ e) (u.at λo e=>B7 _ e) x λi n a q r B g c=>?_⟩
 have D:a=xs.toList.reverse.toArray:=by
  apply Array.ext';apply Yg;intro j;by_cases v:j<xs.size
  ·have m:j<a.size:=by rw[c.1];exact v
   have K:=c.2 j a[j] (Y_ m);rw[Vf,Y_ m];simp only[List.toList_toArray];rw[Xk (by simpa using v),<-K];simp
  ·rw[V7 (by rw[SG,c.1];lia),V7 (by simp;lia)]
 rw[D]at g;exact⟨U,G i n q r (λb o C e=>B b o (λz=>by subst z;exact KB (Gc e) (TR _)) C (B7 _ e)) g⟩
end DB5
end PySem
namespace L2
open PySem PySem.Spec PyProof.Rows
variable{X:Cx}
def Ro(K:B0)(c:TA):TE:=λσ H Q=>c σ H λd a=>∃p b,d=[.ref p]/\bu K a p b/\∀l,a l=Y->Q (.ref l) (upd a l (.lst b.reverse))
theorem xJ{e:Expr}{A:TA}{p k w c:Pos}(P:X.calm=T')(W:Gl X "list")(J:X.mg "list"=Y)(T:UI "list"=O (.type "list"))(v:Gl X "reversed")(t:X.mg "reversed"=Y)(r:UI "reversed"=O (.type "reversed"))(N:PA X [e] A)(hs:P3 [e] X.env=[(F',eval e X.env)]:=by rfl)(g:P3 [.Call (.Name "reversed" k) [e] [] c] X.env=[(F',eval (.Call (.Name "reversed" k) [e] [] c) X.env)]:=by rfl):
  PE X (.Call (.Name "list" p) [.Call (.Name "reversed" k) [e] [] c] [] w) (Ro X.K A):=by
 intro y s σ H Q I h;refine aaB (ip I W J T (TL ?_ g U));rw[g];show Ki _ _ (spliced ((F',eval (.Call (.Name "reversed" k) [e] [] c) X.env)::[])) _ _ s;refine Ws ?_;refine aaB (ip I v t r (TL (cR (N c y s σ H _ I h) λus f ⟨vs,H1,j,D,E⟩=>?_) hs U));obtain⟨a,F,m,hq,q⟩:=E;subst m;obtain⟨u,m,S⟩:=vals1 D;subst m;obtain rfl:u=Kf a:=S;obtain⟨d,B,x,hz⟩:=j.list hq;have hl:=B.length
 have l:d.toArray.size<=sizeLine:=by rw[B8];lia
 refine aaQ x.isList ?_;refine Yl ?_
 have na:a<f.heap.objs.size:=by obtain⟨o,ho,_⟩:=x.isList;exact Gc ho
 refine PySem.DB5.sr (s:={f with heap:=f.heap.push (ZU a ((d.toArray.size:J')-1))}) (xs:=d.toArray) (j.ok.hd P) l (Sy na) ⟨_,Ss _ U,U,U⟩ (x.isList.at λo e=>B7 _ e) λM tk C R G V=>?_;have i:(f.heap.push (ZU a ((d.toArray.size:J')-1))).objs.size=f.heap.objs.size+1:=V1 ..
 have n:M.get? (f.heap.objs.size+1)=O {cls:= .type "list",dict:=Y,data:= .seq d.reverse.toArray C,slots:=#[]}:=by
  have :=V;dsimp only at this;rw[i]at this;exact this
 show EP X y σ Q (.ref (f.heap.push (ZU a ((d.toArray.size:J')-1))).objs.size) _;rw[i];refine⟨.ref (f.heap.objs.size+1),_,j.laid (a:=f.heap.objs.size+1) (o:= .lst F.reverse) (t':=tk) (λb o z=>G b o (Sy (Gc z)) (B7 _ z)) (Wd _) ⟨by rw[T7];exact hz,_,C,B.reverse,n⟩,U,q _ (j.hok.fresh (Wd _))⟩
def Pz(K:B0):R2:=λx y H Q=>OB K x y H Q\/∃a b c d,x= .ref a/\y= .ref b/\bu K H a c/\bu K H b d/\c.length≠d.length/\Q (.bl T') H
def JN(g:X.A.units<Uy):je X (compareOp .NotEq) (Pz X.K):=by
 intro n s σ H x y v u Q I e d h
 rcases h with h|h
 ·exact N_ g n s σ H x y v u Q I e d h
 obtain⟨a,b,C,D,k,j,p,t,w,q⟩:=h;subst k j;obtain rfl:v=Kf a:=e;obtain rfl:u=Kf b:=d;obtain⟨z,r,B,E⟩:=I.list p;obtain⟨f,o,c,l⟩:=I.list t;have m:=r.length;have i:=o.length;refine YU B.isList c.isList (by rw[B8,B8,<-m,<-i];exact bne_iff_ne.mpr w) g _ _ _ _ ⟨.bl _,H,I,U,q⟩
def QA(K:B0):R2:=λx y H Q=>Oc x y H Q\/∃l a z,x= .ref l/\y= .str z/\bq K H l a/\Q (.bl T') H
def Ju(e:X.A.units<Uy):je X (compareOp .NotEq) (QA X.K):=by
 intro f s σ H x y v u Q I b a h
 rcases h with h|⟨l,i,z,rfl,rfl,c,q⟩
 ·exact BI f s σ H x y v u Q I b a h
 ·obtain rfl:v=Kf l:=b;obtain⟨t,rfl⟩:=a;obtain⟨d,r,g,j⟩:=I.tuple c;exact SeqAt.RcNeAt.tuple_str z t g e _ _ _ _ ⟨.bl T',H,I,U,q⟩
def Df(K:B0)(x:Z)(b:SX)(f:B4)(a:Ud):Prop:=Nv K x (.ref f)/\c_ K x x b f a
def dY{K:B0}{h:T9}{j:Z->O' B5}{x:Z}{c:SX}{f:B4}{i:Ud}{ps:L Z}(X:K.In h)(G:h.Ns SC j)(D:Df K x c f i)(g:∀(kV d k:B5)(m:O' B4)(n l:B5)(a:L B5),a.length=ps.length->bindArgs (U9 x x (jx c) (fE c) (aj c) .none kV d k m n l) ⟨a,[]⟩=pure (ps.zip a):=by intro _ _ _ _ _ _ a b;(repeat (have e:=Ob b;clear b;obtain⟨_,a,rfl,b⟩:=e));cases RN b;rfl):Cq K j i f ps x:=⟨D.2.binds g,Sl X G D.1,D.2.kp⟩
end L2
namespace B10
open PySem L2 S2
noncomputable def top(i:M'):SX:=XG.main.body.getD i (.Pass ⟨0,0,0,0⟩)
noncomputable abbrev qA:SX:=top 1
noncomputable abbrev lN:SX:=top 2
noncomputable abbrev lB:SX:=top 3
noncomputable abbrev iN:SX:=top 8
noncomputable abbrev oa:SX:=top 9
noncomputable abbrev iM:SX:=top 10
noncomputable abbrev iH:SX:=top 11
noncomputable abbrev vQ:SX:=top 23
noncomputable abbrev rS:SX:=top 24
noncomputable abbrev uV:SX:=top 25
noncomputable abbrev mz:SX:=top 26
noncomputable abbrev pP:SX:=top 27
noncomputable abbrev jJ:SX:=top 28
noncomputable abbrev jk:SX:=top 29
noncomputable abbrev kI:SX:=top 30
noncomputable abbrev jL:SX:=top 31
noncomputable abbrev Kd:SX:=top 45
noncomputable abbrev JU:SX:=top 46
noncomputable abbrev uR:SX:=top 47
noncomputable abbrev kP:SX:=top 48
noncomputable abbrev m_:SX:=top 49
noncomputable abbrev rD:SX:=top 50
noncomputable abbrev pM:SX:=top 51
noncomputable abbrev uO:SX:=top 52
noncomputable abbrev nH:SX:=top 53
noncomputable abbrev ze:SX:=top 54
noncomputable abbrev ko:SX:=top 55
noncomputable abbrev zE:SX:=top 56
noncomputable abbrev qQ:SX:=top 57
noncomputable abbrev jz:SX:=top 58
noncomputable abbrev uL:SX:=top 59
noncomputable abbrev hJ:SX:=top 60
noncomputable abbrev va:SX:=top 61
noncomputable abbrev Au:SX:=top 62
noncomputable abbrev jY:SX:=inClass (top 65) 0
noncomputable abbrev Ll:SX:=top 70
noncomputable abbrev xm:SX:=top 71
noncomputable abbrev BC:SX:=top 72
noncomputable abbrev Cr:SX:=top 73
noncomputable abbrev ju:SX:=top 74
noncomputable abbrev qq:SX:=top 76
noncomputable abbrev ql:SX:=top 77
noncomputable abbrev lR:SX:=top 78
noncomputable abbrev nP:SX:=top 84
noncomputable abbrev jZ:SX:=top 85
noncomputable abbrev nh:SX:=top 86
noncomputable abbrev hI:SX:=top 87
noncomputable abbrev lM:SX:=top 88
noncomputable abbrev jm:SX:=inClass (top 93) 0
noncomputable abbrev mn:SX:=top 94
noncomputable abbrev l_:SX:=top 95
noncomputable abbrev zd:SX:=top 96
noncomputable abbrev kC:SX:=top 97
noncomputable abbrev kv:SX:=top 98
noncomputable abbrev kj:SX:=top 99
noncomputable abbrev kx:SX:=top 100
noncomputable abbrev kD:SX:=top 101
noncomputable abbrev iD:SX:=top 102
noncomputable abbrev jU:SX:=top 103
noncomputable abbrev kM:SX:=top 104
noncomputable abbrev jt:SX:=top 105
noncomputable abbrev jj:SX:=top 106
noncomputable abbrev jR:SX:=top 107
noncomputable abbrev gG:SX:=top 108
noncomputable abbrev mS:SX:=top 109
noncomputable abbrev kn:SX:=top 110
noncomputable abbrev eZ:SX:=top 111
noncomputable abbrev kz:SX:=top 112
noncomputable abbrev Az:SX:=top 114
noncomputable abbrev Hw:SX:=top 115
noncomputable abbrev Dn:SX:=top 116
noncomputable abbrev oh:SX:=top 117
noncomputable abbrev Eb:SX:=top 118
noncomputable abbrev lQ:SX:=top 119
noncomputable abbrev iW:SX:=top 120
noncomputable abbrev lZ:SX:=top 121
noncomputable abbrev hH:SX:=top 122
noncomputable abbrev gJ:SX:=top 123
noncomputable abbrev sM:SX:=top 124
noncomputable abbrev su:SX:=top 125
noncomputable abbrev HJ:SX:=top 126
noncomputable abbrev rE:SX:=top 130
structure aQ(mg:Z->O' B5):Prop where
 len:mg "len"=Y
 max:mg "max"=Y
 list:mg "list"=Y
 int:mg "int"=Y
 inst:mg "isinstance"=Y
 range:mg "range"=Y
 all:mg "all"=Y
 bool:mg "bool"=Y
 sum:mg "sum"=Y
 zip:mg "zip"=Y
 str:mg "str"=Y
 tuple:mg "tuple"=Y
 ord:mg "ord"=Y
 enum:mg "enumerate"=Y
 any:mg "any"=Y
 dict:mg "dict"=Y
 rev:mg "reversed"=Y
structure pH(K:B0)(mg:Z->O' B5)(tk:M'->Tok)(ad:M'->B4):Prop where
 cANCHOR_FARTHEST:mg "ANCHOR_FARTHEST"=O (.int 1000000 (tk 0))
 cOVER_PARTS:mg "OVER_PARTS"=O (.int 12 (tk 1))
 cJOINT_MOST:mg "JOINT_MOST"=O (.int 999 (tk 2))
 cPIECE_LONGEST:mg "PIECE_LONGEST"=O (.int 12 (tk 3))
 cWORD_PIECES:mg "WORD_PIECES"=O (.int 6 (tk 4))
 cWORDS_PIECES:mg "WORDS_PIECES"=O (.int 60 (tk 5))
 cFLOW_PARTS:mg "FLOW_PARTS"=O (.int 12 (tk 6))
 cFIRST_SIGN:mg "FIRST_SIGN"=O (.int 33 (tk 7))
 cLAST_SIGN:mg "LAST_SIGN"=O (.int 126 (tk 8))
 cPERCENT_SIGN:mg "PERCENT_SIGN"=O (.int 37 (tk 9))
 cBAR_SIGN:mg "BAR_SIGN"=O (.int 124 (tk 10))
 cNAME_LONGEST:mg "NAME_LONGEST"=O (.int 8 (tk 11))
 cSIZE_MOST:mg "SIZE_MOST"=O (.int 1000000 (tk 12))
 cWEIGHT_MOST:mg "WEIGHT_MOST"=O (.int 99 (tk 13))
 cRANK_MOST:mg "RANK_MOST"=O (.int 9 (tk 14))
 cALIKE_MOST:mg "ALIKE_MOST"=O (.int 9 (tk 15))
 cLINED_PARTS:mg "LINED_PARTS"=O (.int 20 (tk 16))
 cGAP_MOST:mg "GAP_MOST"=O (.int 1000 (tk 17))
 cTABLE_PARTS:mg "TABLE_PARTS"=O (.int 40 (tk 18))
 cTABLE_COLUMNS:mg "TABLE_COLUMNS"=O (.int 12 (tk 19))
 cSPAN_MOST:mg "SPAN_MOST"=O (.int 12 (tk 20))
 cBOXES_MOST:mg "BOXES_MOST"=O (.int 60 (tk 21))
 cDEEPEST:mg "DEEPEST"=O (.int 8 (tk 22))
 cTABLE_ROWS:mg "TABLE_ROWS"=O (.int 60 (tk 23))
 cFIGURES_MOST:mg "FIGURES_MOST"=O (.int 7 (tk 24))
 tANCHOR_WORDS:mg "ANCHOR_WORDS"=O (.ref (ad 0))
 sANCHOR_WORDS:∀H:Hp,bq K H (ad 0) [.str "start",.str "mid",.str "mid2",.str "end"]
 tSIDES:mg "SIDES"=O (.ref (ad 1))
 sSIDES:∀H:Hp,bq K H (ad 1) [.str "left",.str "right"]
 tLINED:mg "LINED"=O (.ref (ad 2))
 sLINED:∀H:Hp,bq K H (ad 2) [.str "row",.str "column",.str "wrap"]
 tALIGNS:mg "ALIGNS"=O (.ref (ad 3))
 sALIGNS:∀H:Hp,bq K H (ad 3) [.str "start",.str "end",.str "mid",.str "mid2"]
 tALIKE_KINDS:mg "ALIKE_KINDS"=O (.ref (ad 4))
 sALIKE_KINDS:∀H:Hp,bq K H (ad 4) [.str "leaf",.str "row",.str "column",.str "wrap"]
inductive D where
 |non
 |bl (b:Tq)
 |int (i:J')
 |str (s:Z)
 |tup (l:L D)
 |oth
inductive At(K:B0)(H:Hp):V->D->Prop
 |non:At K H .non .non
 |bl (b:Tq):At K H (.bl b) (.bl b)
 |int (i:J'):At K H (.int i) (.int i)
 |str (s:Z) (h:s.length<=sizeLine):At K H (.str s) (.str s)
 |tup {a:B4} {xs:L V} {l:L D} (h:H a=O (.tup xs)) (hl:xs.length=l.length) (he:∀(j:M')(x:V)(d:D),xs[j]? =O x->l[j]? =O d->At K H x d):At K H (.ref a) (.tup l)
 |oth {a:B4} {es:L V} (h:H a=O (.lst es)):At K H (.ref a) .oth
def At.same{K:B0}{H a:Hp}(s:aa H a){v:V}{d:D}(h:At K H v d):At K a v d:=by
 induction h with
 |non=>exact .non
 |bl b=>exact .bl b
 |int i=>exact .int i
 |str x h=>exact .str x h
 |tup h c _ e=>exact .tup (s _ _ h) c e
 |oth h=>exact .oth (s _ _ h)
inductive I0(K:B0)(j:M')(vs:L V)(H:Hp)(Q:VK):Prop
 |mk (v:V) (l:L D) (d:D) (c0:vs=[v]) (c1:At K H v (.tup l)) (c2:l[j]? =O d) (c3:∀x:V,At K H x d->Q x H)
def zZ(K:B0)(j:M'):Sp:=λa H Q _=>I0 K j a H Q
variable{H H1 H2 H':Hp}{K:B0}{j col h row w i n B c r L' x y:M'}{v:V}{d:D}{l ds es:L D}{P:To}{B':T9}{f st a:B4}{fd:Ud}{mg:Z->O' B5}{ta te:TE}{σ:St}{o:HO}{p:M'->Tq}{sps:L (M'×M')}{K':L (L Key×V)}{as:L B4}{xs ys:L V}{ad:M'->B4}{tk:M'->Tok}{nm:Z}
def At.part(h:At K H v (.tup l))(e:l[j]? =O d):∃(a:B4)(xs:L V)(x:V),v= .ref a/\bq K H a xs/\oE xs (j:J')=O x/\At K H x d:=by
 cases h with
 | @tup a xs l h b c=>
  have f:j<xs.length:=by rw[b];exact cQ e
  have ex:=B2 f;exact⟨a,xs,xs[j],U,bq.of h,aG ex,c j _ d ex e⟩
section
variable{w:TV}
noncomputable abbrev IV:L Z:=Zb
def ry:ay IV Zb (aj kP):=dH
def CM(F:c_ K "what_of" "what_of" kP f fd)(N:aQ mg):aS P w K mg B' dz 1 f fd Zb (zZ K 3):=by
 refine F.fb ry λo A m s H p Q E n h=>?_
 ·obtain⟨v,l,d,e,b,i,k⟩:=h;subst e;refine⟨_,ai (ar (cy (pv 0) af)),?_⟩
  try rw[cA]
  obtain⟨a,xs,x,rfl,j,g,c⟩:=b.part i;exact⟨_,U,a,_,_,_,U,U,j,g,k x c⟩
end
def iJ.str(x:Z)(H:Hp):iJ (Rz x) H (x.cps.toList.map λc=>V.str ⟨#[c]⟩):=
 ⟨λi H' _ a=>by rw[AC,SG]at a;exact a,λH' _=>by rw[AC,SG];exact B9 _,λi v H' b _ y=>by
  obtain⟨e,c,f,d⟩:=y
  exact⟨e,by rw[B6,Vf,f,d];rfl⟩⟩
def iJ.tup{K:B0}{a:B4}{H:Hp}{xs:L V}(h:H a=O (.tup xs)):iJ (L7 K a) H xs:=
 ⟨λi H' s c=>⟨xs,xs[i],bq.of (s _ _ h),by simp[c]⟩,λH' s=>⟨xs,bq.of (s _ _ h),B9 _⟩,λi x H' b s y=>by
  obtain⟨e,y⟩:=y
  exact⟨e,y xs (bq.of (s _ _ h))⟩⟩
def zf{α β:Type}{xs:L α}{l:L β}{p:α×β}(h:(xs.zip l)[j]? =O p):xs[j]? =O p.1/\l[j]? =O p.2:=by
 rw[List.getElem?_zip_eq_some]at h;exact h
section
variable{n:J'}
theorem wI{α β:Type}{f:β->J'}:∀{xs:L α}{l:L β},xs.length=l.length->((xs.zip l).map λp=>f p.2).sum=(l.map f).sum
 |[],[],_=>rfl
 |[],d::l,h=>nomatch h
 |x::xs,[],h=>nomatch h
 |x::xs,d::l,h=>by rw[aa2,SQ,SQ,WN,WN,wI (Z1 h)]
end
noncomputable abbrev Nc:L V:=[.str "row",.str "column",.str "wrap"]
noncomputable abbrev Bf:=Ll
noncomputable abbrev zi:=xm
noncomputable abbrev vB:=BC
noncomputable abbrev M4:=Cr
def Kp(st:B4)(H H':Hp):Prop:=∀b o,b≠st->H b=O o->H' b=O o
def Kp.refl(H:Hp):Kp st H H:=λ_ _ _ h=>h
def Kp.trans(a:Kp st H H1)(b:Kp st H1 H2):Kp st H H2:=λc o n h=>b c o n (a c o n h)
def Kp.of(s:aa H H'):Kp st H H':=λb o _ h=>s b o h
def Kp.store:Kp st H (upd H st o):=λb a n h=>by rw[ax n];exact h
def Kp.put{D:B4}(k:Kp st H H')(h:H D=Y):Kp st H (upd H' D o):=λb c n a=>by
 rw[ax (λz=>by rw[z,h]at a;cases a)];exact k b c n a
def Kp.gone{D:B4}(k:Kp st H H')(n:D≠st)(h:H' D=Y):H D=Y:=by
 cases e:H D with
 |none=>rfl
 |some o=>rw[k D o n e]at h;cases h
abbrev Tk:=M'->M'->Tq
noncomputable def gz(T:Tk)(row col w h:M'):Tq:=(Tg h).all λd=>(Tg w).all λa=> !T (row+d) (col+a)
variable{T:Tk}
def rA:gz T row col w h=T'↔∀d,d<h->∀a,a<w->T (row+d) (col+a)=F':=by
 unfold gz;rw[UW];constructor
 ·intro z d b a c;have :=UW.mp (z d (Vy.mpr b)) a (Vy.mpr c);simpa using this
 ·intro z d b;refine UW.mpr λa c=>?_;rw[z d (Vy.mp b) a (Vy.mp c)];rfl
def Jg{d a:M'}(c:d<h)(b:a<w)(t:T (row+d) (col+a)=T'):gz T row col w h=F':=by
 cases e:gz T row col w h with
 |false=>rfl
 |true=>rw[rA.mp e d c a b]at t;cases t
noncomputable def bR(T:Tk)(n w h:M'):M'->M'->M'×M'
 |0,row=>(row,0)
 |f+1,row=>match(Tg n).find? (λc=>gz T row c w h)with
  |some c=>(row,c)
  |none=>bR T n w h f (row+1)
noncomputable def jy(T:Tk)(B n w h:M'):M'×M':=bR T n w h (B+1) 0
def Bd(T:Tk)(B:M'):Prop:=∀r c,B<=r->T r c=F'
def zw(c:i<n)(a:p i=T')(d:∀j,j<i->p j=F'):(Tg n).find? p=O i:=by
 rw[ZC];exact⟨a,Vy.mpr c,λj b=>by rw[d j b];rfl⟩
def find_none(a:∀j,j<n->p j=F'):(Tg n).find? p=Y:=by
 rw[List.find?_eq_none];intro x b;rw[a x (Vy.mp b)];exact Om
def FK{f:M'}(b:i<n)(a:gz T row i w h=T')(c:∀j,j<i->gz T row j w h=F'):bR T n w h (f+1) row=(row,i):=by
 rw[bR,zw b a c]
def ug{f:M'}(a:∀j,j<n->gz T row j w h=F'):bR T n w h (f+1) row=bR T n w h f (row+1):=by
 rw[bR,find_none a]
def lq(b:Bd T B):gz T B c w h=T':=rA.mpr λd _ a _=>b _ _ (Vu _ _)
structure uE(T:Tk)(B n w h:M')(p:M'×M'):Prop where
 row:p.1<=B
 col:p.2<n
 free:gz T p.1 p.2 w h=T'
 above:∀r c,r<p.1->c<n->gz T r c w h=F'
 ahead:∀c,c<p.2->gz T p.1 c w h=F'
theorem A3(l:Bd T B)(k:0<n):∀(f row:M'),f+row=B+1->0<f->(∀r c,r<row->c<n->gz T r c w h=F')->uE T B n w h (bR T n w h f row)
 |0,row,_,q,_=>KB q (TR _)
 |f+1,row,e,_,i=>by
  cases g:(Tg n).find? (λc=>gz T row c w h)with
  |some c=>
   obtain⟨t,o,m⟩:=(ZC).mp g
   have s:bR T n w h (f+1) row=(row,c):=by rw[bR,g]
   rw[s]
   exact⟨by show row<=B;lia,Vy.mp o,t,i,λp d=>by
    have :=m p d
    simpa using this⟩
  |none=>
   have a:∀c,c<n->gz T row c w h=F':=λc b=>by
    have :=List.find?_eq_none.mp g c (Vy.mpr b);exact Vp.mpr this
   have j:row≠B:=λz=>by
    subst z;have :=a 0 k;rw[lq l]at this
    cases this
   rw[ug a]
   exact A3 l k f (row+1) aB aB λr c u b=>by
    by_cases z:r=row
    ·rw[z];exact a c b
    ·exact i r c aB b
def yH(d:Bd T B)(a:0<n):uE T B n w h (jy T B n w h):=A3 d a (B+1) 0 U (Wk _) λr c b=>KB b (U0 _)
noncomputable def cover(T:Tk)(r c w h:M'):Tk:=λx y=>T x y||(decide (r<=x)&&(decide (x<r+h)&&(decide (c<=y)&&decide (y<c+w))))
noncomputable def gS(T:Tk)(r c w d a:M'):Tk:=λx y=>T x y||((decide (r<=x)&&(decide (x<r+d)&&(decide (c<=y)&&decide (y<c+w))))||(decide (x=r+d)&&(decide (c<=y)&&decide (y<c+a))))
theorem xV(T:Tk)(r c w:M'):gS T r c w 0 0=T:=by
 funext x y
 unfold gS
 have a:(decide (r<=x)&&(decide (x<r+0)&&(decide (c<=y)&&decide (y<c+w))))=F':=by
  by_cases h:r<=x
  ·rw[GT (show¬x<r+0 by lia)];simp
  ·rw[GT h];rfl
 have b:(decide (x=r+0)&&(decide (c<=y)&&decide (y<c+0)))=F':=by
  by_cases h:c<=y
  ·rw[GT (show¬y<c+0 by lia)];simp
  ·rw[GT h];simp
 rw[a,b];simp
theorem x_(T:Tk)(r c w d a:M')(x y:M'):gS T r c w d (a+1) x y=(gS T r c w d a x y||(decide (x=r+d)&&decide (y=c+a))):=by
 unfold gS;rw[Uu];simp only[Xh,Tw,UD];constructor
 ·rintro(h|h|⟨b,f,g⟩)
  ·exact .inl (.inl h)
  ·exact .inl (.inr (.inl h))
  ·by_cases e:y=c+a
   ·exact .inr ⟨b,e⟩
   ·exact .inl (.inr (.inr ⟨b,f,aB⟩))
 ·rintro((h|h|⟨b,f,g⟩)|⟨b,f⟩)
  ·exact .inl h
  ·exact .inr (.inl h)
  ·exact .inr (.inr ⟨b,f,aB⟩)
  ·exact .inr (.inr ⟨b,aB,aB⟩)
theorem zL(T:Tk)(r c w d:M'):gS T r c w d w=gS T r c w (d+1) 0:=by
 funext x y
 unfold gS;rw[Uu];simp only[Xh,Tw,UD];constructor
 ·rintro(h|h|⟨g,f,a⟩)
  ·exact .inl h
  ·exact .inr (.inl ⟨h.1,aB,h.2.2⟩)
  ·exact .inr (.inl ⟨aB,aB,f,a⟩)
 ·rintro(h|⟨g,f,a,b⟩|h)
  ·exact .inl h
  ·by_cases e:x=r+d
   ·exact .inr (.inr ⟨e,a,b⟩)
   ·exact .inr (.inl ⟨g,aB,a,b⟩)
  ·exact KB h.2.2 aB
theorem zR(T:Tk)(r c w h:M'):gS T r c w h 0=cover T r c w h:=by
 funext x y
 unfold gS cover;rw[Uu];simp only[Xh,Tw,UD];constructor
 ·rintro(h|h|h)
  ·exact .inl h
  ·exact .inr h
  ·exact KB h.2.2 aB
 ·rintro(h|h)
  ·exact .inl h
  ·exact .inr (.inl h)
theorem GO(a:Bd T B)(b:r<=B):Bd (cover T r c w h) (B+h):=λx y d=>by
 unfold cover;rw[a x y aB,GT (show¬x<r+h by lia)];simp
abbrev Qo:=Tk×M'×L (M'×M')
noncomputable def dM(L':M')(sps:L (M'×M')):M'->Qo
 |0=>(λ_ _=>F',0,[])
 |i+1=>
  (cover (dM L' sps i).1 (jy (dM L' sps i).1 (dM L' sps i).2.1 (L'-(sps.getD i (1,1)).1+1) (sps.getD i (1,1)).1 (sps.getD i (1,1)).2).1 (jy (dM L' sps i).1 (dM L' sps i).2.1 (L'-(sps.getD i (1,1)).1+1) (sps.getD i (1,1)).1 (sps.getD i (1,1)).2).2 (sps.getD i (1,1)).1 (sps.getD i (1,1)).2,
   (dM L' sps i).2.1+(sps.getD i (1,1)).2,(dM L' sps i).2.2++[jy (dM L' sps i).1 (dM L' sps i).2.1 (L'-(sps.getD i (1,1)).1+1) (sps.getD i (1,1)).1 (sps.getD i (1,1)).2])
noncomputable def qV(L':M')(sps:L (M'×M'))(i:M'):M'×M':=jy (dM L' sps i).1 (dM L' sps i).2.1 (L'-(sps.getD i (1,1)).1+1) (sps.getD i (1,1)).1 (sps.getD i (1,1)).2
theorem pj(L':M')(sps:L (M'×M')):∀i,Bd (dM L' sps i).1 (dM L' sps i).2.1
 |0=>λ_ _ _=>U
 |i+1=>GO (pj L' sps i) (yH (pj L' sps i) (Wk _)).row
def Jo(L':M')(sps:L (M'×M'))(i:M'):uE (dM L' sps i).1 (dM L' sps i).2.1 (L'-(sps.getD i (1,1)).1+1) (sps.getD i (1,1)).1 (sps.getD i (1,1)).2 (qV L' sps i):=yH (pj L' sps i) (Wk _)
theorem gO(L':M')(sps:L (M'×M')):∀i,(dM L' sps i).2.2.length=i
 |0=>rfl
 |i+1=>by
  show((dM L' sps i).2.2++[_]).length=i+1;rw[B3,gO L' sps i];rfl
def nz(L':M')(sps:L (M'×M'))(i:M'):(dM L' sps (i+1)).2.2=(dM L' sps i).2.2++[qV L' sps i]:=rfl
theorem sX:∀n i,i<=n->(dM L' sps n).2.2.take i=(dM L' sps i).2.2
 |0,i,h=>by
  have :i=0:=by lia
  subst this;rfl
 |n+1,i,h=>by
  by_cases e:i=n+1
  ·subst e;exact Tp (by rw[gO];exact B9 _)
  ·rw[nz,We (by rw[gO];lia)];exact sX n i aB
def Ii(h:i<n):(dM L' sps n).2.2[i]? =O (qV L' sps i):=by
 have e:=sX (L':=L') (sps:=sps) n (i+1) h;rw[nz]at e
 have :((dM L' sps n).2.2.take (i+1))[i]? =O (qV L' sps i):=by
  rw[e,Re (by rw[gO];exact B9 _),gO,Yb];rfl
 rw[List.getElem?_take,KF (Yq i)]at this;exact this
theorem rO(L':M')(sps:L (M'×M'))(a:∀j,(sps.getD j (1,1)).2<=100):∀i,(dM L' sps i).2.1<=100*i
 |0=>B9 _
 |i+1=>by
  have b:=rO L' sps a i;have :=a i;show(dM L' sps i).2.1+(sps.getD i (1,1)).2<=100*(i+1)
  lia
def DT(K':L (L Key×V))(T:Tk):Prop:=∀r c:M',(du K' [Tu (r:J'),Tu (c:J')]).isSome=T r c
def DT.nil:DT [] (λ_ _=>F'):=λ_ _=>U
def AD:([Tu (r:J'),Tu (c:J')]:L Key)=[Tu (x:J'),Tu (y:J')]↔r=x/\c=y:=by
 constructor
 ·intro h
  injection h with b a
  injection a with a _
  injection b with b
  injection a with a
  exact⟨Int.ofNat.inj b,Int.ofNat.inj a⟩
 ·rintro⟨rfl,rfl⟩;rfl
def DT.put{d:Tk}(h:DT K' T)(f:∀a b,d a b=(T a b||(decide (a=x)&&decide (b=y)))):DT (putK K' [Tu (x:J'),Tu (y:J')] v) d:=λr c=>by
 rw[HB,f];by_cases e:r=x/\c=y
 ·rw[KF (AD.mpr e),FB e.1,FB e.2];simp
 ·rw[GM (λz=>e (AD.mp z)),h r c]
  have :(decide (r=x)&&decide (c=y))=F':=by
   rw[Bool.eq_false_iff];intro z;rw[Tw,UD,UD]at z;exact e z
  rw[this,XS]
def Kp.same{st:B4}{H H1 H2:Hp}(k:Kp st H1 H2)(s:aa H H1)(h:H st=Y):aa H H2:=λb o a=>k b o (λz=>by rw[z,h]at a;cases a) (s b o a)
def Jz{rows:L (L V)}(h:bQ H as rows)(k:Kp st H H2)(c:H st=O (.dT K')):bQ H2 as rows:=⟨h.1,λi p r d b=>by
 have a:=h.2 i p r d b
 exact k p _ (λz=>by rw[z,c]at a;cases a) a⟩
def Dx{rows:L (L V)}{l:B4}(h:bQ H as rows)(b:H l=O (.lst xs)):bQ (upd H l o) as rows:=⟨h.1,λi p r d c=>by
 have a:=h.2 i p r d c;rw[ax (wW a b (by intro z;cases z))]
 exact a⟩
def Ex(p:M'×M'):L V:=[.int (p.1:J'),.int (p.2:J')]
inductive JB(vs:L V)(H:Hp)(Q:VK):Prop
 |mk (dd p:B4) (K':L (L Key×V)) (T:Tk) (row col w h:M') (c0:vs=[.ref dd,.int (row:J'),.int (col:J'),.ref p]) (c1:H dd=O (.dT K')) (c2:DT K' T) (c3:H p=O (.tup [.int (w:J'),.int (h:J')])) (c4:row<=100000) (c5:col<=1000) (c6:w<=100) (c7:h<=100) (c8:∀H',aa H H'->Q (.bl (gz T row col w h)) H')
def ET:Sp:=λa H Q _=>JB a H Q
inductive FU(vs:L V)(H:Hp)(Q:VK):Prop
 |mk (dd p:B4) (K':L (L Key×V)) (T:Tk) (B L' w h:M') (c0:vs=[.ref dd,.int (L':J'),.ref p]) (c1:H dd=O (.dT K')) (c2:DT K' T) (c3:Bd T B) (c4:B<=50000) (c5:H p=O (.tup [.int (w:J'),.int (h:J')])) (c6:0<w) (c7:w<=L') (c8:L'<=100) (c9:h<=100) (c10:∀(t:B4)(H':Hp),aa H H'->H' t=O (.tup (Ex (jy T B (L'-w+1) w h)))->Q (.ref t) H')
def Bu:Sp:=λa H Q _=>FU a H Q
inductive G8(vs:L V)(H:Hp)(Q:VK):Prop
 |mk (dd q p:B4) (K':L (L Key×V)) (T:Tk) (r c w h:M') (c0:vs=[.ref dd,.ref q,.ref p]) (c1:H dd=O (.dT K')) (c2:DT K' T) (c3:H q=O (.tup [.int (r:J'),.int (c:J')])) (c4:H p=O (.tup [.int (w:J'),.int (h:J')])) (c5:w<=12) (c6:h<=12) (c7:K'.length<=50000) (c8:∀(kvs':L (L Key×V))(H':Hp),Kp dd H H'->H' dd=O (.dT kvs')->DT kvs' (cover T r c w h)->kvs'.length<=K'.length+144->Q .non H')
def BL:Sp:=λa H Q _=>G8 a H Q
inductive Nh(vs:L V)(H:Hp)(Q:VK):Prop
 |mk (a:B4) (sa:L B4) (sps:L (M'×M')) (L':M') (c0:vs=[.int (L':J'),.ref a]) (c1:H a=O (.lst (sa.map V.ref))) (c2:bQ H sa (sps.map Ex)) (c3:(∀sp∈sps,0<sp.1/\sp.1<=L'/\sp.2<=12)) (c4:L'<=12) (c5:sps.length<=100) (c6:∀(l:B4)(pa:L B4)(H':Hp),H l=Y->aa H H'->H' l=O (.lst (pa.map V.ref))->bQ H' pa ((dM L' sps sps.length).2.2.map Ex)->Q (.ref l) H')
def Lp:Sp:=λa H Q _=>Nh a H Q
section
variable{w:TV}
def zo:ay ["taken","row","column","span","down","across"] ["taken","row","column","span"] (aj Bf):=dH
theorem IU(F:c_ K "is_free" "is_free" Bf f fd)(N:aQ mg):aS P w K mg B' dz 1 f fd ["taken","row","column","span"] ET:=by
 refine F.fb zo λC' A U' s H vs Q E hr h=>?_
 ·obtain⟨dd,p,K',T,row,col,w,h,e,z,S,D,b1,b2,b3,b4,k⟩:=h;subst e
  have hu:(A.deeper (SY "is_free" (aj Bf) s.heap.objs.size f C')).units+1<Uy:=by have :=hr.units;lia
  refine⟨_,ah (dq SU U (ue (by rfl) N.range (bO (pv 1) (aE bS (pv 1) (cy (pv 3) af)))) (aZ (i:=4) zo.nd U (Te U))
    (ai (dq SU U (ue (by rfl) N.range (bO (pv 2) (aE bS (pv 2) (cy (pv 3) af)))) (aZ (i:=5) zo.nd U (Te U))
     (ai (aO (GD (Fc hu (aR (bO (pv 4) (pv 5))) (pv 0))) (ai (ar fj)) aD)))))
   (ai (ar fj)),?_⟩
  have X:∀x y:V,oE [x,y] 0=O x:=λx y=>U;have a1:∀x y:V,oE [x,y] 1=O y:=λx y=>U;refine⟨_,U,_,U,_,U,p,_,_,_,U,U,bq.of D,a1 _ _,_,_,U,U,(row:J'),(row:J')+(h:J'),U,⟨aB,aB,aB,aB⟩,?_⟩
  have en:((row:J')+(h:J')-(row:J')).toNat=h:=by lia
  rw[en]
  refine di (lo:=(row:J')) (n:=h) (λi σ v=>(∃(B l:O' V),σ=[O (.ref dd),O (.int (row:J')),O (.int (col:J')),O (.ref p),B,l])/\aa H v/\∀d,d<i->∀a,a<w->T (row+d) (col+a)=F')
   ⟨⟨Y,Y,U⟩,aa.refl _,λd z=>KB z (U0 _)⟩ ?_ ?_
  ·rintro d σ H1 C ⟨⟨B,l,rfl⟩,o,j⟩;have r:=o _ _ D;refine⟨_,U,_,U,_,U,p,_,_,_,U,U,bq.of r,X _ _,_,_,U,U,(col:J'),(col:J')+(w:J'),U,⟨aB,aB,aB,aB⟩,?_⟩
   have u:((col:J')+(w:J')-(col:J')).toNat=w:=by lia
   rw[u]
   refine di (lo:=(col:J')) (n:=w) (λa σ v=>(∃(l:O' V),σ=[O (.ref dd),O (.int (row:J')),O (.int (col:J')),O (.ref p),O (.int ((row:J')+(d:J'))),l])/\aa H1 v/\∀b,b<a->T (row+d) (col+b)=F')
    ⟨⟨_,U⟩,aa.refl _,λb I=>KB I (U0 _)⟩ ?_ ?_
   ·rintro a σ H2 ha ⟨⟨l,rfl⟩,q,c⟩;refine⟨_,U,_,U,(by show 2<=sizeLine;decide),λt W=>?_⟩;have G:aa H2 (upd H2 t (.tup [V.int ((row:J')+(d:J')),V.int ((col:J')+(a:J'))])):=aa.put (aa.refl _) W
    have h3:(upd H2 t (.tup [V.int ((row:J')+(d:J')),V.int ((col:J')+(a:J'))])) t=O (.tup (([Tu ((row+d:M'):J'),Tu ((col+a:M'):J')]:L Key).map kV)):=by
     rw[ag];show O (HO.tup [_,_])=O (HO.tup [_,_]);rw[show((row+d:M'):J')=(row:J')+(d:J')by lia,show((col+a:M'):J')=(col:J')+(a:J')by lia];rfl
    generalize upd H2 t (.tup [V.int ((row:J')+(d:J')),V.int ((col:J')+(a:J'))])=R at *;have M:aa H R:=aa.trans o (aa.trans q G);have g:=iP.t (M _ _ z) h3;refine⟨_,U,dd,_,U,g,_,U,?_⟩;rw[S]
    cases m:T (row+d) (col+a)with
    |true=>
     refine dJ ?_;have :=k R M;rw[Jg C ha m]at this;exact this
    |false=>
     refine bW ⟨⟨_,U⟩,aa.trans q G,λb I=>?_⟩;by_cases e:b=a
     ·rw[e];exact m
     ·exact c b aB
   ·rintro σ H2 ⟨⟨l,rfl⟩,q,c⟩;refine⟨⟨_,_,U⟩,aa.trans o q,λJ a2=>?_⟩;by_cases e:J=d
    ·rw[e];exact c
    ·exact j J aB
  ·rintro σ H1 ⟨⟨B,l,rfl⟩,o,j⟩;have :=k H1 o;rw[rA.mpr j]at this;exact this
def ma:ay ["taken","columns","span","tried","row","column"] ["taken","columns","span"] (aj zi):=dH
theorem GJ(F:c_ K "first_place" "first_place" zi f fd)(N:aQ mg)(R:Cl P w K mg B' 1 ET "is_free"):
  aS P w K mg B' dz 2 f fd ["taken","columns","span"] Bu:=by
 refine F.fb ma λC' A U' s H vs Q E hr h=>?_
 ·obtain⟨dd,p,K',T,B,L',w,h,e,hd,D,S,a2,u,c1,c2,c3,c4,k⟩:=h;subst e
  refine⟨_,ah (pz 3 ma.nd (aI (DN U) (by rfl) N.max aag (bO (aE bS (aE gv (pv 1) (cy (pv 2) af)) af) af)))
   (ah (pz 4 ma.nd af)
   (ai (xT SU (b_ fj)
    (ah (dq SU U (cW (by rfl) N.range (aN (pv 3))) (aZ (i:=5) ma.nd U (Te U))
     (ai (aO (b_ (pq R hr (bj (pv 0) (gh (pv 4) (pv 5) (pv 2))))) (ai (ar (aR (bO (pv 4) (pv 5))))) aD)))
    (ai (pz 4 ma.nd (aE bS (pv 4) af))))))),?_⟩
  have W:∀x y:V,oE [x,y] 0=O x:=λx y=>U;refine⟨_,U,_,U,p,_,_,_,U,U,bq.of u,W _ _,_,_,U,U,_,_,U,U,_,_,U,?_⟩
  have o:(if(1:J')>(L':J')-(w:J')+1 then(1:J')else(L':J')-(w:J')+1)=((L'-w+1:M'):J'):=by split<;>lia
  rw[o];have hn:0<L'-w+1:=Wk _
  have I:L'-w+1<=100:=by lia
  generalize L'-w+1=n at *;clear o;refine⟨λm σ q=>∃(row:M')(a:O' V),σ=[O (.ref dd),O (.int (L':J')),O (.ref p),O (.int (n:J')),O (.int (row:J')),a]/\aa H q/\row<=B/\m=B+1-row/\bR T n w h (B+1-row) row=jy T B n w h,⟨_,0,Y,U,aa.refl _,Sm _,U,U⟩,?_⟩;rintro m σ H1 ⟨row,a,rfl,s1,C,rfl,d⟩;refine⟨_,U,dJ ?_⟩;refine⟨λg H'=>∃(a:O' V),g=[O (.ref dd),O (.int (L':J')),O (.ref p),O (.int (n:J')),O (.int ((row+1:M'):J')),a]/\aa H H'/\row+1<=B/\bR T n w h (B+1-(row+1)) (row+1)=jy T B n w h,λg H' ⟨a,e1,G,X,e4⟩=>⟨B+1-(row+1),aB,row+1,a,e1,G,X,U,e4⟩,?_⟩;refine⟨_,U,(n:J'),U,aB,aB,?_⟩;rw[show((n:J')).toNat=n by lia]
  have ef:B+1-row=(B-row)+1:=by lia
  rw[ef]at d
  refine di (lo:=0) (n:=n) (λi σ q=>(∃(a:O' V),σ=[O (.ref dd),O (.int (L':J')),O (.ref p),O (.int (n:J')),O (.int (row:J')),a])/\aa H q/\∀c,c<i->gz T row c w h=F')
   ⟨⟨_,U⟩,s1,λc v=>KB v (U0 _)⟩ ?_ ?_
  ·rintro i σ H2 hi ⟨⟨a,rfl⟩,j,b⟩;refine⟨_,U,_,U,_,U,_,U,dd,p,K',T,row,i,w,h,(by rw[show(0:J')+(i:J')=(i:J')by lia];rfl),j _ _ hd,D,j _ _ u,aB,aB,aB,aB,λH3 J=>⟨_,U,?_⟩⟩;have r:=aa.trans j J
   cases l:gz T row i w h with
   |true=>
    refine dJ ?_;rw[FK hi l b]at d;refine⟨_,U,_,U,(by show 2<=sizeLine;decide),λt M=>?_⟩;refine k t _ (aa.put r (same_none r M)) ?_;rw[<-d,ag];show O (HO.tup [V.int (row:J'),V.int (0+(i:J'))])=O (HO.tup [V.int (row:J'),V.int (i:J')]);rw[show(0:J')+(i:J')=(i:J')by lia]
   |false=>
    refine bW ⟨⟨_,U⟩,r,λc v=>?_⟩;by_cases e:c=i
    ·rw[e];exact l
    ·exact b c aB
  ·rintro σ H2 ⟨⟨a,rfl⟩,j,b⟩
   have a1:row≠B:=λz=>by
    have :=b 0 hn;rw[z,lq S]at this
    cases this
   rw[ug b]at d;refine⟨_,U,_,_,U,U,?_⟩;refine(show∃a,_ from⟨a,?_,j,aB,by rw[show B+1-(row+1)=B-row by lia];exact d⟩);rw[show((row+1:M'):J')=(row:J')+1 by lia];rfl
def vJ:ay ["taken","place","span","down","across"] ["taken","place","span"] (aj vB):=dH
theorem FT(F:c_ K "take" "take" vB f fd)(N:aQ mg):aS P w K mg B' dz 1 f fd ["taken","place","span"] BL:=by
 refine F.fb vJ λC' A U' s H vs Q E hr h=>?_
 ·obtain⟨dd,q,p,K',T,r,c,w,h,e,X,hT,hq,D,b1,b2,b3,k⟩:=h;subst e
  have hu:(A.deeper (SY "take" (aj vB) s.heap.objs.size f C')).units+1<Uy:=by have :=hr.units;lia
  refine⟨_,ai (dq SU U (cW (by rfl) N.range (aN (cy (pv 2) af))) (aZ (i:=3) vJ.nd U (Te U))
    (ai (dq SU U (cW (by rfl) N.range (aN (cy (pv 2) af))) (aZ (i:=4) vJ.nd U (Te U))
     (ai (pb hu (pv 0) (aR (bO (aE bS (cy (pv 1) af) (pv 3)) (aE bS (cy (pv 1) af) (pv 4)))) fj U))))),?_⟩
  have a0:∀x y:V,oE [x,y] 0=O x:=λx y=>U;have a1:∀x y:V,oE [x,y] 1=O y:=λx y=>U
  have W:p≠dd:=λz=>by rw[z,X]at D;cases D
  have J:q≠dd:=λz=>by rw[z,X]at hq;cases hq
  refine⟨_,U,p,_,_,_,U,U,bq.of D,a1 _ _,(h:J'),U,aB,aB,?_⟩;rw[show((h:J')).toNat=h by lia]
  refine di (lo:=0) (n:=h) (λd σ B=>∃(b:L (L Key×V))(R j:O' V),σ=[O (.ref dd),O (.ref q),O (.ref p),R,j]/\Kp dd H B/\B dd=O (.dT b)/\DT b (gS T r c w d 0)/\b.length<=K'.length+d*w)
   ⟨K',Y,Y,U,Kp.refl _,X,(by rw[xV];exact hT),aB⟩ ?_ ?_
  ·rintro d σ H1 a5 ⟨l,R,j,rfl,G,u,g,a2⟩;refine⟨_,U,p,_,_,_,U,U,bq.of (G _ _ W D),a0 _ _,(w:J'),U,aB,aB,?_⟩;rw[show((w:J')).toNat=w by lia];have a4:d*w<=11*12:=Xw aB b1
   refine di (lo:=0) (n:=w) (λa σ B=>∃(b:L (L Key×V))(j:O' V),σ=[O (.ref dd),O (.ref q),O (.ref p),O (.int (0+(d:J'))),j]/\Kp dd H B/\B dd=O (.dT b)/\DT b (gS T r c w d a)/\b.length<=K'.length+(d*w+a))
    ⟨l,_,U,G,u,g,aB⟩ ?_ ?_
   ·rintro a σ H2 ha ⟨m,j,rfl,I,v,o,M⟩;have C:=I _ _ J hq;refine⟨_,U,_,U,q,_,_,_,U,U,bq.of C,a0 _ _,_,U,_,_,U,U,_,U,q,_,_,_,U,U,bq.of C,a1 _ _,_,U,_,_,U,U,(by show 2<=sizeLine;decide),λt ht=>?_⟩;have s3:aa H2 (upd H2 t (.tup [V.int ((r:J')+(0+(d:J'))),V.int ((c:J')+(0+(a:J')))])):=aa.put (aa.refl _) ht
    have h3:(upd H2 t (.tup [V.int ((r:J')+(0+(d:J'))),V.int ((c:J')+(0+(a:J')))])) t=O (.tup (([Tu ((r+d:M'):J'),Tu ((c+a:M'):J')]:L Key).map kV)):=by
     rw[ag];show O (HO.tup [_,_])=O (HO.tup [_,_]);rw[show((r+d:M'):J')=(r:J')+(0+(d:J'))by lia,show((c+a:M'):J')=(c:J')+(0+(a:J'))by lia];rfl
    dsimp only;generalize upd H2 t (.tup [V.int ((r:J')+(0+(d:J'))),V.int ((c:J')+(0+(a:J')))])=H3 at *;have S:=s3 _ _ v;refine⟨dd,_,U,sm.t S h3 (small aB),?_⟩;refine(show∃b j,_ from⟨_,_,U,Kp.trans (Kp.trans I (Kp.of s3)) Kp.store,ag,DT.put o (x_ T r c w d a),?_⟩);have :=fV m ([Tu ((r+d:M'):J'),Tu ((c+a:M'):J')]:L Key) (V.bl T')
    lia
   ·rintro σ H2 ⟨m,j,rfl,I,v,o,M⟩;refine⟨m,_,_,U,I,v,(by rw[<-zL];exact o),by rw[Ya];lia⟩
  ·rintro σ H1 ⟨l,R,j,rfl,G,u,g,a2⟩;have a3:h*w<=12*12:=Xw b2 b1;rw[zR]at g;exact k l H1 G u g aB
def yE:ay ["columns","spans","taken","places","span","place"] ["columns","spans"] (aj M4):=dH
theorem MR(F:c_ K "put_cells" "put_cells" M4 f fd)(C1:Cl P w K mg B' 2 Bu "first_place")(C2:Cl P w K mg B' 1 BL "take"):
  aS P w K mg B' dz 3 f fd ["columns","spans"] Lp:=by
 refine F.fb yE λC' A U' s H vs Q E hr h=>?_
 ·obtain⟨a,sa,sps,L',e,ha,hR,J,hc,hl,k⟩:=h;subst e
  refine⟨_,ah (pz 2 yE.nd Iz)
   (ah (pz 3 yE.nd (bt eO))
   (ah (dq SU U (ff (pv 1)) (aZ (i:=4) yE.nd U (Te U))
    (ah (pz 5 yE.nd (pq C1 hr (gh (pv 2) (pv 0) (pv 4))))
    (ah (cK (pq C2 hr (gh (pv 2) (pv 5) (pv 4))))
    (ai (cK (bY SH SK SJ cC (pv 3) (aN (pv 5))))))))
   (ai (ar (pv 3))))),?_⟩
  refineλdd G=>?_;have s1:aa H (upd H dd (.dT [])):=aa.put (aa.refl _) G;have h1:(upd H dd (.dT [])) dd=O (.dT []):=ag;generalize upd H dd (.dT [])=H1 at *;refine⟨az (by simp),λl v=>?_⟩;have s2:aa H1 (upd H1 l (.lst [])):=aa.put (aa.refl _) v;have h2:(upd H1 l (.lst [])) l=O (.lst []):=ag;have N:l≠dd:=SZ (aH h1 v);have o:H l=Y:=same_none s1 v;generalize upd H1 l (.lst [])=H2 at *;have S:=aa.trans s1 s2
  have a2:sa.length=sps.length:=by rw[hR.1,AC]
  refine⟨_,U,a,U,⟨_,bu.of (S _ _ ha)⟩,mV (K:=K) (a:=a) (xs:=sa.map V.ref) (λi σ R=>∃(K':L (L Key×V))(m:L B4)(X T:O' V),σ=[O (.int (L':J')),O (.ref a),O (.ref dd),O (.ref l),X,T]/\aa H R/\R dd=O (.dT K')/\DT K' (dM L' sps i).1/\K'.length<=144*i/\R l=O (.lst (m.map V.ref))/\bQ R m ((dM L' sps i).2.2.map Ex))
   ⟨[],[],Y,Y,U,S,s2 _ _ h1,DT.nil,Sm _,h2,bQ.nil⟩ (λi σ R _ ⟨_,_,_,_,_,z,_⟩=>bu.of (z _ _ ha)) ?_ ?_⟩
  ·rintro i x σ H3 hx ⟨K',m,X,T,rfl,C,u,B,a1,y,c⟩;obtain⟨p,r,rfl,ep,D,hp⟩:=hR.get hx;rw[B6]at D
   cases g:sps[i]? with
   |none=>rw[g]at D;cases D
   |some d=>
    rw[g]at D
    cases D
    have hi:=cQ g;obtain⟨q1,q2,q3⟩:=J d (Do g)
    have eg:sps.getD i (1,1)=d:=by rw[Sk,g];rfl
    have b0:=rO L' sps (λj=>by
     rw[Sk]
     cases ej:sps[j]? with
     |none=>show 1<=100;decide
     |some s'=>have :=(J s' (Do ej)).2.2;show s'.2<=100;lia) i
    refine⟨_,U,_,U,_,U,dd,p,K',_,(dM L' sps i).2.1,L',d.1,d.2,U,u,B,pj L' sps i,aB,C _ _ hp,q1,q2,aB,aB,λt H4 I b=>?_⟩
    have a6:jy (dM L' sps i).1 (dM L' sps i).2.1 (L'-d.1+1) d.1 d.2=qV L' sps i:=by unfold qV;rw[eg]
    rw[a6]at b;have q:=I _ _ u;refine⟨_,U,_,U,_,U,dd,t,p,K',_,(qV L' sps i).1,(qV L' sps i).2,d.1,d.2,U,q,B,b,aa.trans C I _ _ hp,aB,q3,aB,λa4 H5 W a7 a5 a9=>?_⟩
    have a3:t≠dd:=λz=>by rw[z,q]at b;cases b
    have M:=W _ _ a3 b;have n:=W _ _ N (I _ _ y);have a0:bQ H5 m ((dM L' sps i).2.2.map Ex):=Jz (c.same I) W q;have S5:aa H H5:=Kp.same W (aa.trans C I) G
    have a8:m.length=i:=by rw[c.1,AC,gO]
    refine⟨_,U,.inl ⟨U,_,bu.of n⟩,_,U,l,_,_,U,U,n,small (by rw[AC];lia),?_⟩;refine(show∃K' m X T,_ from⟨a4,m++[t],_,_,U,aa.put S5 o,?_,?_,aB,?_,?_⟩)
    ·rw[ax (SZ N)];exact a7
    ·have e5:(dM L' sps (i+1)).1=cover (dM L' sps i).1 (qV L' sps i).1 (qV L' sps i).2 d.1 d.2:=by
      show cover _ _ _ (sps.getD i (1,1)).1 (sps.getD i (1,1)).2=_;unfold qV;rw[eg]
     rw[e5];exact a5
    ·rw[ag,KM];rfl
    ·rw[nz,KM];exact bQ.snoc (Dx a0 n) (aa.refl _) (by rw[ax (wW M n (by intro z;cases z))];exact M)
  ·rintro σ H3 ⟨K',m,X,T,rfl,C,u,B,a1,y,c⟩;rw[AC,a2]at c;exact⟨_,U,k l m H3 o C y c⟩
end
theorem ua(L':M')(sps:L (M'×M')):∀i,i<=sps.length->(dM L' sps i).2.1=((sps.take i).map (·.2)).sum
 |0,_=>rfl
 |i+1,a=>by
  show(dM L' sps i).2.1+(sps.getD i (1,1)).2=_
  have e:sps[i]? =O (sps.getD i (1,1)):=by rw[Sk,B2 aB];rfl
  rw[ua L' sps i aB,UA,e,KM,YD];simp
def uZ{X:Cx}(j:X.K=K){x y:Z}{b a pt:Pos}{h:M'}(k:X.calm=T')(d:X.N.Nodup)(l:X.N[0]? =O x)(i:X.N[1]? =O y)(g:X.env.scope.names.lookup x=O .local)(e:X.env.scope.names.lookup y=O .local)(n:(Vi [.Name x b,.Name y a] X.env).map (·.2)=[assign (.Name x b) X.env,assign (.Name y a) X.env]:=by rfl)(f:(Vi [.Name y a] X.env).map (·.2)=[assign (.Name y a) X.env]:=by rfl)(m:(Vi [.Name x b,.Name y a] X.env).length=2:=by rfl)(c:(Vi [.Name x b,.Name y a] X.env).findIdx? (·.1)=Y:=by rfl):PG X (.Tuple [.Name x b,.Name y a] h pt) (NK K):=by
 subst j;exact kl k (cj (aZ d l (.inl g) (.inr g)) (cj (aZ d i (.inl e) (.inr e)) iF (by rw[f];rfl)) (by rw[n,f])) m c
noncomputable def dS(p:M'×M'):D:= .tup [.int (p.1:J'),.int (p.2:J')]
def OA:V->B4
 | .ref a=>a
 |_=>0
def GH(h:At K H v (.tup (sps.map dS))):∃(a:B4)(n:L B4),v= .ref a/\H a=O (.tup (n.map V.ref))/\bQ H n (sps.map Ex):=by
 cases h with
 | @tup a xs l h k s=>
  rw[AC]at k
  have f:∀(j:M')(x:V),xs[j]? =O x->∃p,sps[j]? =O p/\x= .ref (OA x)/\H (OA x)=O (.tup (Ex p)):=λj x ex=>by
   have y:j<sps.length:=by rw[<-k];exact cQ ex
   have o:=B2 y;have z:=s j x (dS sps[j]) ex (by rw[B6,o];rfl);refine⟨_,o,?_⟩
   cases z with
   | @tup b ys A i m c=>
    refine⟨U,?_⟩
    match ys,m,i,c with
    |[w,u],_,i,c=>
     have t:=c 0 w _ U U;have d:=c 1 u _ U U
     cases t
     cases d
     exact i
  refine⟨a,xs.map OA,U,?_,?_,λj p r d g=>?_⟩
  ·have e:(xs.map OA).map V.ref=xs:=by
    rw[SN];refine Yg λj=>?_;rw[B6]
    cases ex:xs[j]? with
    |none=>rfl
    |some x=>
     obtain⟨_,_,e,_⟩:=f j x ex;show O (V.ref (OA x))=O x;rw[<-e]
   rw[e];exact h
  ·rw[AC,AC,k]
  ·rw[B6]at d g
   cases ex:xs[j]? with
   |none=>rw[ex]at d;cases d
   |some x=>
    obtain⟨q,eq,_,e⟩:=f j x ex;rw[ex]at d;rw[eq]at g
    cases d
    cases g
    exact e
def gN(l:L (M'×M'))(i:M'):M'×M':=l.getD i (1,1)
def BP{l:L (M'×M')}(h:i<l.length):l[i]? =O (gN l i):=by
 unfold gN;rw[Sk,B2 h];rfl
inductive FD(vs:L V)(H:Hp)(Q:VK):Prop
 |mk (a b:B4) (pa sa:L B4) (ps sps:L (M'×M')) (c0:vs=[.ref a,.ref b]) (c1:H a=O (.lst (pa.map V.ref))) (c2:bQ H pa (ps.map Ex)) (c3:H b=O (.lst (sa.map V.ref))) (c4:bQ H sa (sps.map Ex)) (c5:ps.length=sps.length) (c6:sps.length<=100) (c7:∀(M:J')(H':Hp),aa H H'->(sps=[]->M=0)->(sps≠[]->(∃i,i<sps.length/\M=((gN ps i).1:J')+((gN sps i).2:J'))/\∀i,i<sps.length->((gN ps i).1:J')+((gN sps i).2:J')<=M)->Q (.int M) H')
def BD:Sp:=λa H Q _=>FD a H Q
inductive Gx(K:B0)(vs:L V)(H:Hp)(Q:VK):Prop
 |mk (v:V) (d0 d1 d2 w0 w1 w2 d4:D) (sps:L (M'×M')) (c0:vs=[v]) (c1:At K H v (.tup [d0,d1,d2,.tup [w0,w1,w2,.tup (sps.map dS)],d4])) (c2:∀(l:B4)(sa:L B4)(H':Hp),H l=Y->aa H H'->H' l=O (.lst (sa.map V.ref))->bQ H' sa (sps.map Ex)->Q (.ref l) H')
def uU(K:B0):Sp:=λa H Q _=>Gx K a H Q
def vt(sps:L (M'×M')):M':=(sps.map (·.2)).sum
def LS(L':M')(sps:L (M'×M')):Prop:=(∀a∈sps,0<a.1/\a.1<=L'/\a.2<=12)/\L'<=12/\sps.length<=100
inductive zr(K:B0)(vs:L V)(H:Hp)(Q:VK):Prop
 |mk (v:V) (d0 d1 d2 w1 w2 d4:D) (L':M') (sps:L (M'×M')) (c0:vs=[v]) (c1:At K H v (.tup [d0,d1,d2,.tup [.int (L':J'),w1,w2,.tup (sps.map dS)],d4])) (c2:LS L' sps) (c3:∀(l:B4)(pa:L B4)(H':Hp),aa H H'->H' l=O (.lst (pa.map V.ref))->bQ H' pa ((dM L' sps sps.length).2.2.map Ex)->Q (.ref l) H')
def tj(K:B0):Sp:=λa H Q _=>zr K a H Q
inductive yT(K:B0)(vs:L V)(H:Hp)(Q:VK):Prop
 |mk (v:V) (d0 d1 d2 w1 w2 d4:D) (L':M') (sps:L (M'×M')) (c0:vs=[v]) (c1:At K H v (.tup [d0,d1,d2,.tup [.int (L':J'),w1,w2,.tup (sps.map dS)],d4])) (c2:LS L' sps) (c3:∀(M:J')(H':Hp),M<=(vt sps:M')->aa H H'->Q (.int M) H')
def tW(K:B0):Sp:=λa H Q _=>yT K a H Q
theorem GP{M:J'}(c:sps=[]->M=0)(g1:sps≠[]->(∃i,i<sps.length/\M=((gN (dM L' sps sps.length).2.2 i).1:J')+((gN sps i).2:J'))/\∀i,i<sps.length->((gN (dM L' sps sps.length).2.2 i).1:J')+((gN sps i).2:J')<=M):M<=(vt sps:M'):=by
 by_cases e:sps=[]
 ·rw[c e]
  lia
 ·obtain⟨⟨i,a,f⟩,_⟩:=g1 e;have z:=Ii (L':=L') (sps:=sps) a;have b:(dM L' sps sps.length).2.2[i]? =O (gN (dM L' sps sps.length).2.2 i):=BP (by rw[gO];exact a);rw[z]at b;rw[<-SV b]at f;have d:=(Jo L' sps i).row;rw[ua L' sps i aB]at d
  have st:((sps.take i).map (·.2)).sum+(gN sps i).2=((sps.take (i+1)).map (·.2)).sum:=by
   rw[UA,BP a,KM,YD];simp
  have mono:((sps.take (i+1)).map (·.2)).sum<=vt sps:=by
   unfold vt
   conv=>rhs;rw[<-Ve (i+1) sps,KM,YD]
   lia
  lia
section
variable{w:TV}
noncomputable abbrev FA:L Z:=Zb
def Cu:ay FA Zb (aj qq):=dH
def yU(F:c_ K "spans_of" "spans_of" qq f fd)(N:aQ mg)(m:Cl P w K mg B' 1 (zZ K 3) "what_of"):aS P w K mg B' dz 2 f fd Zb (uU K):=by
 refine F.fb Cu λC A t s H D Q E r h=>?_
 ·obtain⟨v,B,G,u,I,w1,w2,z,sps,e,n,k⟩:=h;subst e;refine⟨_,ai (ar (aM lW (by rfl) N.list VT (aN (cy (pq m r (aN (pv 0))) af)))),?_⟩
  try rw[cA]
  refine⟨_,U,v,_,_,U,n,U,λx o=>?_⟩;obtain⟨p,xs,y,rfl,i,g,d⟩:=o.part (j:=3) U;obtain⟨q,a,rfl,f1,f2⟩:=GH d;refine⟨p,_,_,_,U,U,i,g,q,_,U,.inr (bq.of f1),λl c=>?_⟩;have b:aa H (upd H l (.lst (a.map V.ref))):=aa.put (aa.refl _) c;exact k l a _ c b ag (f2.same b)
abbrev qS:L Z:=["places","spans"]
def yw:ay qS ["places","spans"] (aj ju):=dH
def sO:(["place","span","places","spans"]:L Z).Nodup:=by decide +kernel
theorem vN(F:c_ K "rows_taken" "rows_taken" ju f fd)(N:aQ mg):aS P w K mg B' dz 1 f fd ["places","spans"] BD:=by
 refine F.fb yw λC' A U' s H vs Q E hr h=>?_
 ·obtain⟨a,b,g,l,m,sps,e,G,C,D,B,hl,hn,k⟩:=h;subst e;refine⟨_,ai (ar (IX U (by rfl) N.max (aN (qF (k:=2) (N':=["place","span","places","spans"]) (lD (fs:=aj ju) (N:=qS) U U bf) U (Nb (by rfl) N.zip (bO (pv 0) (pv 1))) (λ_ _ _ _ _=>uZ (K:=K) U U sO U U U U) (λ_ _ _ _ _=>cv) (λ_ _ _ _ _=>(aE bS (jD (r:=yj K) vp (pv 0) af (λ_ _=>U)) (jD (r:=yj K) vp (pv 1) af (λ_ _=>U)))))) (Km af Mx))),?_⟩
  try rw[cA]
  have W:g.length=sps.length:=by rw[C.1,AC,hl]
  have ls:l.length=sps.length:=by rw[B.1,AC]
  refine⟨_,U,_,U,a,b,U,⟨_,bu.of G⟩,⟨_,bu.of D⟩,?_⟩;refine CV (K:=K) (a:=a) (b:=b) (xs:=g.map V.ref) (ys:=l.map V.ref) (λ_=>T') (λi=>V.int (((gN m i).1:J')+((gN sps i).2:J'))) (bu.of G) (bu.of D) (small (by rw[AC,AC];lia)) (λi x y H' Q' _ _ _ t=>t _ (aa.refl _)) (λi x y H' Q' _ ex d u t=>?_) λDD H1 hD X v=>?_
  ·rw[B6]at ex d
   cases c:g[i]? with
   |none=>rw[c]at ex;cases ex
   |some p=>
    cases n:l[i]? with
    |none=>rw[n]at d;cases d
    |some q=>
     rw[c]at ex;rw[n]at d
     cases ex
     cases d
     have o:i<sps.length:=by rw[<-W];exact cQ c
     have I:H' p=O (.tup (Ex (gN m i))):=u _ _ (C.2 i p _ c (by rw[B6,BP aB];rfl));have J:H' q=O (.tup (Ex (gN sps i))):=u _ _ (B.2 i q _ n (by rw[B6,BP o];rfl));exact⟨_,U,p,_,_,_,U,U,bq.of I,aG (j:=0) U,_,U,q,_,_,_,U,U,bq.of J,aG (j:=1) U,_,_,U,U,t _ (aa.refl _)⟩
  ·have R:min (g.map V.ref).length (l.map V.ref).length=sps.length:=by rw[AC,AC];lia
   rw[R,U7.mpr λ_ _=>U]at v;refine⟨DD,(Tg sps.length).map λi=>((gN m i).1:J')+((gN sps i).2:J'),0,U,U,bu.of (by rw[v,SN];rfl),λM T S=>k M H1 X (λe=>T (by rw[e];rfl)) λe=>?_⟩
   obtain⟨g1,g2⟩:=S λz=>e (by
    have :=Tb Wf z;rw[AC,Ue]at this
    exact S0 this)
   obtain⟨i,o,c⟩:=Su.mp g1;exact⟨⟨i,Vy.mp o,c.symm⟩,λj hj=>g2 _ (TH (f:=λi=>((gN m i).1:J')+((gN sps i).2:J')) (Vy.mpr hj))⟩
noncomputable abbrev FH:L Z:=Zb
def CY:ay FH Zb (aj ql):=dH
def yV(F:c_ K "cells_of" "cells_of" ql f fd)(N:aQ mg)(C:Cl P w K mg B' 3 Lp "put_cells")(i:Cl P w K mg B' 1 (zZ K 3) "what_of")(q:Cl P w K mg B' 2 (uU K) "spans_of"):aS P w K mg B' dz 4 f fd Zb (tj K):=by
 refine F.fb CY λV A J s H W Q E a h=>?_
 ·obtain⟨v,T,X,M,w1,w2,S,L',sps,e,c,b,k⟩:=h;subst e;refine⟨_,ai (ar (pq C a (bO (cy (pq i a (aN (pv 0))) af) (pq q a (aN (pv 0)))))),?_⟩
  try rw[cA]
  refine⟨_,U,v,_,_,U,c,U,λx I=>?_⟩;obtain⟨p,xs,y,rfl,t,o,d⟩:=I.part (j:=0) U
  cases d
  refine⟨p,_,_,_,U,U,t,o,_,U,v,_,_,_,_,_,_,_,sps,U,c,λl u H1 hl B D g=>?_⟩;exact⟨l,u,sps,L',U,D,g,b.1,b.2.1,b.2.2,λm n H2 R G r z=>k m n H2 (aa.trans B G) r z⟩
noncomputable abbrev yQ:L Z:=Zb
def wG:ay yQ Zb (aj lR):=dH
def vD(F:c_ K "table_rows" "table_rows" lR f fd)(N:aQ mg)(x:Cl P w K mg B' 1 BD "rows_taken")(j:Cl P w K mg B' 4 (tj K) "cells_of")(p:Cl P w K mg B' 2 (uU K) "spans_of"):aS P w K mg B' dz 5 f fd Zb (tW K):=by
 refine F.fb wG λI A B s H J Q E b h=>?_
 ·obtain⟨v,G,R,C,w1,w2,D,L',sps,e,d,g,k⟩:=h;subst e;refine⟨_,ai (ar (pq x b (bO (pq j b (aN (pv 0))) (pq p b (aN (pv 0)))))),?_⟩
  try rw[cA]
  refine⟨_,U,v,_,_,_,_,_,_,L',sps,U,d,g,λm n H1 c y i=>?_⟩;refine⟨_,U,v,_,_,_,_,_,_,_,sps,U,d.same c,λl r H2 S a q u=>?_⟩;refine⟨m,l,n,r,(dM L' sps sps.length).2.2,sps,U,a _ _ y,i.same a,q,u,gO L' sps _,g.2.2,λM z t o g1=>?_⟩;exact k M z (GP o g1) (aa.trans c (aa.trans a t))
end
noncomputable def yh(bb:L Z):L (Key×V):=bb.map λn=>(Tt n,V.bl T')
def A0(bb:L Z):(yh bb).length=bb.length:=by unfold yh;rw[AC]
theorem vA:∀(bb:L Z),(du (yh bb) (.inr nm)).isSome=decide (nm∈bb)
 |[]=>rfl
 |n::l=>by
  show(du ((Tt n,V.bl T')::yh l) (.inr nm)).isSome=_;by_cases e:n=nm
  ·subst e;rw[dX U,FB De];rfl
  ·rw[dU (λz=>e (Wy z)),vA l];exact decide_eq_decide.mpr ⟨λz=>Fk _ z,λz=>(PP.mp z).resolve_left (SZ e)⟩
inductive Nk(C:B4)(vs:L V)(H:Hp)(Q:VK):Prop
 |mk (a:B4) (v:V) (c0:vs=[.ref a,v]) (c1:H a=O (xo C a Y)) (c2:∀dx,H dx=Y->Q .non (upd (upd H dx (.xd [("name",v)])) a (xo C a (O dx))))
def LH(C:B4):Sp:=λa H Q _=>Nk C a H Q
def QV{bb:L Z}(h:nm∉bb):putK (yh bb) (.inr nm) (.bl T')=yh (bb++[nm]):=by
 rw[rB (.bl T') (by
  have z:=vA (nm:=nm) bb;rw[GT h]at z
  cases e:du (yh bb) (.inr nm)with
  |none=>rfl
  |some v=>rw[e]at z;cases z)]
 unfold yh;rw[KM];rfl
section
variable{w:TV}
def Pm:ay Zl Zl (aj jY):=dH
def L_{C:B4}(F:c_ K "__init__" "BadBox.__init__" jY f fd)(d:vM K C)(g:SE K (.ref C) "name"=O Y):aS P w K mg B' dz 1 f fd Zl (LH C):=by
 refine F.fb Pm λm A j s H n Q E l h=>?_
 ·obtain⟨a,v,e,i,k⟩:=h;subst e;refine⟨_,ai (Jd (pv 0) (pv 1) U),?_⟩;exact⟨_,U,_,U,a,C,U,i,d,g,λc b=>k c b⟩
noncomputable abbrev P8:L Z:=["thing","depth","in_table","names","part"]
def zS:ay P8 Zh (aj hI):=dH
end
def bJ(K:B0)(H:Hp)(xs:L V)(ds:L D):Prop:=xs.length=ds.length/\∀(j:M')(x:V)(d:D),xs[j]? =O x->ds[j]? =O d->At K H x d
def At.we{c:B4}(k:Kp c H H')(f:H c=O (.lst xs))(e:H' c=O (.lst ys))(h:At K H v d):At K H' v d:=by
 induction h with
 |non=>exact .non
 |bl b=>exact .bl b
 |int i=>exact .int i
 |str x l=>exact .str x l
 |tup h g _ j=>exact .tup (k _ _ (λz=>by rw[z,f]at h;cases h) h) g j
 | @oth a es h=>
  by_cases q:a=c
  ·subst q;exact .oth e
  ·exact .oth (k _ _ q h)
def bJ.nil:bJ K H [] []:=⟨U,λj x d e=>nomatch e⟩
def bJ.same{K:B0}{H H':Hp}{xs:L V}{ds:L D}(h:bJ K H xs ds)(s:aa H H'):bJ K H' xs ds:=⟨h.1,λj x d b a=>(h.2 j x d b a).same s⟩
theorem bJ.snoc{x:V}(h:bJ K H xs ds)(f:At K H x d):bJ K H (xs++[x]) (ds++[d]):=by
 refine⟨by rw[B3,B3,h.1];rfl,λj y e a b=>?_⟩;by_cases q:j<xs.length
 ·rw[Sv q]at a;rw[Sv (by rw[<-h.1];exact q)]at b;exact h.2 j y e a b
 ·rw[Re aB]at a;rw[Re (by rw[<-h.1];lia),<-h.1]at b
  have c:j-xs.length=0:=by
   have :=cQ a;simp at this
   lia
  rw[c]at a b
  cases a
  cases b
  exact f
def bJ.tup{K:B0}{H:Hp}{a:B4}{xs:L V}{ds:L D}(h:bJ K H xs ds)(e:H a=O (.tup xs)):At K H (.ref a) (.tup ds):= .tup e h.1 h.2
theorem AM{α:Type}{J:It}{l:L α}{C:TT}{Q:VK}(inj:α->V)(f:α->D)(s:iJ J H (l.map inj))(R:l.length<sizeLine)(I:∀(x:α)(H':Hp)(k:Tq->Hp->Prop),x∈l->aa H H'->(∀a,aa H' a->k T' a)->C (O (inj x)::σ) H' k)(G:∀(x:α)(H':Hp)(k:VK),x∈l->aa H H'->(∀v a,aa H' a->At K a v (f x)->k v a)->te (O (inj x)::σ) H' k)(N:∀(c:B4)(xs:L V)(H':Hp),H c=Y->aa H H'->H' c=O (.lst xs)->bJ K H' xs (l.map f)->Q (.ref c) H'):fQ J H σ C te Q:=by
 intro c q;refine⟨λi m H'=>m=l.length-i/\i<=l.length/\aa H H'/\∃xs:L V,H' c=O (.lst xs)/\bJ K H' xs ((l.take i).map f),⟨_,U,Sm _,aa.qh (aa.refl H) q,[],ag,.nil⟩,?_⟩;rintro i m H' ⟨rfl,P,g,xs,A,o⟩;by_cases b:i<l.length
 ·refine .inr ⟨s.1 i H' g (by rw[AC];exact b),λx H2 y=>?_⟩;obtain⟨e,t⟩:=s.2.2 i x H' H2 g y;subst e;have ex:l[i]? =O l[i]:=B2 b;rw[B6,ex]at t
  cases t
  have u:=Do ex;generalize l[i]=x at *;refine I x _ _ u g λS w=>dJ (G x _ _ u (aa.trans g w) λv z p M=>?_);have r:=aa.trans w p;have h:=r _ _ A;have n:=o.same r;have B:Kp c z (upd z c (.lst (xs++[v]))):=Kp.store;refine⟨_,h,?_,_,Uz _ _ b,U,b,aa.qh (aa.trans g r) q,xs++[v],ag,?_⟩
  ·rw[o.1,AC,TJ]
   lia
  ·rw[UA,ex,KM];exact bJ.snoc ⟨n.1,λj x d F E=>(n.2 j x d F E).we B h ag⟩ (M.we B h ag)
 ·have e:i=l.length:=by lia
  have :=s.2.1 H' g;rw[AC]at this;rw[e];refine .inl ⟨this,?_⟩;rw[e,UO]at o;exact N c xs H' q g A o
def Ev(K:B0)(σ:St)(a:Hp)(te:TE)(d:D):Prop:=∀(H:Hp)(Q:VK),aa a H->(∀v H',aa H H'->At K H' v d->Q v H')->te σ H Q
def QU(K:B0)(σ:St)(a:Hp)(te:TE)(ds:L D):Prop:=∀(H:Hp)(Q:VK),aa a H->(∀l xs H',aa H H'->H' l=O (.lst xs)->bJ K H' xs ds->Q (.ref l) H')->te σ H Q
section
variable{H0:Hp}{e:D}{tb tx tn:TE}{tl:TA}{E:XK}{m n:J'}{x y:Z}
def bJ.cons{H:Hp}{v:V}{xs:L V}{d:D}{ds:L D}(h:At K H v d)(g:bJ K H xs ds):bJ K H (v::xs) (d::ds):=by
 refine⟨by rw[Da,Da,g.1],λj y e b a=>?_⟩
 cases j with
 |zero=>cases b;cases a;exact h
 |succ j=>exact g.2 j y e b a
theorem bJ.app(h:bJ K H xs ds)(g:bJ K H ys es):bJ K H (xs++ys) (ds++es):=by
 refine⟨by rw[B3,B3,h.1,g.1],λj y e a b=>?_⟩;by_cases q:j<xs.length
 ·rw[Sv q]at a;rw[Sv (by rw[<-h.1];exact q)]at b;exact h.2 j y e a b
 ·rw[Re aB]at a;rw[Re (by rw[<-h.1];lia),<-h.1]at b;exact g.2 _ y e a b
def At.tupS(h:At K H v (.tup l)):∃a xs,v= .ref a/\H a=O (.tup xs)/\bJ K H xs l:=by
 cases h with
 | @tup a xs l h b c=>exact⟨a,xs,U,h,b,c⟩
def zC(h:σ[i]? =O (O v))(a:At K H0 v d):Ev K σ H0 (eA i) d:=λH Q s k=>⟨v,h,k v H (aa.refl _) (a.same s)⟩
def Kn(h:σ[i]? =O (O (.ref a)))(b:H0 a=O (.lst xs))(c:bJ K H0 xs ds):QU K σ H0 (eA i) ds:=λH Q s k=>⟨_,h,k a xs H (aa.refl _) (s _ _ b) (c.same s)⟩
def qu(h:QU K σ H0 te l):Ev K σ H0 (wN (λxs H Q=>∃p ys,xs=[.ref p]/\((bu K H p ys/\∀l,H l=Y->Q (.ref l) (upd H l (.tup ys)))\/(bq K H p ys/\Q (.ref p) H))) (aY te dc)) (.tup l):=λH Q s k=>h H _ s λa xs H1 d c e=>
 ⟨a,xs,U,.inl ⟨bu.of c,λp b=>k _ _ (aa.trans d (aa.put (aa.refl _) b)) (bJ.tup (e.same (aa.put (aa.refl _) b)) ag)⟩⟩
def Ev.set{a:Ends}(h:Ev K σ H te d)(k:∀v H',aa H H'->At K H' v d->a.nx (σ.set i (O v)) H'):lO te (eY i) a σ H:=h H _ (aa.refl _) k
end
end B10
namespace B10P
open PySem L2 S2 DW
structure Own where
 w0:J'
 w1:J'
 h0:J'
 h1:J'
 gr:J'
 sh:J'
 rk:J'
 al:J'
inductive aX where
 |leaf (a b:J')
 |lined (k:M') (g:J') (al sd:Z)
 |table (c g:J') (sd:Z) (sps:L (J'×J'))
 |words (ws:L (L Z)) (j:J')
 |flow (sds:L Z) (ws:L (L Z)) (j:J')
 |over (ps:L ((Z×J')×(Z×J')))
noncomputable def aX.kd:aX->Z
 | .leaf _ _=>"leaf"
 | .lined 0 _ _ _=>"row"
 | .lined 1 _ _ _=>"column"
 | .lined _ _ _ _=>"wrap"
 | .table _ _ _ _=>"table"
 | .words _ _=>"words"
 | .flow _ _ _=>"flow"
 | .over _=>"over"
noncomputable abbrev bo:L (Z×Z):=[("wide","0..1000000"),("high","0..1000000"),("grow","0"),("shrink","1"),("rank","0"),("alike","0"),("wish","0,0"),("columns","1"),("gap","0"),("align","start"),("side","left"),("joint","50"),("span","1,1"),("float","left"),("at","start,0,start,0"),("text","")]
noncomputable def two(s:Z)(a b:J'):Z:=nS a++(s++nS b)
def pU(a:L (L Z)):Z:=Sr " " (a.map (Sr "|"))
noncomputable def four(p:(Z×J')×(Z×J')):Z:=p.1.1++(","++(nS p.1.2++(","++(p.2.1++(","++nS p.2.2)))))
noncomputable def dD(o:Own):L (Z×Z):=[("wide",two ".." o.w0 o.w1),("high",two ".." o.h0 o.h1),("grow",nS o.gr),("shrink",nS o.sh),("rank",nS o.rk),("alike",nS o.al)]
noncomputable def bP:aX->L (Z×Z)
 | .leaf a b=>[("wish",two "," a b)]
 | .lined _ g f d=>[("gap",nS g),("align",f),("side",d)]
 | .table c g d _=>[("columns",nS c),("gap",nS g),("side",d)]
 | .words e j=>[("text",pU e),("joint",nS j)]
 | .flow _ e j=>[("text",pU e),("joint",nS j)]
 | .over _=>[]
noncomputable def bX:aX->M'->L (Z×Z)
 | .table _ _ _ a,i=>[("span",two "," (a.getD i (1,1)).1 (a.getD i (1,1)).2)]
 | .flow b _ _,i=>[("float",b.getD i "left")]
 | .over c,i+1=>[("at",four (c.getD i (("",0),("",0))))]
 |_,_=>[]
noncomputable def lk(a:L (Z×Z))(w:Z):O' Z:=(a.find? λp=>decide (p.1=w)).map (·.2)
noncomputable def pick(a:L (Z×Z))(p:Z×Z):L Z:=if(lk a p.1).getD p.2=p.2 then[]else[(p.1++"=")++(lk a p.1).getD p.2]
noncomputable def rW(c:Z)(a b:J'):L Z:=if(a,b)=((0:J'),(1000000:J'))then[]else[(((c++"=")++nS a)++"..")++nS b]
noncomputable def nW(b:Z)(a p:J'):L Z:=if a=p then[]else[(b++"=")++nS a]
noncomputable def ic(o:Own):L Z:=rW "wide" o.w0 o.w1++(rW "high" o.h0 o.h1++(nW "grow" o.gr 0++(nW "shrink" o.sh 1++(nW "rank" o.rk 0++nW "alike" o.al 0))))
noncomputable def gW(g:J'):L Z:=if g=0 then[]else["gap="++nS g]
noncomputable def aW(a:Z):L Z:=if a="start"then[]else["align="++a]
def sW(a:Z):L Z:=if a="left"then[]else["side="++a]
noncomputable def jW(j:J'):L Z:=if j=50 then[]else["joint="++nS j]
noncomputable def dR:aX->L Z
 | .leaf a b=>if(a,b)=((0:J'),(0:J'))then[]else[(("wish="++nS a)++",")++nS b]
 | .lined _ g e d=>gW g++(aW e++sW d)
 | .table c g d _=>(if c=1 then[]else["columns="++nS c])++(gW g++sW d)
 | .words _ j=>jW j
 | .flow _ _ j=>jW j
 | .over _=>[]
noncomputable def pS:aX->M'->L Z
 | .table _ _ _ a,i=>if a.getD i (1,1)=(1,1)then[]else[(("span="++nS (a.getD i (1,1)).1)++",")++nS (a.getD i (1,1)).2]
 | .flow c _ _,i=>if c.getD i "left"="left"then[]else["float=right"]
 | .over b,i+1=>if b.getD i (("",0),("",0))=(((("start":Z),(0:J')),(("start":Z),(0:J'))):(Z×J')×(Z×J'))then[]else
   [(((((("at="++(b.getD i (("",0),("",0))).1.1)++",")++nS (b.getD i (("",0),("",0))).1.2)++",")++(b.getD i (("",0),("",0))).2.1)++",")++nS (b.getD i (("",0),("",0))).2.2]
 |_,_=>[]
noncomputable def Il:aX->L Z
 | .words a _=>if a=[]then[]else["text="++pU a]
 | .flow _ a _=>if a=[]then[]else["text="++pU a]
 |_=>[]
def gf(a:L (L Z)):Prop:=a.length<=60/\∀w∈a,1<=w.length/\w.length<=6/\∀x∈w,1<=x.length/\x.length<=12
def cZ(i:J'):Prop:=i.natAbs<1000000000
def mh(p:Z×J'):Prop:=44∉p.1.cps.toList/\p.1.length<=10/\cZ p.2
def aX.Good:aX->Prop
 | .leaf a b=>cZ a/\cZ b
 | .lined _ g i d=>cZ g/\i.length<=10/\d.length<=10
 | .table c g d h=>cZ c/\cZ g/\d.length<=10/\∀p∈h,cZ p.1/\cZ p.2
 | .words f j=>gf f/\cZ j
 | .flow e f j=>(∀s∈e,s="left"\/s="right")/\gf f/\cZ j
 | .over k=>∀p∈k,mh p.1/\mh p.2
def Own.Good(o:Own):Prop:=cZ o.w0/\cZ o.w1/\cZ o.h0/\cZ o.h1/\cZ o.gr/\cZ o.sh/\cZ o.rk/\cZ o.al
def jn(a b:L (Z×Z))(w:Z):lk (a++b) w=(lk a w).or (lk b w):=by
 unfold lk;rw[abh]
 cases a.find? λp=>decide (p.1=w)<;>rfl
def zG(a:L (Z×Z))(w:Z):du (a.map λp=>(Tt p.1,V.str p.2)) (Tt w:Key)=(lk a w).map V.str:=by
 induction a with
 |nil=>rfl
 |cons p r b=>
  unfold lk;by_cases e:p.1=w
  ·rw[SQ,dX (by rw[e]),W_ (by simpa using e)];rfl
  ·rw[SQ,dU (λz=>e (Wy z)),Z6 (by simpa using e)];exact b
def dd:("..":Z).cps.toList=46::[46]:=by decide +kernel
def cm:(",":Z).cps.toList=44::[]:=by decide +kernel
def w6:("0..1000000":Z)=two ".." 0 1000000:=by decide +kernel
def R1:("0,0":Z)=two "," 0 0:=by decide +kernel
def Sg:("1,1":Z)=two "," 1 1:=by decide +kernel
def n0:("0":Z)=nS 0:=by decide +kernel
def n1:("1":Z)=nS 1:=by decide +kernel
def RU:("50":Z)=nS 50:=by decide +kernel
variable{a b g:J'}{c i n:M'}{s x y al sd r:Z}{p q:Z×Z}{ps:L (Z×Z)}{ws:L (L Z)}{eh wh:aX}{H1 H2 H H':Hp}{l f aL aP st:B4}{o:HO}{as:L B4}{K:B0}{P:To}{B':T9}{fd:Ud}{mg:Z->O' B5}{w:TV}{C:Z×Z->Prop}{ts:L Z}{xs:L V}{Q:VK}{σ:St}
def pe{t:L M'}(g:s.cps.toList=c::t)(i:c<45\/(45<c/\c<48)\/57<c){f d:J'}:two s a b=two s f d↔(a,b)=(f,d):=
 ⟨λe=>by obtain⟨h,k⟩:=Jr g i e;rw[h,k],λe=>by injection e with l j;rw[l,j]⟩
def ji:nS a=nS b↔a=b:=⟨ri,λe=>by rw[e]⟩
def bA{t:Z}(h:lk ps p.1=O t):pick ps p=if t=p.2 then[]else[(p.1++"=")++t]:=by unfold pick;rw[h];rfl
def aK(h:lk ps p.1=Y):pick ps p=[]:=by unfold pick;rw[h];exact KF U
def gU{α:Type}{a b:Prop}[SL a][SL b](h:a↔b){x y d:α}(e:y=d):(if a then x else y)=(if b then x else d):=by
 subst e;by_cases c:b
 ·rw[KF c,KF (h.mpr c)]
 ·rw[GM c,GM (λz=>c (h.mp z))]
def Hd(o:Own):lk (dD o) "wide"=O (two ".." o.w0 o.w1)/\lk (dD o) "high"=O (two ".." o.h0 o.h1)/\lk (dD o) "grow"=O (nS o.gr)/\lk (dD o) "shrink"=O (nS o.sh)/\lk (dD o) "rank"=O (nS o.rk)/\lk (dD o) "alike"=O (nS o.al):=
 ⟨by kernel_rfl,by kernel_rfl,by kernel_rfl,by kernel_rfl,by kernel_rfl,by kernel_rfl⟩
def yP(o:Own):∀w∈(Zo:L Z),lk (dD o) w=Y:=by
 have k:∀ws:L Z,(ws.all λw=>decide (w∉(["wide","high","grow","shrink","rank","alike"]:L Z)))=T'->∀w∈ws,lk (dD o) w=Y:=λws h w c=>by
  have a:=Pv (UW.mp h w c);unfold lk;rw[UY.mpr]
  ·rfl
  ·intro p b e;refine a ?_;rw[<-Pv e];exact TH (f:=(·.1)) b
 exact k _ bf
def ra(wh:aX)(i:M'):∀w∈(Zd:L Z),lk (bX wh i) w=Y:=by
 have k:∀(ps:L (Z×Z)),(∀p∈ps,p.1="span"\/p.1="float"\/p.1="at")->∀ws:L Z,(ws.all λw=>decide (w≠"span"/\w≠"float"/\w≠"at"))=T'->∀w∈ws,lk ps w=Y:=λps a ws h w f=>by
  obtain⟨g,d,c⟩:=Pv (UW.mp h w f);unfold lk;rw[UY.mpr]
  ·rfl
  ·intro p b e;have e:=Pv e
   rcases a p b with z|z|z<;>rw[z]at e
   ·exact g e.symm
   ·exact d e.symm
   ·exact c e.symm
 refine k _ (λp a=>?_) _ bf;unfold bX at a
 split at a
 ·rw[Dk.mp a];exact .inl U
 ·rw[Dk.mp a];exact .inr (.inl U)
 ·rw[Dk.mp a];exact .inr (.inr U)
 ·cases a
def qv(wh:aX):∀w∈(Zi:L Z),lk (bP wh) w=Y:=by
 have k:∀(ps:L (Z×Z)),(∀p∈ps,p.1∈(Zd:L Z))->∀ws:L Z,(ws.all λw=>decide (w∉(Zd:L Z)))=T'->∀w∈ws,lk ps w=Y:=λps a ws h w d=>by
  have c:=Pv (UW.mp h w d);unfold lk;rw[UY.mpr]
  ·rfl
  ·intro p b e;refine c ?_;rw[<-Pv e];exact a p b
 refine k _ (λp a=>?_) _ bf
 cases wh<;>simp only[bP,PP,SO,or_false]at a<;>simp only[PP,SO,or_false]
 ·rw[a];simp
 ·rcases a with z|z|z<;>rw[z]<;>simp
 ·rcases a with z|z|z<;>rw[z]<;>simp
 ·rcases a with z|z<;>rw[z]<;>simp
 ·rcases a with z|z<;>rw[z]<;>simp
def se{o:Own}{b:L (Z×Z)}{w t:Z}(h:lk (dD o) w=O t):lk (dD o++b) w=O t:=by rw[jn,h];rfl
def RJ{o:Own}{b c:L (Z×Z)}{w:Z}{t:O' Z}(h:lk (dD o) w=Y)(a:lk c w=Y)(d:lk b w=t):lk (dD o++(b++c)) w=t:=by
 rw[jn,h,jn,a,d]
 cases t<;>rfl
def RY{o:Own}{b c:L (Z×Z)}{w:Z}{t:O' Z}(h:lk (dD o) w=Y)(a:lk b w=Y)(d:lk c w=t):lk (dD o++(b++c)) w=t:=by
 rw[jn,h,jn,a,d];rfl
def zm(h:1<=x.length):x≠"":=λe=>by
 rw[e]at h;exact KB h bf
theorem wq(s:Z):∀{a:L Z},a≠[]->(∀y∈a,1<=y.length)->1<=(Sr s a).length
 |[],h,_=>KB U h
 |[x],_,h=>h x De
 |x::y::r,_,h=>by
  rw[AN,FS];have :=h x De
  lia
def AO(h:gf ws):pU ws=""↔ws=[]:=by
 constructor
 ·intro e
  cases ws with
  |nil=>rfl
  |cons w r=>
   refine KB e (zm (wq _ (by simp) λy d=>?_));obtain⟨v,b,rfl⟩:=Su.mp d;obtain⟨a,_,c⟩:=h.2 v b;exact wq _ (λz=>by rw[z]at a;exact KB a bp) λx f=>(c x f).1
 ·intro e;rw[e];decide +kernel
def Fy{p:(Z×J')×(Z×J')}(h:mh p.1)(i:mh p.2):four p="start,0,start,0"↔p=(((("start":Z),(0:J')),(("start":Z),(0:J'))):(Z×J')×(Z×J')):=by
 have g:("start,0,start,0":Z)=four ((("start":Z),(0:J')),(("start":Z),(0:J'))):=by decide +kernel
 have a:44∉("start":Z).cps.toList:=by decide +kernel
 constructor
 ·intro e;rw[g]at e;unfold four at e;obtain⟨d,e⟩:=cut_str h.1 a cm e;obtain⟨f,e⟩:=cut_str (mG bp _) (mG bp _) cm e;obtain⟨b,c⟩:=cut_str i.1 a cm e;obtain⟨⟨m,l⟩,k,j⟩:=p;dsimp only at d f b c;rw[d,ri f,b,ri c]
 ·intro e;rw[e,g]
def N7(o:Own)(k:wh.Good)(H:eh.Good):bo.flatMap (pick (dD o++(bP wh++bX eh i)))=ic o++(dR wh++(pS eh i++Il wh)):=by
 have Q:=yP o;have pn:=ra eh i;have wn:=qv wh;obtain⟨o1,o2,S,o4,o5,o6⟩:=Hd o
 have x:(46:M')<45\/(45<46/\46<48)\/57<46:=by decide
 have A:(44:M')<45\/(45<44/\44<48)\/57<44:=by decide
 have P1:([("wide","0..1000000"),("high","0..1000000"),("grow","0"),("shrink","1"),("rank","0"),("alike","0")]:L (Z×Z)).flatMap (pick (dD o++(bP wh++bX eh i)))=ic o:=by
  simp only[Tz,U5,Ni];rw[bA (p:=("wide",_)) (se o1),bA (p:=("high",_)) (se o2),bA (p:=("grow",_)) (se S),bA (p:=("shrink",_)) (se o4),bA (p:=("rank",_)) (se o5),bA (p:=("alike",_)) (se o6)];unfold ic rW nW;dsimp only;rw[w6,n0,n1];refine congr (Tb _ (gU (pe dd x) ?_)) (congr (Tb _ (gU (pe dd x) ?_)) (congr (Tb _ (gU ji U)) (congr (Tb _ (gU ji U)) (congr (Tb _ (gU ji U)) (gU ji U)))))
  ·unfold two;simp only[iQ]
  ·unfold two;simp only[iQ]
 have sub:∀w∈(Zd:L Z),w∈(Zo:L Z):=by decide +kernel
 have y:∀w∈(Zi:L Z),w∈(Zo:L Z):=by decide +kernel
 have gI:∀w∈(Zd:L Z),∀t,lk (bP wh) w=t->lk (dD o++(bP wh++bX eh i)) w=t:=λw k t F=>RJ (Q w (sub w k)) (pn w k) F;have yK:∀w∈(Zi:L Z),∀t,lk (bX eh i) w=t->lk (dD o++(bP wh++bX eh i)) w=t:=λw k t F=>RY (Q w (y w k)) (wn w k) F
 have s:("wish":Z)∈(Zd:L Z):=by decide +kernel
 have v:("columns":Z)∈(Zd:L Z):=by decide +kernel
 have u:("gap":Z)∈(Zd:L Z):=by decide +kernel
 have m:("align":Z)∈(Zd:L Z):=by decide +kernel
 have l:("side":Z)∈(Zd:L Z):=by decide +kernel
 have r:("joint":Z)∈(Zd:L Z):=by decide +kernel
 have q:("text":Z)∈(Zd:L Z):=by decide +kernel
 have V:("wish":Z)++"="="wish=":=by decide +kernel
 have k2:("columns":Z)++"="="columns=":=by decide +kernel
 have I:("gap":Z)++"="="gap=":=by decide +kernel
 have k4:("align":Z)++"="="align=":=by decide +kernel
 have P:("side":Z)++"="="side=":=by decide +kernel
 have M:("joint":Z)++"="="joint=":=by decide +kernel
 have J:("text":Z)++"="="text=":=by decide +kernel
 have k8:("span":Z)++"="="span=":=by decide +kernel
 have W:("float":Z)++"="="float=":=by decide +kernel
 have E:("at":Z)++"="="at=":=by decide +kernel
 have P2:([("wish","0,0"),("columns","1"),("gap","0"),("align","start"),("side","left"),("joint","50")]:L (Z×Z)).flatMap (pick (dD o++(bP wh++bX eh i)))=dR wh:=by
  simp only[Tz,U5,Ni]
  cases wh with
  |leaf a b=>
   rw[bA (p:=("wish",_)) (gI _ s (O (two "," a b)) (by kernel_rfl)),aK (p:=("columns",_)) (gI _ v Y (by kernel_rfl)),aK (p:=("gap",_)) (gI _ u Y (by kernel_rfl)),aK (p:=("align",_)) (gI _ m Y (by kernel_rfl)),aK (p:=("side",_)) (gI _ l Y (by kernel_rfl)),aK (p:=("joint",_)) (gI _ r Y (by kernel_rfl))];simp only[Ni];unfold dR;rw[R1,V];exact gU (pe cm A) (by unfold two;simp only[iQ])
  |lined n g al sd=>
   rw[aK (p:=("wish",_)) (gI _ s Y (by kernel_rfl)),aK (p:=("columns",_)) (gI _ v Y (by kernel_rfl)),bA (p:=("gap",_)) (gI _ u (O (nS g)) (by kernel_rfl)),bA (p:=("align",_)) (gI _ m (O al) (by kernel_rfl)),bA (p:=("side",_)) (gI _ l (O sd) (by kernel_rfl)),aK (p:=("joint",_)) (gI _ r Y (by kernel_rfl))];simp only[Ni,U1];unfold dR gW aW sW;rw[I,k4,P];dsimp only;rw[n0];exact congr (Tb _ (gU ji U)) U
  |table c g sd h=>
   rw[aK (p:=("wish",_)) (gI _ s Y (by kernel_rfl)),bA (p:=("columns",_)) (gI _ v (O (nS c)) (by kernel_rfl)),bA (p:=("gap",_)) (gI _ u (O (nS g)) (by kernel_rfl)),aK (p:=("align",_)) (gI _ m Y (by kernel_rfl)),bA (p:=("side",_)) (gI _ l (O sd) (by kernel_rfl)),aK (p:=("joint",_)) (gI _ r Y (by kernel_rfl))];simp only[Ni,U1];unfold dR gW sW;rw[k2,I,P];dsimp only;rw[n0,n1];exact congr (Tb _ (gU ji U)) (congr (Tb _ (gU ji U)) U)
  |words ws j=>
   rw[aK (p:=("wish",_)) (gI _ s Y (by kernel_rfl)),aK (p:=("columns",_)) (gI _ v Y (by kernel_rfl)),aK (p:=("gap",_)) (gI _ u Y (by kernel_rfl)),aK (p:=("align",_)) (gI _ m Y (by kernel_rfl)),aK (p:=("side",_)) (gI _ l Y (by kernel_rfl)),bA (p:=("joint",_)) (gI _ r (O (nS j)) (by kernel_rfl))];simp only[U1];unfold dR jW;rw[M];dsimp only;rw[RU];exact gU ji U
  |flow f ws j=>
   rw[aK (p:=("wish",_)) (gI _ s Y (by kernel_rfl)),aK (p:=("columns",_)) (gI _ v Y (by kernel_rfl)),aK (p:=("gap",_)) (gI _ u Y (by kernel_rfl)),aK (p:=("align",_)) (gI _ m Y (by kernel_rfl)),aK (p:=("side",_)) (gI _ l Y (by kernel_rfl)),bA (p:=("joint",_)) (gI _ r (O (nS j)) (by kernel_rfl))];simp only[U1];unfold dR jW;rw[M];dsimp only;rw[RU];exact gU ji U
  |over ps=>
   rw[aK (p:=("wish",_)) (gI _ s Y U),aK (p:=("columns",_)) (gI _ v Y U),aK (p:=("gap",_)) (gI _ u Y U),aK (p:=("align",_)) (gI _ m Y U),aK (p:=("side",_)) (gI _ l Y U),aK (p:=("joint",_)) (gI _ r Y U)];rfl
 have B:("span":Z)∈(Zi:L Z):=by decide +kernel
 have C:("float":Z)∈(Zi:L Z):=by decide +kernel
 have D:("at":Z)∈(Zi:L Z):=by decide +kernel
 have d:bX eh i=[]->pS eh i=[]->([("span","1,1"),("float","left"),("at","start,0,start,0")]:L (Z×Z)).flatMap (pick (dD o++(bP wh++bX eh i)))=pS eh i:=λG R=>by
  simp only[Tz,U5,Ni];rw[aK (p:=("span",_)) (yK _ B Y (by rw[G];rfl)),aK (p:=("float",_)) (yK _ C Y (by rw[G];rfl)),aK (p:=("at",_)) (yK _ D Y (by rw[G];rfl)),R];rfl
 have X:([("span","1,1"),("float","left"),("at","start,0,start,0")]:L (Z×Z)).flatMap (pick (dD o++(bP wh++bX eh i)))=pS eh i:=by
  cases eh with
  |leaf a b=>exact d U U
  |lined n g al sd=>exact d U U
  |words ws j=>exact d U U
  |table c g sd h=>
   simp only[Tz,U5,Ni];rw[bA (p:=("span",_)) (yK _ B (O (two "," (h.getD i (1,1)).1 (h.getD i (1,1)).2)) (by kernel_rfl)),aK (p:=("float",_)) (yK _ C Y (by kernel_rfl)),aK (p:=("at",_)) (yK _ D Y (by kernel_rfl))];simp only[Ni];unfold pS;rw[Sg,k8];exact gU (pe cm A) (by unfold two;simp only[iQ])
  |flow f ws j=>
   simp only[Tz,U5,Ni];rw[aK (p:=("span",_)) (yK _ B Y (by kernel_rfl)),bA (p:=("float",_)) (yK _ C (O (f.getD i "left")) (by kernel_rfl)),aK (p:=("at",_)) (yK _ D Y (by kernel_rfl))];simp only[Ni,U1];unfold pS;rw[W];dsimp only;by_cases c:f.getD i "left"="left"
   ·rw[KF c,KF c]
   ·rw[GM c,GM c]
    have N:i<f.length:=by
     rcases Z3 i f.length with z|z
     ·exact z
     ·exact KB (by rw[Sk,V7 z];rfl) c
    have hm:f.getD i "left"∈f:=by
     rw[Sk,B2 N];exact TQ N
    rcases H.1 _ hm with z|z
    ·exact KB z c
    ·rw[z];decide +kernel
  |over ps=>
   cases i with
   |zero=>exact d U U
   |succ i=>
    simp only[Tz,U5,Ni];rw[aK (p:=("span",_)) (yK _ B Y (by kernel_rfl)),aK (p:=("float",_)) (yK _ C Y (by kernel_rfl)),bA (p:=("at",_)) (yK _ D (O (four (ps.getD i (("",0),("",0))))) (by kernel_rfl))];simp only[U1];unfold pS;rw[E]
    have K:mh (ps.getD i (("",0),("",0))).1/\mh (ps.getD i (("",0),("",0))).2:=by
     rw[Sk]
     cases e:ps[i]? with
     |some p=>exact H p (Do e)
     |none=>exact⟨⟨bf,bf,by show(0:M')<1000000000;decide⟩,⟨bf,bf,by show(0:M')<1000000000;decide⟩⟩
    exact gU (Fy K.1 K.2) (by unfold four;simp only[iQ])
 have T:([("text","")]:L (Z×Z)).flatMap (pick (dD o++(bP wh++bX eh i)))=Il wh:=by
  simp only[Tz,U5,Ni]
  cases wh with
  |leaf a b=>rw[aK (p:=("text",_)) (gI _ q Y (by kernel_rfl))];rfl
  |lined n g al sd=>rw[aK (p:=("text",_)) (gI _ q Y (by kernel_rfl))];rfl
  |table c g sd h=>rw[aK (p:=("text",_)) (gI _ q Y (by kernel_rfl))];rfl
  |over ps=>rw[aK (p:=("text",_)) (gI _ q Y U)];rfl
  |words ws j=>
   rw[bA (p:=("text",_)) (gI _ q (O (pU ws)) (by kernel_rfl)),J];exact gU (AO k.1) U
  |flow f ws j=>
   rw[bA (p:=("text",_)) (gI _ q (O (pU ws)) (by kernel_rfl)),J];exact gU (AO k.2.1) U
 rw[<-P1,<-P2,<-X,<-T,<-U4,<-U4,<-U4];rfl
noncomputable def top(i:M'):SX:=XG.main.body.getD i (.Pass ⟨0,0,0,0⟩)
noncomputable abbrev LQ:SX:=top 45
noncomputable abbrev LV:SX:=top 46
noncomputable abbrev uR:SX:=top 47
noncomputable abbrev kP:SX:=top 48
noncomputable abbrev m_:SX:=top 49
noncomputable abbrev mn:SX:=top 94
noncomputable abbrev l_:SX:=top 95
noncomputable abbrev zO:SX:=top 96
noncomputable abbrev kC:SX:=top 97
noncomputable abbrev kv:SX:=top 98
noncomputable abbrev kj:SX:=top 99
noncomputable abbrev kx:SX:=top 100
noncomputable abbrev kD:SX:=top 101
noncomputable abbrev A6:SX:=top 114
noncomputable abbrev BC:SX:=top 115
noncomputable abbrev A2:SX:=top 116
noncomputable abbrev Bh:SX:=top 118
noncomputable abbrev vG:SX:=top 124
noncomputable abbrev mJ:SX:=top 125
noncomputable abbrev Fh:SX:=top 126
structure aQ(mg:Z->O' B5):Prop where
 len:mg "len"=Y
 range:mg "range"=Y
 list:mg "list"=Y
 tuple:mg "tuple"=Y
 min:mg "min"=Y
 abs:mg "abs"=Y
 enum:mg "enumerate"=Y
 str:mg "str"=Y
 inst:mg "isinstance"=Y
def kS(p:Z×Z):Key×V:=(Tt p.1,V.str p.2)
structure NW(P:To)(w:TV)(K:B0)(mg:Z->O' B5)(aL aP:B4):Prop where
 mL:mg "LINED"=O (.ref aL)
 sL:∀H,bq K H aL [.str "row",.str "column",.str "wrap"]
 mP:mg "PLAIN"=O (.ref aP)
 dP:yc P w K aP (bo.map kS)
 mI:∃t,mg "INDENT"=O (.str "  " t)
def KT(H H':Hp):Prop:=∀b xs,H b=O (.tup xs)->H' b=O (.tup xs)
def KT.trans{c:Hp}(a:KT H1 H2)(b:KT H2 c):KT H1 c:=λx xs e=>b x xs (a x xs e)
def KT.same{H H':Hp}(s:aa H H'):KT H H':=λb _ e=>s b _ e
def KT.lst{H:Hp}{l:B4}{xs a:L V}(e:H l=O (.lst xs)):KT H (upd H l (.lst a)):=λb c h=>by
 rw[ax (wW h e (by intro z;cases z))];exact h
def KT.put(e:H l=Y):KT H (upd H l o):=λb a h=>by
 rw[ax (λz=>by rw[z,e]at h;cases h)];exact h
def lH{rows:L (L V)}(h:bQ H as rows)(k:KT H H'):bQ H' as rows:=⟨h.1,λi p r a b=>k _ _ (h.2 i p r a b)⟩
def kr(H:Hp)(a:B4)(o:Own):Prop:=∃u v,H a=O (.tup [.ref u,.ref v,.int o.gr,.int o.sh,.int o.rk,.int o.al])/\H u=O (.tup [.int o.w0,.int o.w1])/\H v=O (.tup [.int o.h0,.int o.h1])
def dC(w:L Z):L V:=w.map V.str
def jv(p:J'×J'):L V:=[.int p.1,.int p.2]
def rT(H:Hp)(s:B4)(ws:L (L Z)):Prop:=∃as,H s=O (.tup (as.map V.ref))/\bQ H as (ws.map dC)
def d_(H:Hp)(q:B4):aX->Prop
 | .leaf a b=>H q=O (.tup [.int a,.int b])
 | .lined _ g al sd=>H q=O (.tup [.int g,.str al,.str sd])
 | .table c g sd d=>∃s as,H q=O (.tup [.int c,.int g,.str sd,.ref s])/\H s=O (.tup (as.map V.ref))/\bQ H as (d.map jv)
 | .words ws j=>∃s,H q=O (.tup [.ref s,.int j])/\rT H s ws
 | .flow e ws j=>∃t s,H q=O (.tup [.ref t,.ref s,.int j])/\H t=O (.tup (dC e))/\rT H s ws
 | .over ps=>∃as:L B4,H q=O (.tup (as.map V.ref))/\as.length=ps.length/\∀(i:M')(a:B4)(p:(Z×J')×(Z×J')),as[i]? =O a->ps[i]? =O p->∃b c,H a=O (.tup [.ref b,.ref c])/\H b=O (.tup [.str p.1.1,.int p.1.2])/\H c=O (.tup [.str p.2.1,.int p.2.2])
def kr.keep(k:KT H H'){a:B4}{o:Own}:kr H a o->kr H' a o:=λ⟨u,v,c,d,b⟩=>⟨u,v,k _ _ c,k _ _ d,k _ _ b⟩
def rT.keep(k:KT H H'){a:B4}{o:L (L Z)}:rT H a o->rT H' a o:=λ⟨as,b,c⟩=>⟨as,k _ _ b,lH c k⟩
def d_.keep(k:KT H H'){q:B4}:∀{wh:aX},d_ H q wh->d_ H' q wh
 | .leaf a b,h=>k _ _ h
 | .lined _ g al sd,h=>k _ _ h
 | .table c g sd n,⟨s,as,e,d,f⟩=>⟨s,as,k _ _ e,k _ _ d,lH f k⟩
 | .words ws j,⟨s,e,d⟩=>⟨s,k _ _ e,d.keep k⟩
 | .flow u ws j,⟨t,s,e,d,f⟩=>⟨t,s,k _ _ e,k _ _ d,f.keep k⟩
 | .over ps,⟨as,e,d,f⟩=>⟨as,k _ _ e,d,λi a p v l=>by
   obtain⟨b,c,m,r,o⟩:=f i a p v l
   exact⟨b,c,k _ _ m,k _ _ r,k _ _ o⟩⟩
structure dV where
 nm:Z
 own:Own
 wh:aX
inductive Fo where
 |nil
 |cons (a:B4) (d:dV) (cs as:Fo)
variable{d:dV}{G:Fo}
namespace Fo
noncomputable def bD:Fo->L B4
 |nil=>[]
 |cons a _ _ as=>a::as.bD
noncomputable def cnt:Fo->M'
 |nil=>0
 |cons _ _ a as=>a.cnt+as.cnt+1
noncomputable def fq:Fo->M'
 |nil=>0
 |cons _ _ a as=>max (a.fq+1) as.fq
noncomputable def app:Fo->Fo->Fo
 |nil,G=>G
 |cons a d b as,G=>cons a d b (as.app G)
def lh(H:Hp)(a:B4)(d:dV)(ts:L B4):Prop:=∃o q p,H a=O (.tup [.str d.wh.kd,.str d.nm,.ref o,.ref q,.ref p])/\kr H o d.own/\d_ H q d.wh/\H p=O (.tup (ts.map V.ref))
def Ok(H:Hp):Fo->Prop
 |nil=>WJ
 |cons a d b as=>lh H a d b.bD/\b.Ok H/\as.Ok H
def fits:aX->M'->Prop
 | .table _ _ _ b,n=>b.length=n
 | .flow a _ _,n=>a.length=n
 | .over ps,n=>n<=ps.length+1
 |_,_=>WJ
def Good:Fo->Prop
 |nil=>WJ
 |cons _ d a as=>(d.wh.Good/\d.own.Good/\d.nm.length<=60/\fits d.wh a.bD.length)/\a.Good/\as.Good
def lh.keep(k:KT H H'){a:B4}{ts:L B4}:lh H a d ts->lh H' a d ts:=λ⟨o,q,p,f,e,c,b⟩=>⟨o,q,p,k _ _ f,e.keep k,c.keep k,k _ _ b⟩
theorem Ok.keep(k:KT H H'):∀{F:Fo},F.Ok H->F.Ok H'
 |nil,_=>trivial
 |cons a d f as,⟨e,b,c⟩=>⟨e.keep k,Ok.keep k b,Ok.keep k c⟩
theorem dm(G:Fo):∀F:Fo,(F.app G).bD=F.bD++G.bD
 |nil=>rfl
 |cons a d b as=>by show a::(as.app G).bD=_;rw[dm G as];rfl
theorem pF(G:Fo):∀F:Fo,(F.app G).cnt=F.cnt+G.cnt
 |nil=>by show G.cnt=0+_;lia
 |cons a d b as=>by show b.cnt+(as.app G).cnt+1=b.cnt+as.cnt+1+_;rw[pF G as];lia
theorem mf(G:Fo):∀F:Fo,(F.app G).fq=max F.fq G.fq
 |nil=>by show G.fq=max 0 _;lia
 |cons a d b as=>by show max (b.fq+1) (as.app G).fq=max (max (b.fq+1) as.fq) _;rw[mf G as];lia
theorem pI:∀F:Fo,F.app nil=F
 |nil=>rfl
 |cons a d b as=>by show cons a d b (as.app nil)=_;rw[pI as]
theorem pQ(G K:Fo):∀F:Fo,(F.app G).app K=F.app (G.app K)
 |nil=>rfl
 |cons a d b as=>by show cons a d b ((as.app G).app K)=_;rw[pQ G K as];rfl
theorem uH:∀{F:Fo},(F.app G).Ok H↔F.Ok H/\G.Ok H
 |nil=>⟨λh=>⟨trivial,h⟩,λh=>h.2⟩
 |cons a d e as=>by
  show(_/\_/\(as.app G).Ok H)↔(_/\_/\as.Ok H)/\_;rw[uH (F:=as)];constructor
  ·rintro⟨a,b,c,d⟩;exact⟨⟨a,b,c⟩,d⟩
  ·rintro⟨⟨a,b,c⟩,d⟩;exact⟨a,b,c,d⟩
theorem mQ:∀{F:Fo},(F.app G).Good↔F.Good/\G.Good
 |nil=>⟨λh=>⟨trivial,h⟩,λh=>h.2⟩
 |cons a d e as=>by
  show(_/\_/\(as.app G).Good)↔(_/\_/\as.Good)/\_;rw[mQ (F:=as)];constructor
  ·rintro⟨a,b,c,d⟩;exact⟨⟨a,b,c⟩,d⟩
  ·rintro⟨⟨a,b,c⟩,d⟩;exact⟨a,b,c,d⟩
end Fo
noncomputable def fM(d:dV)(eh:aX)(i:M'):L Z:=d.wh.kd::d.nm::(ic d.own++(dR d.wh++(pS eh i++Il d.wh)))
noncomputable def bR(d:dV)(n:M')(eh:aX)(i:M'):Z:=oo "  " n++Sr " " (fM d eh i)
noncomputable def a_:Fo->M'->aX->M'->L Z
 | .nil,_,_,_=>[]
 | .cons _ d a as,n,eh,i=>bR d n eh i::(a_ a (n+1) d.wh 0++a_ as n eh (i+1))
theorem nO(G:Fo)(n:M')(eh:aX):∀(F:Fo)(i:M'),a_ (F.app G) n eh i=a_ F n eh i++a_ G n eh (i+F.bD.length)
 | .nil,i=>rfl
 | .cons a d b as,i=>by
  show bR d n eh i::(a_ b (n+1) d.wh 0++a_ (as.app G) n eh (i+1))=bR d n eh i::(a_ b (n+1) d.wh 0++a_ as n eh (i+1))++a_ G n eh (i+(as.bD.length+1));rw[nO G n eh as (i+1),show i+1+as.bD.length=i+(as.bD.length+1)by lia,Uc,Sx]
theorem fW(n:M')(eh:aX):∀(F:Fo)(n:M')(eh:aX)(i:M'),(a_ F n eh i).length=F.cnt
 | .nil,_,_,_=>rfl
 | .cons a d b as,n,eh,i=>by
  show(a_ b (n+1) d.wh 0++a_ as n eh (i+1)).length+1=b.cnt+as.cnt+1;rw[B3,fW n eh b (n+1) d.wh 0,fW n eh as n eh (i+1)]
def LB(n:M')(xs:L Z):Prop:=∀x∈xs,x.length<=n
theorem LB.app{a b:L Z}(d:LB n a)(c:LB n b):LB n (a++b):=λx e=>by
 rcases Os.mp e with z|z
 ·exact d x z
 ·exact c x z
def LB.nil:LB n []:=λx a=>nomatch a
def LB.one(h:y.length<=n):LB n [y]:=λx a=>by rw[Dk.mp a];exact h
def LB.ite{c:Prop}[SL c](h:y.length<=n):LB n (if c then[]else[y]):=by
 split
 ·exact LB.nil
 ·exact LB.one h
def oX{c:Prop}[SL c]:(if c then[]else[y]).length<=1:=by split<;>simp
theorem kL(h:gf ws):(pU ws).length<=4800:=by
 have g:∀y∈ws.map (Sr "|"),y.length<=78:=λy f=>by
  obtain⟨v,c,rfl⟩:=Su.mp f;obtain⟨_,a,d⟩:=h.2 v c;have :=fu "|" v (B:=12) λx b=>(d x b).2
  have e:("|":Z).length=1:=by decide +kernel
  rw[e]at this
  have :v.length*13<=78:=by lia
  lia
 have a:=fu " " _ g
 have e:(" ":Z).length=1:=by decide +kernel
 rw[e,AC]at a;have :=h.1
 have :ws.length*79<=4740:=by lia
 show(Sr " " (ws.map (Sr "|"))).length<=4800
 lia
inductive Pd(j:M')(vs:L V)(H:Hp)(Q:VK):Prop
 |mk (a:B4) (xs:L V) (v:V) (c0:vs=[.ref a]) (c1:H a=O (.tup xs)) (c2:xs[j]? =O v) (c3:Q v H)
def gQ(j:M'):Sp:=λa H Q _=>Pd j a H Q
def N9:ay Zb Zb (aj LQ):=dH
def KG(F:c_ K "kind_of" "kind_of" LQ f fd):aS P w K mg B' dz 1 f fd Zb (gQ 0):=by
 refine F.fb N9 λi A d s H l Q E g h=>?_
 ·obtain⟨a,xs,v,e,c,b,k⟩:=h;subst e;exact⟨_,ai (ar (cy (pv 0) af)),_,U,a,_,_,_,U,U,bq.of c,aG (j:=0) b,k⟩
def M8:ay Zb Zb (aj LV):=dH
def La(F:c_ K "name_of" "name_of" LV f fd):aS P w K mg B' dz 1 f fd Zb (gQ 1):=by
 refine F.fb M8 λi A d s H l Q E g h=>?_
 ·obtain⟨a,xs,v,e,c,b,k⟩:=h;subst e;exact⟨_,ai (ar (cy (pv 0) af)),_,U,a,_,_,_,U,U,bq.of c,aG (j:=1) b,k⟩
def JJ:ay Zb Zb (aj uR):=dH
def E7(F:c_ K "own_of" "own_of" uR f fd):aS P w K mg B' dz 1 f fd Zb (gQ 2):=by
 refine F.fb JJ λi A d s H l Q E g h=>?_
 ·obtain⟨a,xs,v,e,c,b,k⟩:=h;subst e;exact⟨_,ai (ar (cy (pv 0) af)),_,U,a,_,_,_,U,U,bq.of c,aG (j:=2) b,k⟩
def ry:ay Zb Zb (aj kP):=dH
def Cv(F:c_ K "what_of" "what_of" kP f fd):aS P w K mg B' dz 1 f fd Zb (gQ 3):=by
 refine F.fb ry λi A d s H l Q E g h=>?_
 ·obtain⟨a,xs,v,e,c,b,k⟩:=h;subst e;exact⟨_,ai (ar (cy (pv 0) af)),_,U,a,_,_,_,U,U,bq.of c,aG (j:=3) b,k⟩
def DB:ay Zb Zb (aj m_):=dH
def yS(F:c_ K "parts_of" "parts_of" m_ f fd):aS P w K mg B' dz 1 f fd Zb (gQ 4):=by
 refine F.fb DB λi A d s H l Q E g h=>?_
 ·obtain⟨a,xs,v,e,c,b,k⟩:=h;subst e;exact⟨_,ai (ar (cy (pv 0) af)),_,U,a,_,_,_,U,U,bq.of c,aG (j:=4) b,k⟩
inductive DL(vs:L V)(H:Hp)(Q:VK):Prop
 |mk (p:B4) (xs:L V) (s:Z) (c0:vs=[.ref p,.str s]) (c1:H p=O (.tup xs)) (c2:xs.length<=10) (c3:(∀x∈xs,rN x)) (c4:s.length<=10) (c5:∀H',aa H H'->Q (.str (Sr s (xs.map tS))) H')
def nj:Sp:=λa H Q _=>DL a H Q
inductive zA(vs:L V)(H:Hp)(Q:VK):Prop
 |mk (a:B4) (o:Own) (c0:vs=[.ref a]) (c1:kr H a o) (c2:o.Good) (c3:∀(d:B4)(H':Hp),H d=Y->aa H H'->H' d=O (.dK ((dD o).map kS))->Q (.ref d) H')
def tJ:Sp:=λa H Q _=>zA a H Q
inductive FC(vs:L V)(H:Hp)(Q:VK):Prop
 |mk (s:B4) (ws:L (L Z)) (c0:vs=[.ref s]) (c1:rT H s ws) (c2:gf ws) (c3:∀H',aa H H'->Q (.str (pU ws)) H')
def A5:Sp:=λa H Q _=>FC a H Q
theorem Nr{x:V}(h:rN x):(tS x).length<=60:=by
 cases x with
 |int i=>have :i.natAbs<1000000000:=h;have :=ir this;show(nS i).length<=60;lia
 |str x=>exact h
 |_=>exact h.elim
def MO(h:x∉ps.map (·.1)):putK (ps.map kS) (Tt x) (V.str y)=(ps++[(x,y)]).map kS:=by
 have a:du (ps.map kS) (Tt x:Key)=Y:=by
  show du (ps.map λp=>(Tt p.1,V.str p.2)) _=Y;rw[zG];unfold lk;rw[UY.mpr]
  ·rfl
  ·intro p b e;exact h (by rw[<-Pv e];exact TH (f:=(·.1)) b)
 rw[rB _ a,KM];rfl
theorem rV:∀(a ps:L (Z×Z)),((ps++a).map (·.1)).Nodup->(a.map kS).foldl (λb p=>putK b p.1 p.2) (ps.map kS)=(ps++a).map kS
 |[],ps,_=>by rw[Ni];rfl
 |q::a,ps,h=>by
  have c:q.1∉ps.map (·.1):=λz=>by
   rw[KM,SQ]at h;exact(V4.mp h).2.2 _ z _ De U
  show(a.map kS).foldl _ (putK (ps.map kS) (Tt q.1) (V.str q.2))=_;rw[MO c,rV a (ps++[(q.1,q.2)]) (by rw[Sx];exact h),Sx];rfl
def fe(h:(ps.map (·.1)).Nodup):oz [] (ps.map kS)=ps.map kS:=rV ps [] h
def tU{a:L (Z×Z)}(h:((ps++a).map (·.1)).Nodup):ki (ps.map kS) (a.map kS)=(ps++a).map kS:=rV a ps h
def FP(o:Own):((dD o).map (·.1)).Nodup:=by
 show(["wide","high","grow","shrink","rank","alike"]:L Z).Nodup;decide +kernel
def ja(s:Z)(a b:J'):Sr s ([V.int a,V.int b].map tS)=two s a b:=L6 _ _ _
def me(d:cZ a)(c:cZ b):∀x∈[V.int a,V.int b],rN x:=λx e=>by
 rcases PP.mp e with z|z
 ·rw[z];exact d
 ·rw[Dk.mp z];exact c
noncomputable def wordAt(H:Hp):V->V
 | .ref p=>match H p with
  |some (.tup xs)=> .str (Sr "|" (xs.map tS))
  |_=> .non
 |_=> .non
def Kv(w:L Z):(dC w).map tS=w:=by
 unfold dC;rw[SN];exact WB w
def nG{p:B4}{w:L Z}(h:H p=O (.tup (dC w))):wordAt H (.ref p)= .str (Sr "|" w):=by
 unfold wordAt;dsimp only;rw[h];dsimp only;rw[Kv]
theorem tr(h:bQ H as (ws.map dC)):(as.map V.ref).map (wordAt H)=(ws.map (Sr "|")).map V.str:=by
 have c:as.length=ws.length:=by rw[h.1,AC]
 apply Yg;intro i;rw[B6,B6,B6,B6]
 cases a:as[i]? with
 |none=>
  have e:=List.getElem?_eq_none_iff.mp a;rw[V7 (l:=ws) aB];rfl
 |some p=>
  have b:i<ws.length:=by rw[<-c];exact cQ a
  have d:=h.2 i p _ a (by rw[B6,B2 b];rfl);rw[B2 b];show O (wordAt H (.ref p))=O (.str _);rw[nG d]
def HI:ay Zp Zp (aj mn):=dH
theorem DA(F:c_ K "joined" "joined" mn f fd)(N:aQ mg):aS P w K mg B' dz 1 f fd Zp nj:=by
 refine F.fb HI λt A r s H u Q E C h=>?_
 ·obtain⟨p,xs,g,e,c,m,j,q,k⟩:=h;subst e
  refine⟨_,ai (ar (bY Pi S_ S1 fH (pv 1) (aN (dQ (br (fs:=aj mn) (N:=Zp) U U bf) U (gT (pv 0)) (λ_ _ _ _ _=>cv)
   (λ_ _ _ _ _=>aM bz (by rfl) N.str On (aN (pv 0))))))),?_⟩
  refine⟨_,U,U,_,U,p,U,⟨_,bq.of c⟩,nY (λx=> .str (tS x)) c (small aB) (λi x H' z ex d n=>⟨_,U,x,U,j x (Do ex),n _ (aa.refl _)⟩) λD H' v d a=>?_⟩;refine⟨g,D,xs.map tS,U,U,bu.of (by rw[a,SN];rfl),?_,k H' d⟩
  have l:=ig (xs.map tS) (B:=60) λy o=>by
   obtain⟨x,b,rfl⟩:=Su.mp o;exact Nr (j x b)
  rw[AC]at l⊢;have :xs.length*g.length<=10*10:=Xw m q
  lia
def Cd:ay ["own"] ["own"] (aj l_):=dH
def y_(F:c_ K "own_told" "own_told" l_ f fd)(N:aQ mg)(n:Cl P w K mg B' 1 nj "joined"):aS P w K mg B' dz 2 f fd ["own"] tJ:=by
 refine F.fb Cd λM A J s H R Q E r h=>?_
 ·obtain⟨a,o,e,⟨u,v,l,I,z⟩,⟨g1,g2,g3,D,G,B,x,C⟩,k⟩:=h;subst e
  refine⟨_,ai (ar (gZ (cb ak (pq n r (bO (cy (pv 0) af) ak))
   (cb ak (pq n r (bO (cy (pv 0) af) ak))
   (cb ak (aM bz (by rfl) N.str On (aN (cy (pv 0) af)))
   (cb ak (aM bz (by rfl) N.str On (aN (cy (pv 0) af)))
   (cb ak (aM bz (by rfl) N.str On (aN (cy (pv 0) af)))
   (cb ak (aM bz (by rfl) N.str On (aN (cy (pv 0) af))) hZ)))))) U U (by simp) bp)),?_⟩
  intro p g;have i:aa H (upd H p (.dK [])):=aa.put (aa.refl _) g;have y:(upd H p (.dK [])) p=O (.dK []):=ag;generalize upd H p (.dK [])=H1 at *;refine⟨_,U,a,_,_,_,U,U,bq.of (i _ _ l),aG (j:=0) U,u,_,"..",U,i _ _ I,(by show 2<=10;decide),me g1 g2,bf,λH2 q=>?_⟩;have b:=i.trans q;refine⟨_,U,a,_,_,_,U,U,bq.of (b _ _ l),aG (j:=1) U,v,_,"..",U,b _ _ z,(by show 2<=10;decide),me g3 D,bf,λS m=>?_⟩;have c:=b.trans m;have d:=bq.of (K:=K) (c _ _ l);refine⟨_,U,a,_,_,_,U,U,d,aG (j:=2) U,_,U,G,_,U,a,_,_,_,U,U,d,aG (j:=3) U,_,U,B,_,U,a,_,_,_,U,U,d,aG (j:=4) U,_,U,x,_,U,a,_,_,_,U,U,d,aG (j:=5) U,_,U,C,?_⟩;have t:=(q.trans m) _ _ y;refine⟨t,(dD o).map kS,?_,(by show 6<=15;decide),?_⟩
  ·rw[ja,ja];rfl
  ·rw[fe (FP o)];exact k p _ g (aa.put c g) ag
def I_:ay ["words"] ["words"] (aj zO):=dH
theorem He(F:c_ K "words_text" "words_text" zO f fd):aS P w K mg B' dz 1 f fd ["words"] A5:=by
 refine F.fb I_ λJ A G s H M Q E T h=>?_
 ·obtain⟨C,ws,e,⟨as,o,a⟩,g,k⟩:=h;subst e
  have t:as.length=ws.length:=by rw[a.1,AC]
  have g1:=g.1
  refine⟨_,ai (ar (bY Pi S_ S1 fH ak (aN (dQ (br (fs:=aj zO) (N:=["words"]) U U bf) U (gT (pv 0)) (λ_ _ _ _ _=>cv)
   (λ_ _ _ _ _=>uJ (K:=K) (r:=nV K) Pi S_ S1 nX ak (aN (pv 0))))))),?_⟩
  refine⟨U,_,U,C,U,⟨_,bq.of o⟩,nY (wordAt H) o (small (by rw[AC];lia)) (λi x H' S ex d n=>?_) λD H' R d c=>?_⟩
  ·rw[B6]at ex;obtain⟨p,j,rfl⟩:=Sn.mp ex
   have l:i<ws.length:=by rw[<-t];exact cQ j
   have b:=a.2 i p _ j (by rw[B6,B2 l];rfl);obtain⟨w1,w2,w3⟩:=g.2 _ (TQ l);rw[nG b]at n;refine⟨U,_,U,"|",p,ws[i],U,U,bq.of (d _ _ b),?_,n H' (aa.refl _)⟩;have m:=ig ws[i] (B:=12) λy b=>(w3 y b).2
   have e:("|":Z).length=1:=by decide +kernel
   rw[e]
   lia
  ·rw[tr a]at c;refine⟨" ",D,ws.map (Sr "|"),U,U,bu.of c,?_,k H' d⟩
   have m:=ig (ws.map (Sr "|")) (B:=78) λy b=>by
    obtain⟨v,u,rfl⟩:=Su.mp b;obtain⟨_,I,q⟩:=g.2 v u;have :=fu "|" v (B:=12) λx z=>(q x z).2
    have e:("|":Z).length=1:=by decide +kernel
    rw[e]at this
    lia
   have e:(" ":Z).length=1:=by decide +kernel
   rw[e];rw[AC]at m⊢
   lia
noncomputable abbrev L3:L V:=[.str "row",.str "column",.str "wrap"]
inductive xn(vs:L V)(H:Hp)(Q:VK):Prop
 |mk (q:B4) (wh:aX) (c0:vs=[.str wh.kd,.ref q]) (c1:d_ H q wh) (c2:wh.Good) (c3:∀(d:B4)(H':Hp),H d=Y->aa H H'->H' d=O (.dK ((bP wh).map kS))->Q (.ref d) H')
def rH:Sp:=λa H Q _=>xn a H Q
inductive wX(vs:L V)(H:Hp)(Q:VK):Prop
 |mk (a:B4) (d:dV) (ts:L B4) (i:M') (c0:vs=[.ref a,.int (i:J')]) (c1:Fo.lh H a d ts) (c2:d.wh.Good) (c3:Fo.fits d.wh ts.length) (c4:i<ts.length) (c5:∀(p:B4)(H':Hp),H p=Y->aa H H'->H' p=O (.dK ((bX d.wh i).map kS))->Q (.ref p) H')
def qa:Sp:=λa H Q _=>wX a H Q
def PL:tR (.str "row") L3=T':=by decide +kernel
def O_:tR (.str "column") L3=T':=by decide +kernel
def NU:tR (.str "wrap") L3=T':=by decide +kernel
def NS:tR (.str "leaf") L3=F':=by decide +kernel
def JO:tR (.str "table") L3=F':=by decide +kernel
def inWords:tR (.str "words") L3=F':=by decide +kernel
def NA:tR (.str "flow") L3=F':=by decide +kernel
def NJ:tR (.str "over") L3=F':=by decide +kernel
def hV{a b:Z}(h:a≠b):decide (V.str a=V.str b)=F':=GT λz=>h (V.str.inj z)
def Ca{a:Z}:decide (V.str a=V.str a)=T':=FB U
def tl:("table":Z)≠"leaf":=by decide +kernel
def wl:("words":Z)≠"leaf":=by decide +kernel
def wt:("words":Z)≠"table":=by decide +kernel
def fl:("flow":Z)≠"leaf":=by decide +kernel
def ft:("flow":Z)≠"table":=by decide +kernel
def fw:("flow":Z)≠"words":=by decide +kernel
def ol:("over":Z)≠"leaf":=by decide +kernel
def ot:("over":Z)≠"table":=by decide +kernel
def ow:("over":Z)≠"words":=by decide +kernel
def QS:("over":Z)≠"flow":=by decide +kernel
def lt':("leaf":Z)≠"table":=by decide +kernel
def RE:("leaf":Z)≠"flow":=by decide +kernel
def RQ:("leaf":Z)≠"over":=by decide +kernel
def Rr:("words":Z)≠"flow":=by decide +kernel
def RK:("words":Z)≠"over":=by decide +kernel
def Od{k:M'}:(aX.lined k g al sd).kd≠"table"/\(aX.lined k g al sd).kd≠"flow"/\(aX.lined k g al sd).kd≠"over"/\(aX.lined k g al sd).kd≠"leaf"/\(aX.lined k g al sd).kd≠"words":=by
 have h:(aX.lined k g al sd).kd="row"\/(aX.lined k g al sd).kd="column"\/(aX.lined k g al sd).kd="wrap":=by
  match k with
  |0=>exact .inl U
  |1=>exact .inr (.inl U)
  |k+2=>exact .inr (.inr U)
 rcases h with h|h|h<;>rw[h]<;>decide +kernel
def Iw{k:M'}:tR (.str (aX.lined k g al sd).kd) L3=T':=by
 match k with
 |0=>exact PL
 |1=>exact O_
 |k+2=>exact NU
def kd_len(wh:aX):wh.kd.length<=10:=by
 have :wh.kd∈(["leaf","row","column","wrap","table","words","flow","over"]:L Z):=by
  cases wh with
  |lined k g al sd=>
   match k with
   |0=>simp[aX.kd]
   |1=>simp[aX.kd]
   |k+2=>simp[aX.kd]
  |_=>simp[aX.kd]
 revert this
 generalize wh.kd=x
 revert x
 decide +kernel
def EH(p:(Z×J')×(Z×J')):Sr "," ([V.str p.1.1,V.int p.1.2,V.str p.2.1,V.int p.2.2].map tS)=four p:=by
 show Sr "," [p.1.1,nS p.1.2,p.2.1,nS p.2.2]=_;rw[AN,AN,L6];rfl
def rf{c:J'}{a:L (J'×J')}{p:J'×J'}(h:a[i]? =O p):bX (.table c g sd a) i=[(("span":Z),two "," p.1 p.2)]:=by
 show[(("span":Z),two "," (a.getD i (1,1)).1 (a.getD i (1,1)).2)]=_;rw[Sk,h];rfl
def uq{a:L Z}{j:J'}{p:Z}(h:a[i]? =O p):bX (.flow a ws j) i=[(("float":Z),p)]:=by
 show[(("float":Z),a.getD i "left")]=_;rw[Sk,h];rfl
def tP{ps:L ((Z×J')×(Z×J'))}{p:(Z×J')×(Z×J')}(h:ps[i]? =O p):bX (.over ps) (i+1)=[(("at":Z),four p)]:=by
 show[(("at":Z),four (ps.getD i (("",0),("",0))))]=_;rw[Sk,h];rfl
def zg:ay ["kind","what"] ["kind","what"] (aj kC):=dH
def yo(F:c_ K "what_told" "what_told" kC f fd)(N:aQ mg)(G:NW P w K mg aL aP)(I:Cl P w K mg B' 1 nj "joined")(D:Cl P w K mg B' 1 A5 "words_text"):aS P w K mg B' dz 2 f fd ["kind","what"] rH:=by
 refine F.fb zg λS A J s H T Q E C h=>?_
 ·obtain⟨q,wh,e,l,o,k⟩:=h;subst e
  refine⟨_,ah (aO (bh (r:=yL K F') dj (pv 0) (aV (v:= .ref aL) (by rfl) G.mL U) (by rfl))
    (ai (ar (gZ (cb ak (aM bz (by rfl) N.str On (aN (cy (pv 1) af))) (cb ak (cy (pv 1) af) (cb ak (cy (pv 1) af) hZ))) U U (by simp) bp))) aD)
   (ah (aO (jC (pv 0) ak) (ai (ar (gZ (cb ak (pq I C (bO (pv 1) ak)) hZ) U U (by simp) bp))) aD)
   (ah (aO (jC (pv 0) ak) (ai (ar (gZ (cb ak (aM bz (by rfl) N.str On (aN (cy (pv 1) af))) (cb ak (aM bz (by rfl) N.str On (aN (cy (pv 1) af))) (cb ak (cy (pv 1) af) hZ))) U U (by simp) bp))) aD)
   (ah (aO (jC (pv 0) ak) (ai (ar (gZ (cb ak (pq D C (aN (cy (pv 1) af))) (cb ak (aM bz (by rfl) N.str On (aN (cy (pv 1) af))) hZ)) U U (by simp) bp))) aD)
   (ah (aO (jC (pv 0) ak) (ai (ar (gZ (cb ak (pq D C (aN (cy (pv 1) af))) (cb ak (aM bz (by rfl) N.str On (aN (cy (pv 1) af))) hZ)) U U (by simp) bp))) aD)
   (ai (ar kg)))))),?_⟩
  have put:∀{p:B4},H p=Y->aa H (upd H p (.dK [])):=λd=>aa.put (aa.refl _) d;refine⟨_,U,aL,_,U,.inr (G.sL _),U,U,_,U,?_⟩
  cases wh with
  |lined n g al sd=>
   refine gm Iw λp d=>?_;have i:(upd H p (.dK [])) q=O (.tup [.int g,.str al,.str sd]):=put d _ _ l;refine⟨_,U,q,_,_,_,U,U,bq.of i,aG (j:=0) U,_,U,o.1,_,U,q,_,_,_,U,U,bq.of i,aG (j:=1) U,_,U,q,_,_,_,U,U,bq.of i,aG (j:=2) U,ag,(bP (.lined n g al sd)).map kS,U,(by show 3<=15;decide),?_⟩;rw[fe (ps:=bP (.lined n g al sd)) (show(["gap","align","side"]:L Z).Nodup by decide +kernel)];exact k p _ d (aa.put (put d) d) ag
  |leaf a b=>
   refine bT NS ⟨_,U,U,_,U,gm Ca λp d=>?_⟩;refine⟨_,U,q,_,",",U,put d _ _ l,(by show 2<=10;decide),me o.1 o.2,bf,λH2 t=>⟨t _ _ ag,(bP (.leaf a b)).map kS,by rw[ja];rfl,(by show 1<=15;decide),?_⟩⟩;rw[fe (ps:=bP (.leaf a b)) (show(["wish"]:L Z).Nodup by decide +kernel)];exact k p _ d (aa.put ((put d).trans t) d) ag
  |table c g sd y=>
   obtain⟨B,as,l,_⟩:=l;refine bT JO ⟨_,U,U,_,U,bT (hV tl) ⟨_,U,U,_,U,gm Ca λp d=>?_⟩⟩;have i:=put d _ _ l;refine⟨_,U,q,_,_,_,U,U,bq.of i,aG (j:=0) U,_,U,o.1,_,U,q,_,_,_,U,U,bq.of i,aG (j:=1) U,_,U,o.2.1,_,U,q,_,_,_,U,U,bq.of i,aG (j:=2) U,ag,(bP (.table c g sd y)).map kS,U,(by show 3<=15;decide),?_⟩;rw[fe (ps:=bP (.table c g sd y)) (show(["columns","gap","side"]:L Z).Nodup by decide +kernel)];exact k p _ d (aa.put (put d) d) ag
  |words ws j=>
   obtain⟨B,l,u⟩:=l;refine bT inWords ⟨_,U,U,_,U,bT (hV wl) ⟨_,U,U,_,U,bT (hV wt) ⟨_,U,U,_,U,gm Ca λp d=>?_⟩⟩⟩;have x:=put d;refine⟨_,U,q,_,_,_,U,U,bq.of (x _ _ l),aG (j:=0) U,B,ws,U,u.keep (KT.same x),o.1,λH2 t=>?_⟩;have m:=x.trans t;refine⟨_,U,q,_,_,_,U,U,bq.of (m _ _ l),aG (j:=1) U,_,U,o.2,t _ _ ag,(bP (.words ws j)).map kS,U,(by show 2<=15;decide),?_⟩;rw[fe (ps:=bP (.words ws j)) (show(["text","joint"]:L Z).Nodup by decide +kernel)];exact k p _ d (aa.put m d) ag
  |flow z ws j=>
   obtain⟨M,B,l,R,u⟩:=l;refine bT NA ⟨_,U,U,_,U,bT (hV fl) ⟨_,U,U,_,U,bT (hV ft) ⟨_,U,U,_,U,bT (hV fw) ⟨_,U,U,_,U,gm Ca λp d=>?_⟩⟩⟩⟩;have x:=put d;refine⟨_,U,q,_,_,_,U,U,bq.of (x _ _ l),aG (j:=1) U,B,ws,U,u.keep (KT.same x),o.2.1,λH2 t=>?_⟩;have m:=x.trans t;refine⟨_,U,q,_,_,_,U,U,bq.of (m _ _ l),aG (j:=2) U,_,U,o.2.2,t _ _ ag,(bP (.flow z ws j)).map kS,U,(by show 2<=15;decide),?_⟩;rw[fe (ps:=bP (.flow z ws j)) (show(["text","joint"]:L Z).Nodup by decide +kernel)];exact k p _ d (aa.put m d) ag
  |over ps=>
   refine bT NJ ⟨_,U,U,_,U,bT (hV ol) ⟨_,U,U,_,U,bT (hV ot) ⟨_,U,U,_,U,bT (hV ow) ⟨_,U,U,_,U,bT (hV QS) ?_⟩⟩⟩⟩;intro p d;exact k p _ d (put d) ag
def lE:ay ["elder","place","what","pair"] ["elder","place"] (aj kv):=dH
theorem yF(F:c_ K "part_told" "part_told" kv f fd)(C1:Cl P w K mg B' 1 nj "joined")(CK:Cl P w K mg B' 1 (gQ 0) "kind_of")(CW:Cl P w K mg B' 1 (gQ 3) "what_of"):aS P w K mg B' dz 2 f fd ["elder","place"] qa:=by
 refine F.fb lE λC' A U' s H vs Q E I h=>?_
 ·obtain⟨a,d,ts,i,e,⟨ao,q,ap,u,_,D,_⟩,M,G,hi,k⟩:=h;subst e
  refine⟨_,ah (pz 2 lE.nd (pq CW I (aN (pv 0))))
   (ah (aO (jC (pq CK I (aN (pv 0))) ak) (ai (ar (gZ (cb ak (pq C1 I (bO (cy (cy (pv 2) af) (pv 1)) ak)) hZ) U U (by simp) bp))) aD)
   (ah (aO (jC (pq CK I (aN (pv 0))) ak) (ai (ar (gZ (cb ak (cy (cy (pv 2) af) (pv 1)) hZ) U U (by simp) bp))) aD)
   (ah (aO (cn (jC (pq CK I (aN (pv 0))) ak) (bU (bh oK (pv 1) af (bB _)))).pt
    (ah (pz 3 lE.nd (cy (pv 2) (aE gv (pv 1) af)))
    (ai (ar (gZ (cb ak (pq C1 I (bO (aE BZ (cy (pv 3) af) (cy (pv 3) af)) ak)) hZ) U U (by simp) bp)))) aD)
   (ai (ar kg))))),?_⟩
  refine⟨_,U,a,_,_,U,u,U,_,U,a,_,_,U,u,U,U,_,U,?_⟩;have put:∀{p:B4},H p=Y->aa H (upd H p (.dK [])):=λl=>aa.put (aa.refl _) l
  cases e:d.wh with
  |lined n g al sd=>
   rw[e]at k;obtain⟨z1,z2,z3,_⟩:=Od (k:=n) (g:=g) (al:=al) (sd:=sd);exact bT (hV z1) ⟨_,U,a,_,_,U,u,U,U,_,U,bT (by rw[e];exact hV z2) ⟨_,U,a,_,_,U,u,U,U,_,U,bT (by rw[e];exact hV z3) (bW λp l=>k p _ l (put l) ag)⟩⟩
  |leaf x y=>
   rw[e]at k;exact bT (hV lt') ⟨_,U,a,_,_,U,u,U,U,_,U,bT (by rw[e];exact hV RE) ⟨_,U,a,_,_,U,u,U,U,_,U,bT (by rw[e];exact hV RQ) (bW λp l=>k p _ l (put l) ag)⟩⟩
  |words ws j=>
   rw[e]at k;exact bT (hV wt) ⟨_,U,a,_,_,U,u,U,U,_,U,bT (by rw[e];exact hV Rr) ⟨_,U,a,_,_,U,u,U,U,_,U,bT (by rw[e];exact hV RK) (bW λp l=>k p _ l (put l) ag)⟩⟩
  |table c g sd o=>
   rw[e]at k D M G;obtain⟨sp,as,R,hs,C⟩:=D
   have hl:as.length=o.length:=by rw[C.1,AC]
   have J:o.length=ts.length:=G;refine gm Ca λp l=>?_;have r:=put l
   have v:i<as.length:=by lia
   have m:i<o.length:=by lia
   have S:=C.2 i as[i] _ (B2 v) (by rw[B6,B2 m];rfl);obtain⟨g1,g2⟩:=M.2.2.2 _ (TQ m);refine⟨_,U,q,_,_,_,U,U,bq.of (r _ _ R),aG (j:=3) U,_,U,sp,_,_,_,U,U,bq.of (r _ _ hs),aG (j:=i) (by rw[B6,B2 v];rfl),as[i],_,",",U,r _ _ S,(by show 2<=10;decide),me g1 g2,bf,λH2 N=>⟨N _ _ ag,(bX (.table c g sd o) i).map kS,?_,(by show 1<=15;decide),?_⟩⟩
   ·rw[show Sr "," ((jv o[i]).map tS)=two "," o[i].1 o[i].2 from ja _ _ _];rw[rf (B2 m)];rfl
   ·rw[fe (ps:=bX (.table c g sd o) i) (show(["span"]:L Z).Nodup by decide +kernel)];exact k p _ l (aa.put (r.trans N) l) ag
  |flow B ws j=>
   rw[e]at k D M G;obtain⟨tp,sp,R,W,_⟩:=D;have J:B.length=ts.length:=G;refine bT (hV ft) ⟨_,U,a,_,_,U,u,U,U,_,U,gm (by rw[e];exact Ca) λp l=>?_⟩;have r:=put l
   have m:i<B.length:=by lia
   refine⟨_,U,q,_,_,_,U,U,bq.of (r _ _ R),aG (j:=0) U,_,U,tp,_,_,_,U,U,bq.of (r _ _ W),aG (j:=i) (by unfold dC;rw[B6,B2 m];rfl),ag,(bX (.flow B ws j) i).map kS,?_,(by show 1<=15;decide),?_⟩
   ·rw[uq (B2 m)];rfl
   ·rw[fe (ps:=bX (.flow B ws j) i) (show(["float"]:L Z).Nodup by decide +kernel)];exact k p _ l (aa.put r l) ag
  |over ps=>
   rw[e]at k D M G;obtain⟨as,R,hl,C⟩:=D;have J:ts.length<=ps.length+1:=G;refine bT (hV ot) ⟨_,U,a,_,_,U,u,U,U,_,U,bT (by rw[e];exact hV QS) ⟨_,U,a,_,_,U,u,U,U,_,U,gm (by rw[e];exact Ca) ⟨_,U,_,_,U,U,_,U,?_⟩⟩⟩
   cases i with
   |zero=>exact bT (GT bp) λp l=>k p _ l (put l) ag
   |succ i=>
    have m:i<ps.length:=by lia
    have v:i<as.length:=by lia
    obtain⟨b,c,x1,x2,x3⟩:=C i as[i] ps[i] (B2 v) (B2 m);obtain⟨g1,g2⟩:=M _ (TQ m);refine gm (FB aB) ⟨_,U,_,U,_,_,U,U,q,_,_,_,U,U,bq.of R,Hg (j:=i) aB (by rw[B6,B2 v];rfl),λp l=>?_⟩;have r:=put l;refine⟨_,U,as[i],_,_,_,U,U,bq.of (r _ _ x1),aG (j:=0) U,_,U,as[i],_,_,_,U,U,bq.of (r _ _ x1),aG (j:=1) U,b,c,_,_,U,U,bq.of (r _ _ x2),bq.of (r _ _ x3),by simp,(by show 4<=sizeLine;decide),λz=>KB z (by simp),λ_ t W=>?_⟩;have N:aa (upd H p (.dK [])) (upd (upd H p (.dK [])) t (.tup [.str ps[i].1.1,.int ps[i].1.2,.str ps[i].2.1,.int ps[i].2.2])):=aa.put (aa.refl _) W;refine⟨t,_,",",U,ag,(by show 4<=10;decide),?_,bf,λH3 s3=>⟨s3 _ _ (N _ _ ag),(bX (.over ps) (i+1)).map kS,?_,(by show 1<=15;decide),?_⟩⟩
    ·intro x hx
     have T:ps[i].1.1.length<=60:=by have :=g1.2.1;lia
     have X:ps[i].2.1.length<=60:=by have :=g2.2.1;lia
     rcases PP.mp hx with z|hx
     ·rw[z];exact T
     rcases PP.mp hx with z|hx
     ·rw[z];exact g1.2.2
     rcases PP.mp hx with z|hx
     ·rw[z];exact X
     ·rw[Dk.mp hx];exact g2.2.2
    ·rw[show Sr "," (List.map tS ([V.str ps[i].1.1,V.int ps[i].1.2]++[V.str ps[i].2.1,V.int ps[i].2.2]))=four ps[i]from EH _];rw[tP (B2 m)];rfl
    ·rw[fe (ps:=bX (.over ps) (i+1)) (show(["at"]:L Z).Nodup by decide +kernel)];exact k p _ l (aa.put (r.trans (N.trans s3)) l) ag
inductive Ax(vs:L V)(H:Hp)(Q:VK):Prop
 |mk (a p:B4) (d:dV) (ts:L B4) (eh:aX) (i:M') (c0:vs=[.ref a,.ref p]) (c1:Fo.lh H a d ts) (c2:d.wh.Good) (c3:d.own.Good) (c4:d.nm.length<=60) (c5:eh.Good) (c6:H p=O (.dK ((bX eh i).map kS))) (c7:∀H',aa H H'->Q (.str (Sr " " (fM d eh i))) H')
def tK:Sp:=λa H Q _=>Ax a H Q
def vi:cZ 0:=by show(0:M')<1000000000;decide
def Lw(p:Z×Z):Prop:=p.2.length<=60\/p.1="text"/\p.2.length<=4800
theorem Lw.le(h:Lw p):p.2.length<=4800:=by rcases h with z|z<;>lia
theorem ml{k:Z}(e:s.length<=2)(d:cZ a)(c:cZ b):Lw (k,two s a b):=by
 refine .inl ?_;show(two s a b).length<=60;unfold two;rw[FS,FS];have :=ir d;have :=ir c
 lia
theorem ur{k:Z}(h:cZ a):Lw (k,nS a):= .inl (by have :=ir h;show(nS a).length<=60;lia)
theorem xW{p:(Z×J')×(Z×J')}(b:mh p.1)(a:mh p.2){k:Z}:Lw (k,four p):=by
 refine .inl ?_;show(four p).length<=60;unfold four
 have e:(",":Z).length=1:=by decide +kernel
 simp only[FS,e];have :=ir b.2.2;have :=ir a.2.2;have :=b.2.1;have :=a.2.1
 lia
def all_cons{r:L (Z×Z)}(h:C q)(t:∀p∈r,C p):∀p∈q::r,C p:=λp a=>by
 rcases PP.mp a with z|z
 ·rw[z];exact h
 ·exact t p z
def all_nil:∀p∈([]:L (Z×Z)),C p:=λp a=>nomatch a
theorem pX{o:Own}(D:o.Good)(d:wh.Good)(m:eh.Good):∀p∈dD o++(bP wh++bX eh i),Lw p:=by
 obtain⟨g1,g2,g3,x,y,v,u,w⟩:=D
 have s:("..":Z).length<=2:=by decide +kernel
 have n:(",":Z).length<=2:=by decide +kernel
 have A:∀p∈dD o,Lw p:=all_cons (ml s g1 g2) (all_cons (ml s g3 x) (all_cons (ur y) (all_cons (ur v) (all_cons (ur u) (all_cons (ur w) all_nil)))))
 have B:∀p∈bP wh,Lw p:=by
  cases wh with
  |leaf a b=>exact all_cons (ml n d.1 d.2) all_nil
  |lined k g al sd=>exact all_cons (ur d.1) (all_cons (.inl (by have :=d.2.1;show al.length<=60;lia)) (all_cons (.inl (by have :=d.2.2;show sd.length<=60;lia)) all_nil))
  |table c g sd f=>exact all_cons (ur d.1) (all_cons (ur d.2.1) (all_cons (.inl (by have :=d.2.2.1;show sd.length<=60;lia)) all_nil))
  |words ws j=>exact all_cons (.inr ⟨U,kL d.1⟩) (all_cons (ur d.2) all_nil)
  |flow h ws j=>exact all_cons (.inr ⟨U,kL d.2.1⟩) (all_cons (ur d.2.2) all_nil)
  |over ps=>exact all_nil
 have C:∀p∈bX eh i,Lw p:=by
  cases eh with
  |leaf a b=>exact all_nil
  |lined k g al sd=>exact all_nil
  |words ws j=>exact all_nil
  |table c g sd f=>
   refine all_cons ?_ all_nil;show Lw (_,two "," (f.getD i (1,1)).1 (f.getD i (1,1)).2);rw[Sk]
   cases e:f[i]? with
   |none=>exact ml n (by show(1:M')<1000000000;decide) (by show(1:M')<1000000000;decide)
   |some q=>
    obtain⟨r,l⟩:=m.2.2.2 q (Do e);exact ml n r l
  |flow h ws j=>
   refine all_cons ?_ all_nil;refine .inl ?_;show(h.getD i "left").length<=60;rw[Sk]
   cases e:h[i]? with
   |none=>show("left":Z).length<=60;decide +kernel
   |some q=>
    show q.length<=60
    rcases m.1 q (Do e)with z|z<;>rw[z]<;>decide +kernel
  |over ps=>
   cases i with
   |zero=>exact all_nil
   |succ i=>
    refine all_cons ?_ all_nil;show Lw (_,four (ps.getD i (("",0),("",0))));rw[Sk]
    cases e:ps[i]? with
    |none=>exact xW ⟨bf,bf,vi⟩ ⟨bf,bf,vi⟩
    |some q=>
     obtain⟨r,l⟩:=m q (Do e);exact xW r l
 intro p t
 rcases Os.mp t with z|z
 ·exact A p z
 ·rcases Os.mp z with z|z
  ·exact B p z
  ·exact C p z
def F5{t:Z}(h:lk ps x=O t):∃p∈ps,p.2=t:=by
 unfold lk at h;obtain⟨p,a,e⟩:=Sn.mp h;exact⟨p,UX a,e⟩
def Ej(ps:L (Z×Z))(p:Z×Z):(pick ps p).length<=1:=by unfold pick;exact oX
theorem rh(ps:L (Z×Z)):∀l:L (Z×Z),(l.flatMap (pick ps)).length<=l.length
 |[]=>B9 _
 |p::l=>by
  rw[Tz,B3,Da];have :=Ej ps p;have :=rh ps l
  lia
def lJ:∀p∈bo,p.1.length<=10:=by decide +kernel
theorem Jj(h:∀p∈ps,Lw p)(d:q.1.length<=10):LB 5000 (pick ps q):=by
 unfold pick
 cases e:lk ps q.1 with
 |none=>exactλx a=>by rw[show((Y:O' Z).getD q.2)=q.2 from U,KF U]at a;cases a
 |some t=>
  obtain⟨p,b,rfl⟩:=F5 e;refine LB.ite ?_;have :=(h p b).le
  have c:("=":Z).length=1:=by decide +kernel
  rw[FS,FS,c];show q.1.length+1+p.2.length<=5000
  lia
theorem AY(h:∀p∈ps,Lw p):∀(l:L (Z×Z)),(∀p∈l,p.1.length<=10)->LB 5000 (l.flatMap (pick ps))
 |[],_=>LB.nil
 |p::l,a=>by
  rw[Tz];exact LB.app (Jj h (a p De)) (AY h l λq b=>a q (Fk _ b))
def Eg(o:Own)(wh eh:aX)(i:M'):((dD o++bP wh++bX eh i).map (·.1)).Nodup:=by
 have h:∀a∈([["wish"],["gap","align","side"],["columns","gap","side"],["text","joint"],[]]:L (L Z)),∀b∈([["span"],["float"],["at"],[]]:L (L Z)),((["wide","high","grow","shrink","rank","alike"]:L Z)++a++b).Nodup:=by decide +kernel
 rw[KM,KM];refine h _ ?_ _ ?_
 ·cases wh<;>simp[bP]
 ·unfold bX
  split<;>simp
def pL(b:d.wh.Good)(a:eh.Good):fM d eh i=d.wh.kd::d.nm::bo.flatMap (pick (dD d.own++(bP d.wh++bX eh i))):=by
 unfold fM;rw[N7 d.own b a]
theorem my(b:d.wh.Good)(c:d.own.Good)(f:d.nm.length<=60)(a:eh.Good):LB 5000 (fM d eh i)/\(fM d eh i).length<=18:=by
 rw[pL b a];constructor
 ·intro x hx
  rcases PP.mp hx with z|hx
  ·rw[z];have :=kd_len d.wh;lia
  rcases PP.mp hx with z|hx
  ·rw[z];lia
  ·exact AY (pX c b a) _ lJ x hx
 ·have :=rh (dD d.own++(bP d.wh++bX eh i)) bo;rw[Da,Da];have e:bo.length=16:=U
  lia
def i_:ay ["box","as_part","told","words","word","plain"] ["box","as_part"] (aj kj):=dH
theorem yO(F:c_ K "row_text" "row_text" kj f fd)(G:NW P w K mg aL aP)(C1:Cl P w K mg B' 2 tJ "own_told")(C2:Cl P w K mg B' 2 rH "what_told")(CK:Cl P w K mg B' 1 (gQ 0) "kind_of")(CN:Cl P w K mg B' 1 (gQ 1) "name_of")(CO:Cl P w K mg B' 1 (gQ 2) "own_of")(CW:Cl P w K mg B' 1 (gQ 3) "what_of"):aS P w K mg B' dz 3 f fd ["box","as_part"] tK:=by
 refine F.fb i_ λC' A U' s H vs Q E B h=>?_
 ·obtain⟨a,p,d,ts,eh,i,e,⟨ao,q,ap,ha,b7,hw,_⟩,hg,D,b5,R,X,k⟩:=h;subst e
  have hu:(A.deeper (SY "row_text" (aj kj) s.heap.objs.size f C')).units+1<Uy:=by have :=B.units;lia
  refine⟨_,ah (pz 2 i_.nd (pq C1 B (aN (pq CO B (aN (pv 0))))))
   (ah (cK (bY UE WK Zx qH (pv 2) (aN (pq C2 B (bO (pq CK B (aN (pv 0))) (pq CW B (aN (pv 0))))))))
   (ah (cK (bY UE WK Zx qH (pv 2) (aN (pv 1))))
   (ah (pz 3 i_.nd (bt (bO (pq CK B (aN (pv 0))) (pq CN B (aN (pv 0))))))
   (ah (dq SU U (EC G.dP (aV (v:= .ref aP) (by rfl) G.mP U)) (kl U (cj (aZ (i:=4) i_.nd U (Te U)) (cj (aZ (i:=5) i_.nd U (Te U)) iF)))
    (ai (aO (HU (F4 hu (pv 2) (pv 4) (pv 5) ⟨U,U,U,U⟩) (pv 5))
     (ai (cK (bY SH SK SJ cC (pv 3) (aN (aE aJ (aE aJ (pv 4) ak) (cX hu (pv 2) (pv 4) (λ_ _=>U))))))) aD)))
   (ai (ar (bY Pi S_ S1 fH ak (aN (pv 3))))))))),?_⟩
  refine aq λN1 a4=>?_;refine⟨_,U,a,_,_,U,ha,U,ao,d.own,U,b7,D,λg H1 N s1 h1=>a4 _ _ ?_⟩;clear a4 N1;refine aq λN2 b0=>?_;have S:=s1 _ _ ha;refine⟨_,U,.inr (.inr (.inl ⟨U,.inl ⟨_,h1⟩⟩)),_,U,a,_,_,U,S,U,_,U,a,_,_,U,S,U,q,d.wh,U,hw.keep (KT.same s1),hg,λdw H2 a7 s2 h2=>?_⟩
  have b1:g≠dw:=λz=>by rw[<-z,h1]at a7;cases a7
  refine⟨g,dw,_,_,U,U,b1,s2 _ _ h1,.inl h2,?_,b0 _ _ ?_⟩
  ·rw[AC,AC]
   have :(bP d.wh).length<=3:=by cases d.wh<;>simp[bP]
   show 6+_<=sizeLine;rw[U6];lia
  clear b0 N2;have y:=Eg d.own d.wh eh i
  have W:((dD d.own++bP d.wh).map (·.1)).Nodup:=by
   rw[KM]at y;exact(V4.mp y).1
  rw[tU W];have M:=s1.trans s2
  have a8:p≠g:=λz=>by rw[z,N]at X;cases X
  have a2:∀b o,b≠g->H2 b=O o->(upd H2 g (.dK ((dD d.own++bP d.wh).map kS))) b=O o:=λb o hb e=>by rw[ax hb];exact e
  have h3:(upd H2 g (.dK ((dD d.own++bP d.wh).map kS))) g=O (.dK ((dD d.own++bP d.wh).map kS)):=ag;have a9:=a2 _ _ a8 (M _ _ X);have S3:aa H (upd H2 g (.dK ((dD d.own++bP d.wh).map kS))):=aa.put M N;generalize upd H2 g (.dK ((dD d.own++bP d.wh).map kS))=H3 at *;refine aq λN3 a1=>?_;refine⟨_,U,.inr (.inr (.inl ⟨U,.inl ⟨_,h3⟩⟩)),_,U,g,p,_,_,U,U,SZ a8,h3,.inl a9,?_,a1 _ _ ?_⟩
  ·rw[AC,AC,B3]
   have :(bP d.wh).length<=3:=by cases d.wh<;>simp[bP]
   have :(bX eh i).length<=1:=by unfold bX;split<;>simp
   show 6+_+_<=sizeLine;rw[U6];lia
  clear a1 N3;rw[tU y,Sx];have h4:(upd H3 g (.dK ((dD d.own++(bP d.wh++bX eh i)).map kS))) g=O (.dK ((dD d.own++(bP d.wh++bX eh i)).map kS)):=ag;have S4:aa H (upd H3 g (.dK ((dD d.own++(bP d.wh++bX eh i)).map kS))):=aa.put S3 N;have tl:=λp X=>(pX (i:=i) D hg R p X).le;have b6:=pL (i:=i) hg R;generalize dD d.own++(bP d.wh++bX eh i)=ps at *;generalize upd H3 g (.dK (ps.map kS))=H4 at *;clear h3 a9 a2 S3 M h2 h1 S s1 s2 b1 W y;refine aq λN4 a5=>?_;refine⟨_,U,a,_,_,U,S4 _ _ ha,U,_,U,a,_,_,U,S4 _ _ ha,U,(by show 2<=sizeLine;decide),λl hl=>a5 _ _ ?_⟩;clear a5 N4;have h5:(upd H4 l (.lst [.str d.wh.kd,.str d.nm])) l=O (.lst ((d.wh.kd::d.nm::(bo.take 0).flatMap (pick ps)).map V.str)):=ag
  have nl:g≠l:=λz=>by rw[<-z,h4]at hl;cases hl
  have d5:(upd H4 l (.lst [.str d.wh.kd,.str d.nm])) g=O (.dK (ps.map kS)):=(ax nl).trans h4;have S5:aa H (upd H4 l (.lst [.str d.wh.kd,.str d.nm])):=aa.put S4 (S4.free hl);have b4:H l=Y:=S4.free hl;generalize upd H4 l (.lst [.str d.wh.kd,.str d.nm])=H5 at *;refine aq λN5 b9=>?_;refine⟨U,zY (K':=bo.map kS) (λj σ u=>∃u4 u5,σ=[O (.ref a),O (.ref p),O (.ref g),O (.ref l),u4,u5]/\aa H u/\u g=O (.dK (ps.map kS))/\u l=O (.lst ((d.wh.kd::d.nm::(bo.take j).flatMap (pick ps)).map V.str))) ⟨_,_,U,S5,d5,h5⟩ ?_ ?_⟩
  ·rintro j kk v t σ u hj ht ⟨u4,u5,rfl,S9,d9,h9⟩;rw[B6]at hj;obtain⟨wp,a3,e0⟩:=Sn.mp hj;obtain⟨wd,r⟩:=wp;have e1:(Tt wd:Key)=kk:=Tb X8 e0;have e2:V.str r=v:=Tb Y2 e0;subst e1 e2;have a0:=Do a3;have c2:wd.length<=10:=lJ _ a0;have b8:(upd u t (.tup [kV (Tt wd),V.str r])) t=O (.tup [V.str wd,V.str r]):=ag;have C:aa u (upd u t (.tup [kV (Tt wd),V.str r])):=aa.put (aa.refl _) ht;have m:=C _ _ d9;have x:=C _ _ h9;have I:=S9.trans C;generalize upd u t (.tup [kV (Tt wd),V.str r])=c1 at *
   have J:(bo.take (j+1)).flatMap (pick ps)=(bo.take j).flatMap (pick ps)++pick ps (wd,r):=by rw[UA,a3,U4];simp
   have a6:du (ps.map kS) (Tt wd:Key)=(lk ps wd).map V.str:=zG ps wd;have T:=iP.k (k:=Tt wd) m;rw[a6]at T
   have c0:((bo.take j).flatMap (pick ps)).length<=16:=by
    have :=rh ps (bo.take j);rw[TJ]at this;have e:bo.length=16:=U
    lia
   refine⟨t,_,U,bq.of b8,U,_,_,U,_,_,U,U,?_⟩
   cases n:lk ps wd with
   |none=>
    rw[n]at T;refine⟨_,U,g,U,.inl ⟨_,.inl m⟩,_,U,_,U,_,T,_,U,U,_,U,?_⟩
    show if(!decide (V.str r=V.str r))=T' then _ else _
    rw[Ca];refine bW ?_;refine⟨_,_,U,I,m,?_⟩;rw[J,aK n,Ni];exact x
   |some tx=>
    rw[n]at T;obtain⟨q0,b3,b2⟩:=F5 n
    have c3:tx.length<=4800:=by rw[<-b2];exact tl q0 b3
    refine⟨_,U,g,U,.inl ⟨_,.inl m⟩,_,U,_,U,_,T,_,U,U,_,U,?_⟩
    show if(!decide (V.str tx=V.str r))=T' then _ else _
    by_cases c:tx=r
    ·rw[FB (by rw[c])];refine bW ⟨_,_,U,I,m,?_⟩;rw[J,bA n,KF c,Ni];exact x
    ·rw[hV c]
     have e1:("=":Z).length=1:=by decide +kernel
     refine dJ ⟨_,U,.inl ⟨U,_,bu.of x⟩,_,U,_,_,U,U,az (by rw[e1];lia),_,U,_,U,g,_,U,T,_,_,U,U,az (by rw[FS,e1];lia),l,_,_,U,U,x,small (by rw[AC,Da,Da];lia),?_⟩;refine⟨_,_,U,aa.put I b4,(ax nl).trans m,?_⟩;rw[ag,J,bA n,GM c,<-Uc,<-Uc,KM (l₂:=[_])];rfl
  ·rintro σ u ⟨u4,u5,rfl,S9,d9,h9⟩;rw[AC,UO,<-b6]at h9;refine b9 _ _ ?_;obtain⟨r1,r2⟩:=my (i:=i) hg D b5 R;refine⟨U,_,U," ",l,fM d eh i,U,U,bu.of h9,?_,k u S9⟩;have :=ig (fM d eh i) r1
   have e:(" ":Z).length=1:=by decide +kernel
   rw[e]
   lia
def eQ:aX:= .leaf 0 0
def kQ:eQ.Good:=⟨vi,vi⟩
inductive ym(m:M')(vs:L V)(H:Hp)(Q:VK):Prop
 |mk (a p:B4) (d:dV) (cs:Fo) (n:M') (eh:aX) (i:M') (c0:vs=[.ref a,.int (n:J'),.ref p]) (c1:(Fo.cons a d cs .nil).Ok H) (c2:(Fo.cons a d cs .nil).Good) (c3:cs.fq<m) (c4:cs.cnt<=100) (c5:n+m<=100) (c6:eh.Good) (c7:H p=O (.dK ((bX eh i).map kS))) (c8:∀(l:B4)(H':Hp),H l=Y->aa H H'->H' l=O (.lst ((bR d n eh i::a_ cs (n+1) d.wh 0).map V.str))->Q (.ref l) H')
def rq(m:M'):Sp:=λa H Q _=>ym m a H Q
inductive wA(vs:L V)(H:Hp)(Q:VK):Prop
 |mk (a:B4) (d:dV) (cs:Fo) (c0:vs=[.ref a]) (c1:(Fo.cons a d cs .nil).Ok H) (c2:(Fo.cons a d cs .nil).Good) (c3:cs.fq<12) (c4:cs.cnt<=60) (c5:∀H',aa H H'->Q (.str (Sr "\n" (bR d 0 eQ 0::a_ cs 1 d.wh 0))) H')
def jo:Sp:=λa H Q _=>wA a H Q
theorem qj(l:n<=200)(j:d.wh.Good)(g:d.own.Good)(a:d.nm.length<=60)(c:eh.Good):(bR d n eh i).length<=95000:=by
 unfold bR;obtain⟨b,h⟩:=my (i:=i) j g a c;have k:=fu " " (fM d eh i) b
 have e:(" ":Z).length=1:=by decide +kernel
 have f:("  ":Z).length=2:=by decide +kernel
 rw[e]at k;rw[FS,jM,f];have :(fM d eh i).length*5001<=18*5001:=Uk _ h
 lia
theorem qY:∀(F:Fo)(n:M')(eh:aX)(i:M'),F.Good->eh.Good->n+F.fq<=200->LB 95000 (a_ F n eh i)
 | .nil,_,_,_,_,_,_=>LB.nil
 | .cons a d b as,n,eh,i,⟨⟨f,h,g,_⟩,k,j⟩,c,l=>by
  have m:n+max (b.fq+1) as.fq<=200:=l;have e:a_ (.cons a d b as) n eh i=[bR d n eh i]++(a_ b (n+1) d.wh 0++a_ as n eh (i+1)):=U;rw[e];exact LB.app (LB.one (qj aB f h g c)) (LB.app (qY b (n+1) d.wh 0 k f aB) (qY as n eh (i+1) j c aB))
def iu:ay ["box","depth","as_part","rows","place","part"] ["box","depth","as_part"] (aj kx):=dH
def iC:("  ":Z).length=2:=by decide +kernel
theorem yC(F:c_ K "text_rows" "text_rows" kx f fd)(N:aQ mg)(G:NW P w K mg aL aP)(C1:Cl P w K mg B' 3 tK "row_text")(C2:Cl P w K mg B' 2 qa "part_told")(C3:Cl P w K mg B' 1 (gQ 4) "parts_of")(JF:Cq K mg fd f ["box","depth","as_part"] "text_rows"):∀m:M',aS P w K mg B' dz (m+4) f fd ["box","depth","as_part"] (rq m):=by
 obtain⟨tI,mI⟩:=G.mI;intro m
 induction m with
 |zero=>
  refine F.ok iu (λvs H Q E h=>?_) (λC' A U' s H vs Q E hr h=>?_)
  ·obtain⟨a,p,d,y,n,eh,i,e,_⟩:=h;rw[e];rfl
  ·obtain⟨a,p,d,y,n,eh,i,e,_,_,hh,_⟩:=h;exact KB hh (U0 _)
 |succ m ih=>
  refine F.ok iu (λvs H Q E h=>?_) (λC' A U' s H vs Q E hr h=>?_)
  ·obtain⟨a,p,d,y,n,eh,i,e,_⟩:=h;rw[e];rfl
  ·obtain⟨a,p,d,y,n,eh,i,e,⟨u,b1,_⟩,⟨⟨g1,g2,g3,g4⟩,gc,_⟩,hh,hc,hn,a5,hp,k⟩:=h;subst e
   refine⟨_,ah (pz 3 iu.nd (bt (aN (aE aJ (aE Ba (aV (v:= .str "  ") (by rfl) mI ⟨tI,U⟩) (pv 1)) (pq C1 hr (bO (pv 0) (pv 2)))))))
    (ah (dq SU U (HZ (by rfl) N.enum (aN (pq C3 hr (aN (pv 0))))) (kl U (cj (aZ (i:=4) iu.nd U (Te U)) (cj (aZ (i:=5) iu.nd U (Te U)) iF)))
     (ai (cK (bY SH PySem.F.slot_list_extend PySem.F.type_list_extend Dj (pv 3) (aN (pq (eR ih JF) hr (gh (pv 5) (aE bS (pv 1) af) (pq C2 hr (bO (pv 0) (pv 4))))))))))
    (ai (ar (pv 3)))),?_⟩
   obtain⟨ao,q,ap,ha,b9,hw,a3⟩:=id u;refine aq λN1 a2=>?_;refine⟨_,U,"  ",n,U,U,aB,by rw[iC];decide,by rw[iC];decide,_,U,_,U,a,p,d,y.bD,eh,i,U,u,g1,g2,g3,a5,hp,λH1 s1=>?_⟩;have rl:=my (i:=i) g1 g2 g3 a5;have rg:=fu " " (fM d eh i) rl.1
   have e1:(" ":Z).length=1:=by decide +kernel
   rw[e1]at rg;have c0:(fM d eh i).length*5001<=18*5001:=Uk _ rl.2;refine⟨_,_,U,U,az (by rw[jM,iC];lia),(by show 1<=sizeLine;decide),λl hl=>a2 _ _ ?_⟩;clear a2 N1;have I:H l=Y:=s1.free hl;have s2:aa H (upd H1 l (.lst [.str (oo "  " n++Sr " " (fM d eh i))])):=aa.put s1 I;have h2:(upd H1 l (.lst [.str (oo "  " n++Sr " " (fM d eh i))])) l=O (.lst ((bR d n eh i::a_ .nil (n+1) d.wh 0).map V.str)):=ag;generalize upd H1 l (.lst [.str (oo "  " n++Sr " " (fM d eh i))])=H2 at *;refine aq λN2 b2=>?_;refine⟨_,U,a,_,_,U,s2 _ _ ha,U,ap,U,⟨_,bq.of (s2 _ _ a3)⟩,?_⟩
   refine HP (Sq:=λH xs=>bq K H ap xs) (k:=0) (xs:=y.bD.map V.ref) (λj σ B=>∃(g S:Fo)(u4 u5:O' V),σ=[O (.ref a),O (.int (n:J')),O (.ref p),O (.ref l),u4,u5]/\y=g.app S/\g.bD.length=j/\aa H B/\B l=O (.lst ((bR d n eh i::a_ g (n+1) d.wh 0).map V.str)))
    ⟨.nil,y,Y,Y,U,U,U,s2,h2⟩ (λj σ B _ ⟨_,_,_,_,_,_,_,z,_⟩=>bq.of (z _ _ a3)) ?_ ?_
   ·rintro j x t σ B hx ht ⟨g,S,u4,u5,rfl,b,X,S9,h9⟩;rw[B6,b,Fo.dm,Re aB,X,Yb]at hx
    cases S with
    |nil=>cases hx
    |cons c C D as=>
     have ex:V.ref c=x:=SV hx;subst ex;have a9:(upd B t (.tup [.int (0+(j:J')),.ref c])) t=O (.tup [.int (0+(j:J')),.ref c]):=ag;have a0:aa B (upd B t (.tup [.int (0+(j:J')),.ref c])):=aa.put (aa.refl _) ht;have J:=a0 _ _ h9;have M:=S9.trans a0;generalize upd B t (.tup [.int (0+(j:J')),.ref c])=b5 at *;have r:=b1.keep (KT.same M);have W:=gc;have R:=hc;have T:=hh;rw[b]at r W R T;rw[Fo.uH]at r;rw[Fo.mQ]at W;rw[Fo.pF]at R;rw[Fo.mf]at T;obtain⟨-,bc,b4,-⟩:=r;obtain⟨-,gd,a8,-⟩:=W;have c4:g.cnt+(D.cnt+as.cnt+1)<=100:=R;have c1:max g.fq (max (D.fq+1) as.fq)<m+1:=T
     have a7:j<y.bD.length:=by
      rw[b,Fo.dm,B3,X];show j<j+(as.bD.length+1)
      lia
     refine⟨t,_,U,bq.of a9,U,_,_,U,_,_,U,U,?_⟩;refine⟨_,U,.inl ⟨U,_,bu.of J⟩,_,U,_,U,_,_,U,U,_,U,_,U,?_⟩;refine⟨a,d,y.bD,j,by rw[show(0:J')+(j:J')=(j:J')from Z7 _];rfl,u.keep (KT.same M),g1,g4,a7,λpp c2 b8 o a6=>?_⟩;have b0:=M.trans o;refine⟨c,pp,C,D,n+1,d.wh,j,U,⟨bc.keep (KT.same o),b4.keep (KT.same o),trivial⟩,⟨gd,a8,trivial⟩,aB,aB,aB,g1,a6,λlr b6 a1 a4 b3=>?_⟩
     have n1:l≠lr:=λz=>by rw[<-z,o _ _ J]at a1;cases a1
     have c3:=fW 0 eQ g (n+1) d.wh 0;have b7:=fW 0 eQ D (n+1+1) C.wh 0;refine⟨l,lr,_,_,U,U,(o.trans a4) _ _ J,b3,az (by rw[AC,AC,Da,Da];lia),?_⟩;refine⟨g.app (.cons c C D .nil),as,_,_,U,by rw[b,Fo.pQ];rfl,by rw[Fo.dm,B3,X];rfl,aa.put (b0.trans a4) I,?_⟩;rw[ag,nO,<-KM];rw[X,X_];show O (HO.lst (((bR d n eh i::a_ g (n+1) d.wh 0)++(bR C (n+1) d.wh j::a_ D (n+1+1) C.wh 0)).map V.str))=O (HO.lst ((bR d n eh i::(a_ g (n+1) d.wh 0++(bR C (n+1) d.wh j::(a_ D (n+1+1) C.wh 0++[])))).map V.str));rw[Ni];rfl
   ·rintro σ B ⟨g,S,u4,u5,rfl,b,X,S9,h9⟩;refine b2 _ _ ?_
    have e2:S= .nil:=by
     have e:=Tb (λF=>F.bD.length) b;have e':y.bD.length=(g.app S).bD.length:=e;rw[Fo.dm,B3,X,AC]at e'
     cases S with
     |nil=>rfl
     |cons c C D as=>
      have :(Fo.cons c C D as).bD.length=as.bD.length+1:=U
      lia
    subst e2;rw[Fo.pI]at b;subst b;exact⟨_,U,k l B I S9 h9⟩
def zy:ay ["tree"] ["tree"] (aj kD):=dH
theorem xQ(F:c_ K "tree_text" "tree_text" kD f fd)(r:Cl P w K mg B' 16 (rq 12) "text_rows"):aS P w K mg B' dz 17 f fd ["tree"] jo:=by
 refine F.fb zy λC A z s H D Q E x h=>?_
 ·obtain⟨a,d,b,e,c,j,v,B,k⟩:=h;subst e;refine⟨_,ai (ar (bY Pi S_ S1 fH ak (aN (pq r x (gh (pv 0) af kg))))),?_⟩;refine⟨U,_,U,λp m=>?_⟩;have i:aa H (upd H p (.dK [])):=aa.put (aa.refl _) m;have t:(upd H p (.dK [])) p=O (.dK ((bX eQ 0).map kS)):=ag;generalize upd H p (.dK [])=H1 at *;refine⟨a,p,d,b,0,eQ,0,U,c.keep (KT.same i),j,v,aB,bp,kQ,t,λl H2 G u o=>?_⟩;refine⟨"\n",l,_,U,U,bu.of o,?_,k H2 (i.trans u)⟩
  have e:("\n":Z).length=1:=by decide +kernel
  obtain⟨⟨g1,g2,g3,_⟩,q,_⟩:=j;have y:LB 95000 (bR d 0 eQ 0::a_ b (0+1) d.wh 0):=LB.app (a:=[bR d 0 eQ 0]) (LB.one (qj bp g1 g2 g3 kQ)) (qY b 1 d.wh 0 q g1 aB);have n:=ig _ y;have g:=fW 0 eQ b (0+1) d.wh 0;rw[Da,g]at n;rw[e,Da,g];have :(b.cnt+1)*95000<=61*95000:=Uk _ aB
  lia
def same_none{b:B4}(s:aa H H')(h:H' b=Y):H b=Y:=by
 cases e:H b with
 |none=>rfl
 |some o=>rw[s b o e]at h;cases h
section
variable{X:Cx}
def Pr(_ j:J'):Prop:=0<j/\j.natAbs.log2<9000
theorem Iu:je X (binaryOp .FloorDiv) (rI Pr λi j=> .int (i/j)):=OL λi j _ _ _ _ _ a q=>by
 have b:(0:J')<j:=a.1;exact PyProof.Rows.floordiv_int aB (by rw[Y7 i aB];exact q) (.inl (PyProof.noPylong_of_log2 a.2))
end
def Kp(st:B4)(H H':Hp):Prop:=∀b o,b≠st->H b=O o->H' b=O o
def Kp.refl(H:Hp):Kp st H H:=λ_ _ _ h=>h
def Kp.trans(a:Kp st H H1)(b:Kp st H1 H2):Kp st H H2:=λc o n h=>b c o n (a c o n h)
def Kp.store:Kp st H (upd H st o):=λb a n h=>by rw[ax n];exact h
def Kp.put{D:B4}(k:Kp st H H')(h:H D=Y):Kp st H (upd H' D o):=λb c n a=>by
 rw[ax (λz=>by rw[z,h]at a;cases a)];exact k b c n a
def Kp.gone{D:B4}(k:Kp st H H')(n:D≠st)(h:H' D=Y):H D=Y:=by
 cases e:H D with
 |none=>rfl
 |some o=>rw[k D o n e]at h;cases h
def int_at{a:L J'}{x:V}(h:(a.map V.int)[i]? =O x):∃c,a[i]? =O c/\x= .int c:=by
 rw[B6]at h
 cases e:a[i]? with
 |none=>rw[e]at h;cases h
 |some c=>rw[e]at h;cases h;exact⟨c,U,U⟩
theorem Gy(a:L J')(b d:O' J'):∃c:L J',mE (a.map V.int) b d=c.map V.int/\c.length<=a.length:=by
 refine⟨(a.drop (HT.sZ (a.map V.int).length 0 b)).take (HT.sZ (a.map V.int).length (a.map V.int).length d-HT.sZ (a.map V.int).length 0 b),?_,?_⟩
 ·unfold mE;rw[List.map_take,Zz]
 ·rw[TJ,Ta]
  lia
def RX{a:L J'}{j:M'}(h:j<a.length):oE (a.map V.int) ((j:M'):J')=O (.int (a.getD j 0)):=aG (by rw[B6,Sk,B2 h];rfl)
inductive Ep(K:B0)(vs:L V)(H:Hp)(Q:VK):Prop
 |mk (a:B4) (ns:L J') (c0:vs=[.ref a]) (c1:bu K H a (ns.map V.int)) (c2:ns.length<=63) (c3:∀(l:B4)(d z:J')(H':Hp),H l=Y->aa H H'->H' l=O (.lst [.int d,.int z])->Q (.ref l) H')
def xa(K:B0):Sp:=λa H Q _=>Ep K a H Q
inductive JC(vs:L V)(H:Hp)(Q:VK):Prop
 |mk (st:B4) (d z m:J') (c0:vs=[.ref st,.int m]) (c1:H st=O (.lst [.int d,.int z])) (c2:0<m) (c3:m<1073741824) (c4:∀v d' z':J',0<=v->v<m->Q (.int v) (upd H st (.lst [.int d',.int z'])))
def fo:Sp:=λa H Q _=>JC a H Q
def iY:ay ["_law_script","_law_seed","_law_cell","_law_digits"] Zk (aj A6):=dH
theorem CL(F:c_ K "_law_stream" "_law_stream" A6 f fd)(N:aQ mg):aS P w K mg B' dz 1 f fd Zk (xa K):=by
 refine F.fb iY λJ A G s H M Q E S h=>?_
 ·obtain⟨a,u,e,y,I,k⟩:=h;subst e
  refine⟨_,ah (pz 1 iY.nd af)
   (ah (dq SU U (ff (dn gq (pv 0) eH (eu af))) (aZ (i:=2) iY.nd U (Te U))
    (ai (pz 1 iY.nd (aE jB (aE bS (aE qK (pv 1) af) (pv 2)) af))))
   (ah (pz 3 iY.nd af)
   (ah (aO (cn (bh oK (aI bM (by rfl) N.len Tc (aN (pv 0))) af (bB _)) (bU (jC (aE jB (ny (pv 0) af) af) af))).pt
    (ai (pz 3 iY.nd (aI Fm (by rfl) N.abs PyProof.Rows.boot_abs (aN (ny (pv 0) af))))) aD)
   (ai (ar (bt (bO (pv 3) (pv 1)))))))),?_⟩
  refine⟨_,U,_,U,a,_,U,y,λo t=>?_⟩;obtain⟨p,C,R⟩:=Gy u Y (O 63);rw[C];have q:aa H (upd H o (.lst (p.map V.int))):=aa.put (aa.refl _) t;have v:(upd H o (.lst (p.map V.int))) o=O (.lst (p.map V.int)):=ag;generalize upd H o (.lst (p.map V.int))=H1 at *;have g:=q.seq y;refine⟨o,U,⟨_,bu.of v⟩,mV (K:=K) (a:=o) (xs:=p.map V.int) (λi σ n=>(∃(z:J')(r:O' V),σ=[O (.ref a),O (.int z),r,Y])/\n=H1) ⟨⟨_,Y,U⟩,U⟩ (λi σ n _ B=>by rw[B.2];exact bu.of v) ?_ ?_⟩
  ·rintro i x σ n D ⟨⟨z,r,rfl⟩,rfl⟩;obtain⟨c,_,rfl⟩:=int_at D;exact⟨_,U,_,_,U,U,.inr ⟨bp,bp⟩,_,U,_,_,U,U,_,_,U,U,(by show(0:J')<2305843009213693951;decide),⟨_,_,U⟩,U⟩
  ·rintro σ n ⟨⟨z,r,rfl⟩,rfl⟩;have m:∀(d:J')(l:B4),n l=Y->Q (.ref l) (upd n l (.lst [.int d,.int z])):=λd l b=>k l d z _ (same_none q b) (aa.put q (same_none q b)) ag;refine⟨_,U,a,_,U,.inl g,_,_,U,U,_,U,fJ (λc=>?_) (λ_=>bW ?_)⟩
   ·have b:1<u.length:=by
     have z:=Pv c;rw[AC]at z
     lia
    refine⟨_,U,a,_,_,_,U,U,g,RX (j:=0) aB,_,_,U,U,(by show(0:J')<2;decide),U,_,U,fJ (λ_=>?_) (λ_=>?_)⟩
    ·refine⟨_,U,a,_,_,_,U,U,g,RX (j:=1) b,_,U,?_⟩;exact⟨_,U,_,U,(by show 2<=sizeLine;decide),λl b=>m _ l b⟩
    ·exact⟨_,U,_,U,(by show 2<=sizeLine;decide),λl b=>m _ l b⟩
   ·exact⟨_,U,_,U,(by show 2<=sizeLine;decide),λl b=>m _ l b⟩
def GF:ay ["_law_stream_here","_law_many","_law_digit"] Zm (aj BC):=dH
theorem K6(F:c_ K "_law_take" "_law_take" BC f fd):aS P w K mg B' dz 1 f fd Zm fo:=by
 refine F.fb GF λp A n s H q Q E o h=>?_
 ·obtain⟨st,d,z,m,e,a,b,g,k⟩:=h;subst e
  refine⟨_,ah (aO (bh oK (ny (pv 0) af) af (bB _))
    (ah (pz 2 GF.nd (aE jB (ny (pv 0) af) (pv 1)))
    (ah (vg (aE vW (ny (pv 0) af) (pv 1)) (GY (pv 0) af set_list))
    (ai (ar (pv 2))))) aD)
   (ah (vg (aE jB (aE bS (aE qK (ny (pv 0) af) af) af) af) (GY (pv 0) af set_list))
   (ai (ar (aE jB (aE bS (aE jB (aE qK (ny (pv 0) af) af) af) (aE Iu (ny (pv 0) af) af)) (pv 1))))),?_⟩
  have j:∀x y:V,oE [x,y] 0=O x:=λx y=>U;have i:∀x y:V,oE [x,y] 1=O y:=λx y=>U;refine⟨_,U,st,_,_,_,U,U,bu.of a,j _ _,_,_,U,U,_,U,fJ (λc=>?_) (λc=>?_)⟩
  ·refine⟨_,U,st,_,_,_,U,U,bu.of a,j _ _,_,U,_,_,U,U,b,?_⟩;refine⟨_,U,st,_,_,_,U,U,bu.of a,j _ _,_,U,_,_,U,U,⟨b,g⟩,_,U,st,_,_,0,U,U,a,U,?_⟩;exact⟨_,U,k _ _ _ (Int.emod_nonneg _ aB) (aa4 _ b)⟩
  ·refine⟨_,U,st,_,_,_,U,U,bu.of a,i _ _,_,_,U,U,.inr ⟨bp,bp⟩,_,_,U,U,_,_,U,U,(by show(0:J')<2305843009213693951;decide),_,U,st,_,_,1,U,U,a,U,?_⟩;have l:(upd H st (.lst ([V.int d,V.int z].set 1 (V.int ((z*48271+1013904223)%2305843009213693951))))) st=O (.lst [V.int d,V.int ((z*48271+1013904223)%2305843009213693951)]):=ag;refine⟨_,U,st,_,_,_,U,U,bu.of l,i _ _,_,_,U,U,.inr ⟨bp,bp⟩,_,_,U,U,(by show(0:J')<2147483629;decide),_,U,st,_,_,_,U,U,bu.of l,i _ _,_,_,U,U,⟨bp,bf⟩,_,_,U,U,_,U,_,_,U,U,b,?_⟩;exact k _ _ _ (Int.emod_nonneg _ aB) (aa4 _ b)
abbrev alpha:Z:="abcdefghijklmnopqrstuvwxyz"
def jX{i:J'}(b:0<=i)(c:i<26):oE alpha.cps.toList i=O (97+i.toNat):=by
 obtain⟨k,rfl,a⟩:=iK (z:=i) (n:=26) b c;have :=(by decide +kernel:∀k:Fin 26,alpha.cps.toList[k.val]? =O (97+k.val)) ⟨k,a⟩;exact aG this
def iR:alpha.length=26:=by decide +kernel
theorem Fx{α:Type}[BEq α][LawfulBEq α]:∀{l1 l2:L α},l1.Nodup->(∀x∈l1,x∈l2)->l1.length<=l2.length
 |[],_,_,_=>Sm _
 |a::l1,l2,b,h=>by
  rw[Xx]at b;have c:=h a De;have :=Fx (l1:=l1) (l2:=l2.erase a) b.2 λx d=>(List.mem_erase_of_ne (λe=>b.1 (by rw[<-e];exact d))).mpr (h x (Fk _ d));rw[List.length_erase_of_mem c]at this;have :0<l2.length:=List.length_pos_of_mem c;rw[Da]
  lia
def rF(k:M')(ts:L Z):Prop:=∀(j:M')(x:Z),ts[j]? =O x->∃r:Z,x=⟨#[97+(k+7*j)%26]⟩++r
def FR{a b:M'}{c:Z}(e:(⟨#[a]⟩:Z)++r=⟨#[b]⟩++c):a=b:=by
 have q:[a]++r.cps.toList=[b]++c.cps.toList:=by
  have :=Tb (λs:Z=>s.cps.toList) e
  have z:∀(a:M')(r:Z),((⟨#[a]⟩:Z)++r).cps.toList=[a]++r.cps.toList:=λa r=>by
   show(#[a]++r.cps).toList=_;rw[SF]
  rw[<-z,<-z];exact this
 injection q
theorem Ir{k:M'}(h:rF k ts)(l:ts.length<=26):ts.Nodup:=by
 refine List.pairwise_iff_getElem.mpr λi j b d a e=>?_;obtain⟨r,f⟩:=h i _ (B2 b);obtain⟨g,c⟩:=h j _ (B2 d);rw[f,c]at e;have :=FR e
 lia
theorem rF.snoc{k:M'}(h:rF k ts)(e:x=⟨#[97+(k+7*ts.length)%26]⟩++r):rF k (ts++[x]):=λj y a=>by
 by_cases b:j<ts.length
 ·rw[Sv b]at a;exact h j y a
 ·rw[Re aB]at a
  have z:j-ts.length=0:=by
   have :=cQ a;simp at this
   lia
  rw[z]at a
  cases a
  have :j=ts.length:=by lia
  rw[this];exact⟨r,e⟩
theorem M7(a:M')(r:Z):(⟨#[a]⟩:Z)++r≠"":=λe=>by
 have :=Tb (λs:Z=>s.cps.toList.length) e
 have z:((⟨#[a]⟩:Z)++r).cps.toList.length=1+r.cps.toList.length:=by
  show(#[a]++r.cps).toList.length=_;rw[SF,B3];rfl
 have b:("":Z).cps.toList.length=0:=by decide +kernel
 rw[z,b]at this
 lia
def AX(x y z:Z):(x++y)++z=x++(y++z):=by
 show(⟨(x.cps++y.cps)++z.cps⟩:Z)=⟨x.cps++(y.cps++z.cps)⟩;rw[UT]
def kO{xs:L Z}:tR (.str x) (xs.map V.str)=decide (x∈xs):=by
 unfold tR;rw[Xa];by_cases h:x∈xs
 ·rw[FB h,Y6];exact⟨x,h,by simp[tq]⟩
 ·rw[GT h,Yh];intro y a;simp only[Function.comp,tq,W3];intro e;exact h (by rw[<-e];exact a)
def CP(a:L Z):(a.map V.str).all iq=T':=by
 rw[Wl];exact UW.mpr λ_ _=>U
def Vl(x:Z):Prop:=∀c∈x.cps.toList,97<=c/\c<=122
def Vn(x:Z):Prop:=1<=x.length/\x.length<=8/\Vl x
def Po(x y:Z):(x++y).cps.toList=x.cps.toList++y.cps.toList:=by
 show(x.cps++y.cps).toList=_;rw[SF]
def Vl.nil:Vl "":=λc a=>by
 have e:("":Z).cps.toList=[]:=by decide +kernel
 rw[e]at a
 cases a
theorem Vl.app(h:Vl x)(g:Vl y):Vl (x++y):=λa b=>by
 rw[Po]at b
 rcases Os.mp b with z|z
 ·exact h a z
 ·exact g a z
def Vl.one(h:97<=c/\c<=122):Vl (⟨#[c]⟩:Z):=λa b=>by
 have b:a∈[c]:=b;rw[Dk.mp b];exact h
theorem R0(n:M'):(Tn Y (O 4) 1 n).length<=4:=by
 by_cases h:4<=n
 ·rw[Zv,show(O 0:O' J')=O ((0:M'):J')from U,show(O 4:O' J')=O ((4:M'):J')from U,Yv (Sm _) h,AC,Ue];exact B9 _
 ·have :=(by decide +kernel:∀i:Fin 4,(Tn Y (O 4) 1 i.val).length<=4) ⟨n,aB⟩;exact this
theorem O9(x:Z):(gx x Y (O 4)).length<=4:=by
 have h:=R0 x.length;unfold gx
 split
 ·rename_i e
  have :=eq_of_beq e
  lia
 ·show((Tn Y (O 4) 1 x.length).filterMap (x.cps[·]?)).toArray.size<=_;rw[B8];exact Tf (ZA _ _) h
def Gz(h:Vl x):Vl (gx x Y (O 4)):=by
 unfold gx
 split
 ·exact h
 ·intro c a;have a:c∈(Tn Y (O 4) 1 x.length).filterMap (x.cps[·]?):=a;obtain⟨i,_,e⟩:=List.mem_filterMap.mp a;rw[<-Vf]at e;exact h c (Do e)
inductive DZ(vs:L V)(H:Hp)(Q:VK):Prop
 |mk (st:B4) (d z:J') (m:M') (c0:vs=[.ref st,.int m]) (c1:H st=O (.lst [.int d,.int z])) (c2:m<=20) (c3:∀(l:B4)(bb:L Z)(d' z':J')(H':Hp),H l=Y->Kp st H H'->H' st=O (.lst [.int d',.int z'])->H' l=O (.lst (bb.map V.str))->bb.length=m->(∀x∈bb,x.length<=60)->bb.Nodup->(∀x∈bb,Vn x)->Q (.ref l) H')
def xN:Sp:=λa H Q _=>DZ a H Q
def eV:ay ["_law_stream_here","_law_many","_law_letters","_law_names_here","_law_k","_law_name","_law_j","_law_turn","_law_other"] Zm (aj A2):=dH
theorem Cp(F:c_ K "_law_names" "_law_names" A2 f fd)(N:aQ mg)(C1:Cl P w K mg B' 1 fo "_law_take"):
  aS P w K mg B' dz 2 f fd Zm xN:=by
 refine F.fb eV λC' A U' s H vs Q E hr h=>?_
 ·obtain⟨st,d,z,m,e,a5,hm,k⟩:=h;subst e
  refine⟨_,ah (pz 2 eV.nd ak)
   (ah (pz 3 eV.nd (bt eO))
   (ah (dq SU U (cW U N.range (aN (pv 1))) (aZ (i:=4) eV.nd U (Te U))
    (ah (pz 5 eV.nd ak)
    (ah (dq SU U (cW U N.range (aN (pq C1 hr (bO (pv 0) af)))) (aZ (i:=6) eV.nd U (Te U))
     (ai (pz 5 eV.nd (aE aJ (pv 5) (jD qM (pv 2) (pq C1 hr (bO (pv 0) af)) (λ_ _=>U))))))
    (ah (pz 7 eV.nd (pv 4))
    (ah (xT SU (yy (bh (r:=yL K F') dj (pv 5) (pv 3) (by rfl)) (vq (jC (pv 5) ak))).pt
     (ah (pz 8 eV.nd (jD qM (pv 2) (aE jB (aE bS (aE vW (pv 7) af) (aI dE (by rfl) N.len Tc (aN (pv 5)))) af) (λ_ _=>U)))
     (ah (pz 5 eV.nd (aE aJ (aE aJ (jD qM (pv 2) (aE jB (pv 7) af) (λ_ _=>U)) (pv 8)) (dn ph (pv 5) eH (eu af))))
     (ai (pz 7 eV.nd (aE bS (pv 7) af))))))
    (ai (cK (bY SH SK SJ cC (pv 3) (aN (pv 5))))))))))
   (ai (ar (pv 3))))),?_⟩
  refine⟨az (by simp),λl hl=>?_⟩;have EO:l≠st:=SZ (aH a5 hl);refine⟨_,U,(m:J'),U,aB,aB,?_⟩
  have en:((m:J')).toNat=m:=by lia
  rw[en];refine di (n:=m) (λi σ H2=>∃(u4 u5 u6 u7 u8:O' V)(bb:L Z)(d2 z2:J'),σ=[O (.ref st),O (.int m),O (.str alpha),O (.ref l),u4,u5,u6,u7,u8]/\Kp st H H2/\H2 st=O (.lst [.int d2,.int z2])/\H2 l=O (.lst (bb.map V.str))/\bb.length=i/\(∀x∈bb,x.length<=60)/\bb.Nodup/\∀x∈bb,Vn x) ⟨_,_,_,_,_,[],d,z,U,Kp.put (Kp.refl _) hl,by rw[ax (SZ EO)];exact a5,ag,U,(λx B=>nomatch B),List.nodup_nil,λx B=>nomatch B⟩ ?_ ?_
  ·rintro i σ H2 hi ⟨u4,u5,u6,u7,u8,bb,d2,z2,rfl,a0,J,W,G,I,C,a2⟩;have ei:(0:J')+(i:J')=(i:J'):=Z7 _;refine⟨_,U,st,d2,z2,8,U,J,bp,bp,λv0 d3 z3 b6 b7=>?_⟩;rw[ei];have b0:(upd H2 st (.lst [.int d3,.int z3])) st=O (.lst [.int d3,.int z3]):=ag
   have b4:(upd H2 st (.lst [.int d3,.int z3])) l=O (.lst (bb.map V.str)):=by rw[ax EO];exact W
   have a9:Kp st H (upd H2 st (.lst [.int d3,.int z3])):=a0.trans Kp.store;generalize upd H2 st (.lst [.int d3,.int z3])=H3 at *;refine⟨v0,U,aB,aB,?_⟩;refine di (n:=v0.toNat) (λj σ H4=>∃(S:O' V)(a:Z)(d4 z4:J'),σ=[O (.ref st),O (.int m),O (.str alpha),O (.ref l),O (.int i),O (.str a),S,u7,u8]/\Kp st H H4/\H4 st=O (.lst [.int d4,.int z4])/\H4 l=O (.lst (bb.map V.str))/\a.length<=j/\Vl a) ⟨_,"",d3,z3,U,a9,b0,b4,bf,Vl.nil⟩ ?_ ?_
   ·rintro j σ H4 hj ⟨S,a,d4,z4,rfl,R,X,D,a4,c⟩;refine⟨_,U,_,U,_,U,st,d4,z4,26,U,X,bp,bp,λv d5 z5 b2 b1=>?_⟩;refine⟨alpha,_,_,U,U,az (by rw[iR];lia),jX b2 b1,_,_,U,U,az (by show a.length+1<=100000;lia),?_⟩;exact⟨_,_,d5,z5,U,R.trans Kp.store,ag,by rw[ax EO];exact D,by rw[FS];show a.length+1<=j+1;lia,c.app (Vl.one aB)⟩
   rintro σ H4 ⟨S,a,d4,z4,rfl,R,X,D,a4,c⟩;refine⟨_,U,?_⟩
   refine⟨λm' σ M=>∃(a:Z)(t:M')(ts:L Z)(g:O' V),M=H4/\σ=[O (.ref st),O (.int m),O (.str alpha),O (.ref l),O (.int i),O (.str a),S,O (.int ((i+7*t:M'):J')),g]/\a.length<=7+2*t/\(a.length<=7/\Vl a)/\t<=bb.length+1/\rF i ts/\(∀x∈ts,x∈bb)/\((t=0/\ts=[])\/(t=ts.length+1/\∃r,a=⟨#[97+(i+7*ts.length)%26]⟩++r))/\m'=bb.length+2-t,
    ⟨bb.length+2,a,0,[],_,U,U,aB,⟨aB,c⟩,aB,(λj x e=>nomatch e),(λx e=>nomatch e),.inl ⟨U,U⟩,U⟩,?_⟩
   rintro m' σ M ⟨a,t,ts,g,rfl,rfl,a4,⟨b5,c⟩,ht,a7,a6,a1,rfl⟩
   have u:(a∈bb\/a="")->∃N:St->Hp->Prop,(∀p H',N p H'->∃m',m'<bb.length+2-t/\∃(a:Z)(t:M')(ts:L Z)(g:O' V),H'=M/\p=[O (.ref st),O (.int m),O (.str alpha),O (.ref l),O (.int i),O (.str a),S,O (.int ((i+7*t:M'):J')),g]/\a.length<=7+2*t/\(a.length<=7/\Vl a)/\t<=bb.length+1/\rF i ts/\(∀x∈ts,x∈bb)/\((t=0/\ts=[])\/(t=ts.length+1/\∃r,a=⟨#[97+(i+7*ts.length)%26]⟩++r))/\m'=bb.length+2-t)/\
     ∀b r:Z,b=⟨#[97+(i+7*t)%26]⟩++r->b.length<=2+a.length->(b.length<=7/\Vl b)->∀g,N [O (.ref st),O (.int m),O (.str alpha),O (.ref l),O (.int i),O (.str b),S,O (.int ((i+7*(t+1):M'):J')),g] M:=λb3=>by
    obtain⟨o,h1,h2,h3,h4⟩:∃o:L Z,rF i o/\(∀x∈o,x∈bb)/\o.length=t/\t<=bb.length:=by
     rcases a1 with⟨rfl,rfl⟩|⟨et,r,er⟩
     ·exact⟨[],a7,a6,U,Sm _⟩
     ·have a3:a∈bb:=b3.resolve_right λe=>M7 _ r (by rw[<-er];exact e);have hT:=a7.snoc er
      have hS:∀x∈ts++[a],x∈bb:=λx B=>by
       rcases Os.mp B with q|q
       ·exact a6 x q
       ·rw[Dk.mp q];exact a3
      have hL:(ts++[a]).length=t:=by rw[B3,et];rfl
      refine⟨ts++[a],hT,hS,hL,?_⟩;rw[<-hL];exact Fx (Ir hT (by rw[hL];lia)) hS
    refine⟨λp H'=>H'=M/\∃(b r:Z)(g:O' V),b=⟨#[97+(i+7*t)%26]⟩++r/\b.length<=2+a.length/\(b.length<=7/\Vl b)/\p=[O (.ref st),O (.int m),O (.str alpha),O (.ref l),O (.int i),O (.str b),S,O (.int ((i+7*(t+1):M'):J')),g],?_,λb r e1 e2 e3 g=>⟨U,b,r,g,e1,e2,e3,U⟩⟩;rintro p H' ⟨rfl,b,r,g,e1,e2,e3,rfl⟩;exact⟨bb.length+2-(t+1),aB,b,t+1,o,g,U,U,aB,e3,aB,h1,h2,.inr ⟨aB,r,by rw[h3];exact e1⟩,U⟩
   refine⟨_,U,_,U,l,_,U,.inl (bu.of D),U,CP bb,_,U,?_⟩
   show if tR (.str a) (bb.map V.str)=T' then _ else _
   rw[kO];refine fJ (λh1=>dJ ?_) (λh1=>?_)
   ·obtain⟨N,hN,T⟩:=u (.inl (Pv h1));refine⟨N,hN,?_⟩;refine⟨_,U,_,U,_,_,U,U,⟨bp,bp⟩,_,U,a,U,az aB,_,_,U,U,_,_,U,U,(by show(0:J')<26;decide),alpha,_,_,U,U,az (by rw[iR];lia),jX aB aB,?_⟩;refine⟨_,U,_,U,_,_,U,U,(by show(0:J')<26;decide),alpha,_,_,U,U,az (by rw[iR];lia),jX aB aB,_,U,_,_,U,U,az (by show 1+1<=100000;lia),_,U,_,U,a,U,az aB,?_⟩;obtain⟨y,hy,y4,yl,ey⟩:∃y,y.length<=a.length/\y.length<=4/\Vl y/\gx a Y (O 4)=y:=⟨_,kX _ _ _,O9 a,Gz c,U⟩;rw[ey];refine⟨_,_,U,U,az (by show 2+y.length<=100000;lia),?_⟩;refine⟨_,U,_,_,U,U,?_⟩
    have et:((i+7*t:M'):J')+7=((i+7*(t+1):M'):J'):=by lia
    have ea:(((i+7*t:M'):J')%26).toNat=(i+7*t)%26:=by lia
    show N [_,_,_,_,_,_,_,O (V.int (((i+7*t:M'):J')+7)),_] M;rw[et];refine T _ (⟨#[97+((((i+7*t:M'):J')/26+(a.length:J'))%26).toNat]⟩++y) ?_ (by rw[FS,FS];show 1+1+y.length<=2+a.length;lia) ⟨by rw[FS,FS];show 1+1+y.length<=7;lia,((Vl.one aB).app (Vl.one aB)).app yl⟩ _;rw[AX,ea]
   refine⟨_,U,U,_,U,fJ (λh2=>?_) (λh2=>?_)⟩
   ·obtain⟨N,hN,T⟩:=u (.inr (V.str.inj (Pv h2)));refine⟨N,hN,?_⟩;refine⟨_,U,_,U,_,_,U,U,⟨bp,bp⟩,_,U,a,U,az aB,_,_,U,U,_,_,U,U,(by show(0:J')<26;decide),alpha,_,_,U,U,az (by rw[iR];lia),jX aB aB,?_⟩;refine⟨_,U,_,U,_,_,U,U,(by show(0:J')<26;decide),alpha,_,_,U,U,az (by rw[iR];lia),jX aB aB,_,U,_,_,U,U,az (by show 1+1<=100000;lia),_,U,_,U,a,U,az aB,?_⟩;obtain⟨y,hy,y4,yl,ey⟩:∃y,y.length<=a.length/\y.length<=4/\Vl y/\gx a Y (O 4)=y:=⟨_,kX _ _ _,O9 a,Gz c,U⟩;rw[ey];refine⟨_,_,U,U,az (by show 2+y.length<=100000;lia),?_⟩;refine⟨_,U,_,_,U,U,?_⟩
    have et:((i+7*t:M'):J')+7=((i+7*(t+1):M'):J'):=by lia
    have ea:(((i+7*t:M'):J')%26).toNat=(i+7*t)%26:=by lia
    show N [_,_,_,_,_,_,_,O (V.int (((i+7*t:M'):J')+7)),_] M;rw[et];refine T _ (⟨#[97+((((i+7*t:M'):J')/26+(a.length:J'))%26).toNat]⟩++y) ?_ (by rw[FS,FS];show 1+1+y.length<=2+a.length;lia) ⟨by rw[FS,FS];show 1+1+y.length<=7;lia,((Vl.one aB).app (Vl.one aB)).app yl⟩ _;rw[AX,ea]
   have a8:a∉bb:=λz=>h1 (FB z);refine⟨_,U,.inl ⟨U,_,bu.of D⟩,_,U,l,_,_,U,U,D,small (by rw[AC];lia),?_⟩;refine⟨_,_,_,_,_,bb++[a],d4,z4,U,Kp.put R hl,by rw[ax (SZ EO)];exact X,by rw[ag,KM];rfl,by rw[B3];show bb.length+1=i+1;lia,?_,?_,?_⟩
   ·intro x B
    rcases Os.mp B with z|z
    ·exact I x z
    ·rw[Dk.mp z];lia
   ·refine List.nodup_append.mpr ⟨C,List.pairwise_singleton _ _,λx B y hy e=>a8 ?_⟩;rw[<-Dk.mp hy,<-e];exact B
   ·intro x B
    rcases Os.mp B with z|z
    ·exact a2 x z
    ·rw[Dk.mp z];refine⟨?_,aB,c⟩;by_cases q:a.length=0
     ·refine KB (FB ?_) h2
      have e0:a="":=by
       refine pT ?_;have e1:a.cps.toList=[]:=S0 (by rw[SG];exact q);rw[e1];decide +kernel
      rw[e0]
     ·lia
  ·rintro σ H2 ⟨u4,u5,u6,u7,u8,bb,d2,z2,rfl,a0,J,W,G,I,C,a2⟩;exact⟨_,U,k l bb d2 z2 H2 hl a0 J W G I C a2⟩
theorem cf{x:J'}(a:0<=x)(b:x<1000000000):cZ x:=by unfold cZ;lia
def KT.kp(k:Kp st H H')(h:H st=O (.lst xs)):KT H H':=λb a e=>k b _ (wW e h (by intro z;cases z)) e
def Vr(a b:J'):Prop:=0<=a/\a<=b/\b<=1000000
def Va(p:Z×J'):Prop:=(p.1="start"\/p.1="mid"\/p.1="mid2"\/p.1="end")/\ -1000000<=p.2/\p.2<=1000000
def Ld(c:M'):Prop:=33<=c/\c<=126/\c≠37/\c≠124
def Vx(x:Z):Prop:=∀c∈x.cps.toList,Ld c
def PX(ws:L (L Z)):Prop:=∀w∈ws,∀x∈w,Vx x
def MK(ws:L (L Z)):Prop:=PX ws/\(ws.map λw=>(w.length:J')).sum<=60
theorem PY(h:ws.length<=3)(g:∀w∈ws,1<=w.length/\w.length<=3/\∀x∈w,1<=x.length/\x.length<=4):gf ws:=⟨aB,λw a=>⟨(g w a).1,by have :=(g w a).2.1;lia,λx b=>⟨((g w a).2.2 x b).1,by have :=((g w a).2.2 x b).2;lia⟩⟩⟩
theorem AL:∀{ws:L (L Z)},(∀w∈ws,w.length<=3)->(ws.map λw=>(w.length:J')).sum<=3*ws.length
 |[],_=>by simp
 |w::l,h=>by
  have c:=AL (ws:=l) λv a=>h v (Fk _ a);have b:=h w De;simp only[SQ,WN,Da]
  lia
def Vx.nil:Vx "":=λc a=>by
 have e:("":Z).cps.toList=[]:=by decide +kernel
 rw[e]at a
 cases a
theorem Vx.snoc(h:Vx x)(d:Ld c):Vx (x++(⟨#[c]⟩:Z)):=λa b=>by
 have e:(x++(⟨#[c]⟩:Z)).cps.toList=x.cps.toList++[c]:=by
  show(x.cps++#[c]).toList=_;rw[SF]
 rw[e]at b
 rcases Os.mp b with z|z
 ·exact h a z
 ·rw[Dk.mp z];exact d
inductive EG(vs:L V)(H:Hp)(Q:VK):Prop
 |mk (st:B4) (d z:J') (c0:vs=[.ref st]) (c1:H st=O (.lst [.int d,.int z])) (c2:∀(t:B4)(ws:L (L Z))(d' z':J')(H':Hp),H t=Y->Kp st H H'->H' st=O (.lst [.int d',.int z'])->rT H' t ws->gf ws->MK ws->Q (.ref t) H')
def qI:Sp:=λa H Q _=>EG a H Q
def QW:(10:J')^Int.toNat 6=1000000:=by decide
abbrev sgn:Z:="abkxyzAZ019-=,.:;'^_~!#text"
def Jh:sgn.length=27:=by decide +kernel
theorem MF{i:J'}(b:0<=i)(d:i<27):∃c,oE sgn.cps.toList i=O c/\Ld c:=by
 obtain⟨k,rfl,f⟩:=iK (z:=i) (n:=27) b d
 have e:sgn.cps.toList.length=27:=by decide +kernel
 have a:∀c∈sgn.cps.toList,Ld c:=by
  unfold Ld;decide +kernel
 exact⟨_,aG (B2 aB),a _ (TQ _)⟩
def gP:ay ["_law_stream_here","_law_words_here","_law_k","_law_word","_law_j","_law_piece","_law_i"] Zf (aj Bh):=dH
theorem Cs(F:c_ K "_law_words" "_law_words" Bh f fd)(N:aQ mg)(C1:Cl P w K mg B' 1 fo "_law_take"):aS P w K mg B' dz 2 f fd Zf qI:=by
 refine F.fb gP λC' A U' s H vs Q E hr h=>?_
 ·obtain⟨st,d,z,e,a6,k⟩:=h;subst e
  refine⟨_,ah (pz 1 gP.nd (bt eO))
   (ah (dq SU U (cW (by rfl) N.range (aN (pq C1 hr (bO (pv 0) af)))) (aZ (i:=2) gP.nd U (Te U))
    (ah (pz 3 gP.nd (bt eO))
    (ah (dq SU U (cW (by rfl) N.range (aN (aE bS af (pq C1 hr (bO (pv 0) af))))) (aZ (i:=4) gP.nd U (Te U))
     (ah (pz 5 gP.nd ak)
     (ah (dq SU U (cW (by rfl) N.range (aN (aE bS af (pq C1 hr (bO (pv 0) af))))) (aZ (i:=6) gP.nd U (Te U))
      (ai (pz 5 gP.nd (aE aJ (pv 5) (jD qM ak (pq C1 hr (bO (pv 0) af)) (λ_ _=>U))))))
     (ai (cK (bY SH SK SJ cC (pv 3) (aN (pv 5))))))))
    (ai (cK (bY SH SK SJ cC (pv 1) (aN (aM bw (by rfl) N.tuple SD (aN (pv 3))))))))))
   (ai (ar (aM bw (by rfl) N.tuple SD (aN (pv 1)))))),?_⟩
  refine aq λN0 a2=>?_;refine⟨az (by simp),λa M=>a2 _ _ ?_⟩;clear a2 N0;have nw:a≠st:=SZ (aH a6 M);have b8:Kp st H (upd H a (.lst [])):=Kp.put (Kp.refl _) M;have s1:(upd H a (.lst [])) st=O (.lst [.int d,.int z]):=(ax (SZ nw)).trans a6;have w1:(upd H a (.lst [])) a=O (.lst (([]:L B4).map V.ref)):=ag;generalize upd H a (.lst [])=H1 at *;refine aq λN1 b7=>?_;refine⟨_,U,st,d,z,4,U,s1,bp,bp,λv0 T z2 c2 c5=>?_⟩;have a9:Kp st H (upd H1 st (.lst [.int T,.int z2])):=b8.trans Kp.store;have s2:(upd H1 st (.lst [.int T,.int z2])) st=O (.lst [.int T,.int z2]):=ag;have w2:(upd H1 st (.lst [.int T,.int z2])) a=O (.lst (([]:L B4).map V.ref)):=(ax nw).trans w1;generalize upd H1 st (.lst [.int T,.int z2])=H2 at *;refine⟨v0,U,aB,aB,?_⟩
  refine di (n:=v0.toNat) (λi σ p=>∃(u2 u3 u4 u5 u6:O' V)(as:L B4)(ws:L (L Z))(D I:J'),σ=[O (.ref st),O (.ref a),u2,u3,u4,u5,u6]/\Kp st H p/\p st=O (.lst [.int D,.int I])/\p a=O (.lst (as.map V.ref))/\bQ p as (ws.map dC)/\as.length=i/\(∀w∈ws,1<=w.length/\w.length<=3/\∀x∈w,1<=x.length/\x.length<=4)/\PX ws)
   ⟨_,_,_,_,_,[],[],T,z2,U,a9,s2,w2,bQ.nil,U,(λw y=>nomatch y),λw y=>nomatch y⟩ ?_ ?_
  ·rintro i σ u hi ⟨u2,u3,u4,u5,u6,as,ws,d3,z3,rfl,l,X,w3,r3,a3,g3,q3⟩;refine aq λN4 a0=>?_;refine⟨az (by simp),λg r=>a0 _ _ ?_⟩;clear a0 N4;have nx:g≠st:=SZ (aH X r);have c7:a≠g:=aH w3 r;have c1:=l.gone nx r;have b5:Kp st u (upd u g (.lst [])):=Kp.put (Kp.refl _) r;have s4:(upd u g (.lst [])) st=O (.lst [.int d3,.int z3]):=(ax (SZ nx)).trans X;have x4:(upd u g (.lst [])) g=O (.lst (([]:L Z).map V.str)):=ag;generalize upd u g (.lst [])=H4 at *;refine aq λN2 b9=>?_;refine⟨_,U,st,d3,z3,3,U,s4,bp,bp,λv1 d5 z5 c6 c8=>?_⟩;have b1:Kp st u (upd H4 st (.lst [.int d5,.int z5])):=b5.trans Kp.store;have s5:(upd H4 st (.lst [.int d5,.int z5])) st=O (.lst [.int d5,.int z5]):=ag;have x5:(upd H4 st (.lst [.int d5,.int z5])) g=O (.lst (([]:L Z).map V.str)):=(ax nx).trans x4;generalize upd H4 st (.lst [.int d5,.int z5])=H5 at *;refine⟨_,_,U,U,_,U,aB,aB,?_⟩
   refine di (n:=(1+v1).toNat) (λj σ p=>∃(y4 y5 y6:O' V)(xs:L Z)(D I:J'),σ=[O (.ref st),O (.ref a),O (.int (0+(i:J'))),O (.ref g),y4,y5,y6]/\Kp st u p/\p st=O (.lst [.int D,.int I])/\p g=O (.lst (xs.map V.str))/\xs.length=j/\(∀x∈xs,1<=x.length/\x.length<=4)/\∀x∈xs,Vx x)
    ⟨_,_,_,[],d5,z5,U,b1,s5,x5,U,(λx R=>nomatch R),λx R=>nomatch R⟩ ?_ ?_
   ·rintro j σ q hj ⟨y4,y5,y6,xs,d6,z6,rfl,m,s6,x6,a5,g6,q6⟩;refine aq λN5 a4=>a4 _ _ ?_;clear a4 N5;refine aq λN3 b4=>?_;refine⟨_,U,st,d6,z6,4,U,s6,bp,bp,λv2 d7 W c3 c4=>?_⟩;have c0:Kp st u (upd q st (.lst [.int d7,.int W])):=m.trans Kp.store;have s7:(upd q st (.lst [.int d7,.int W])) st=O (.lst [.int d7,.int W]):=ag;have x7:(upd q st (.lst [.int d7,.int W])) g=O (.lst (xs.map V.str)):=(ax nx).trans x6;generalize upd q st (.lst [.int d7,.int W])=H7 at *;refine⟨_,_,U,U,_,U,aB,aB,?_⟩
    refine di (n:=(1+v2).toNat) (λn σ p=>∃(t6:O' V)(G:Z)(D I:J'),σ=[O (.ref st),O (.ref a),O (.int (0+(i:J'))),O (.ref g),O (.int (0+(j:J'))),O (.str G),t6]/\Kp st u p/\p st=O (.lst [.int D,.int I])/\p g=O (.lst (xs.map V.str))/\G.length=n/\Vx G)
     ⟨_,"",d7,W,U,c0,s7,x7,bf,Vx.nil⟩ ?_ ?_
    ·rintro n σ H8 hn ⟨t6,G,d8,z8,rfl,S,s8,x8,a8,J⟩;refine⟨_,U,_,U,st,d8,z8,27,U,s8,bp,bp,λv D I b6 b2=>?_⟩;obtain⟨c,hc,b3⟩:=MF b6 b2;refine⟨sgn,_,_,U,U,az (by rw[Jh];decide),hc,_,_,U,U,az (by show G.length+1<=100000;lia),?_⟩;exact⟨_,_,D,I,U,S.trans Kp.store,ag,(ax nx).trans x8,by rw[FS,a8];rfl,J.snoc b3⟩
    ·rintro σ H8 ⟨t6,G,d8,z8,rfl,S,s8,x8,a8,J⟩;refine b4 _ _ ?_;refine⟨_,U,.inl ⟨U,_,bu.of x8⟩,_,U,g,_,_,U,U,x8,small (by rw[AC];lia),?_⟩;refine⟨_,_,_,xs++[G],d8,z8,U,λb o hb e=>?_,(ax (SZ nx)).trans s8,by rw[ag,KM];rfl,by rw[B3,a5];rfl,λx R=>?_,λx R=>?_⟩
     ·rw[ax (λz=>by rw[z,r]at e;cases e)];exact S b o hb e
     ·rcases Os.mp R with z|z
      ·exact g6 x z
      ·rw[Dk.mp z];lia
     ·rcases Os.mp R with z|z
      ·exact q6 x z
      ·rw[Dk.mp z];exact J
   ·rintro σ q ⟨y4,y5,y6,xs,d6,z6,rfl,m,s6,x6,a5,g6,q6⟩;refine b9 _ _ ?_;have w6:q a=O (.lst (as.map V.ref)):=m _ _ nw w3;refine⟨_,U,.inl ⟨U,_,bu.of w6⟩,_,U,g,_,U,.inl ⟨bu.of x6,λt C=>?_⟩⟩;have nt:st≠t:=aH s6 C;have a1:a≠t:=aH w6 C;have r6:=lH r3 (KT.kp m X);refine⟨a,_,_,U,U,(ax a1).trans w6,small (by rw[AC];lia),?_⟩;refine⟨_,_,_,_,_,as++[t],ws++[xs],d6,z6,U,?_,?_,by rw[ag,KM];rfl,?_,by rw[B3,a3];rfl,λw y=>?_,λw y=>?_⟩
    ·have B:H t=Y:=(l.trans m).gone (SZ nt) C;exact Kp.put (Kp.put (l.trans m) B) M
    ·rw[ax (SZ nw),ax nt];exact s6
    ·rw[KM];have b0:(upd q t (.tup (xs.map V.str))) t=O (.tup (dC xs)):=ag;have k1:KT q (upd q t (.tup (xs.map V.str))):=KT.put C;have k2:KT (upd q t (.tup (xs.map V.str))) (upd (upd q t (.tup (xs.map V.str))) a (.lst (as.map V.ref++[V.ref t]))):=KT.lst ((ax a1).trans w6);exact bQ.snoc (lH r6 (k1.trans k2)) (aa.refl _) (k2 _ _ b0)
    ·rcases Os.mp y with z|z
     ·exact g3 w z
     ·rw[Dk.mp z];exact⟨aB,aB,g6⟩
    ·rcases Os.mp y with z|z
     ·exact q3 w z
     ·rw[Dk.mp z];exact q6
  ·rintro σ u ⟨u2,u3,u4,u5,u6,as,ws,d3,z3,rfl,l,X,w3,r3,a3,g3,q3⟩;refine b7 _ _ ?_;refine⟨_,U,a,_,U,.inl ⟨bu.of w3,λt C=>?_⟩⟩;have nt:st≠t:=aH X C;have B:H t=Y:=l.gone (SZ nt) C
   have a7:ws.length<=3:=by have :=r3.1;rw[AC]at this;lia
   exact k t ws d3 z3 _ B (Kp.put l B) ((ax nt).trans X) ⟨as,ag,lH r3 (KT.put C)⟩ (PY a7 g3) ⟨q3,by have :=AL λw y=>(g3 w y).2.1;lia⟩
def wo{d:J'}{e:TE}(a:B4->M'->L V->Hp->Prop)(q:n<sizeLine)(o:∀D,H D=Y->a D 0 [] (upd H D (.lst [])))(f:∀D i l H',a D i l H'->l.length<=i)(m:∀(D:B4)(i:M')(l:L V)(H':Hp)(b:VK),i<n->a D i l H'->(∀y c,c D=O (.lst l)->a D (i+1) (l++[y]) (upd c D (.lst (l++[y])))->b y c)->e (O (.int (d+i))::σ) H' b)(g:∀D l H',a D n l H'->Q (.ref D) H'):fQ (IF d n) H σ gn e Q:=
 xR a q o f (λD i l H' r j pv p=>p T' H' (λh=>by cases h) (λ_ b k=>m D i l H' b j pv k)) g
def Vs(s:Z):Prop:=s="left"\/s="right"
def Vw:aX->M'->Prop
 | .leaf a b,n=>n=0/\(0<=a/\a<=1000000)/\0<=b/\b<=1000000
 | .lined _ g al sd,n=>n<=20/\(0<=g/\g<=1000)/\(al="start"\/al="end"\/al="mid"\/al="mid2")/\Vs sd
 | .table c g sd e,n=>n<=40/\(1<=c/\c<=12)/\(0<=g/\g<=1000)/\Vs sd/\e.length=n/\∀p∈e,(1<=p.1/\p.1<=c)/\1<=p.2/\p.2<=12
 | .words ws j,n=>n=0/\MK ws/\0<=j/\j<=999
 | .flow d ws j,n=>n<=12/\d.length=n/\(∀s∈d,Vs s)/\MK ws/\0<=j/\j<=999
 | .over ps,n=>(1<=n/\n<=12)/\ps.length+1=n/\∀p∈ps,Va p.1/\Va p.2
def Gr(h:x="left"\/x="right"):x.length<=10:=by rcases h with z|z<;>rw[z]<;>decide +kernel
def GA(k:M')(g:J')(al sd:Z):(aX.lined k g al sd).kd=(aX.lined k 0 "" "").kd:=by
 match k with
 |0=>rfl
 |1=>rfl
 |k+2=>rfl
def EO{t:B4}(h:H st=O o)(a:H t=Y):st≠t:=aH h a
def K2(st ln:B4)(H H':Hp):Prop:=∀b o,b≠st->b≠ln->H b=O o->H' b=O o
def K2.trans{ln:B4}(a:K2 st ln H H1)(b:K2 st ln H1 H2):K2 st ln H H2:=λc o n m h=>b c o n m (a c o n m h)
def K2.kp{ln:B4}(k:Kp st H H'):K2 st ln H H':=λb o n _ h=>k b o n h
def K2.put{ln D:B4}(k:K2 st ln H H')(h:H D=Y):K2 st ln H (upd H' D o):=λb c n m a=>by
 rw[ax (λz=>by rw[z,h]at a;cases a)];exact k b c n m a
def K2.gone{ln D:B4}(k:K2 st ln H H')(n:D≠st)(m:D≠ln)(h:H' D=Y):H D=Y:=by
 cases e:H D with
 |none=>rfl
 |some o=>rw[k D o n m e]at h;cases h
def K2.ln{ln:B4}:K2 st ln H (upd H ln o):=λb a _ n h=>by rw[ax n];exact h
noncomputable def bH:Fo->L Z
 | .nil=>[]
 | .cons _ d a as=>d.nm::(bH a++bH as)
theorem qs(G:Fo):∀F:Fo,bH (F.app G)=bH F++bH G
 | .nil=>rfl
 | .cons a d b as=>by
  show d.nm::(bH b++bH (as.app G))=d.nm::(bH b++bH as)++bH G;rw[qs G as,<-Sx];rfl
def Vo(o:Own):Prop:=Vr o.w0 o.w1/\Vr o.h0 o.h1/\(0<=o.gr/\o.gr<=99)/\(0<=o.sh/\o.sh<=99)/\(0<=o.rk/\o.rk<=9)/\0<=o.al/\o.al<=9
def DR(kd:Z):Prop:=kd="leaf"\/kd="row"\/kd="column"\/kd="wrap"
def VF:Tq->Fo->Prop
 |_,.nil=>WJ
 |tb,.cons _ d a as=>(Vo d.own/\Vw d.wh a.bD.length/\(0<d.own.al->tb=F'/\DR d.wh.kd)/\a.bD.length<=4)/\VF (tb||decide (V.str d.wh.kd=V.str "table")) a/\VF tb as
theorem Fz{b:Tq}(G:Fo)(c:VF b G):∀F:Fo,VF b F->VF b (F.app G)
 | .nil,_=>c
 | .cons a d h as,⟨g,f,e⟩=>⟨g,f,Fz G c as e⟩
def Fw{kd:Z}(h:tR (.str kd) [V.str "leaf",.str "row",.str "column",.str "wrap"]=T'):DR kd:=by
 have h:tR (.str kd) ((["leaf","row","column","wrap"]:L Z).map V.str)=T':=h;rw[kO]at h;have h:=Pv h;simpa[DR]using h
def F8{u:TE}{b c:Tq}(d:σ[i]? =O (O (.bl b)))(e:∀a:VK,a (.bl c) H->u σ H a)(k:Q (.bl (b||c)) H):P4 (eA i) u σ H Q:=
 ⟨.bl b,d,b,U,by
  cases b with
  |true=>exact k
  |false=>exact e Q k⟩
end B10P
namespace B10
open PySem L2 S2
open DW B10P
def oB(c:TE)(σ:St)(H:Hp)(p:Prop):Prop:=∀(b:Hp)(Q:VK),aa H b->(p->∀a,aa b a->Q (.bl T') a)->(¬p->∀a,aa b a->Q (.bl F') a)->c σ b Q
def wY(c:TT)(σ:St)(H:Hp)(p:Prop):Prop:=∀(b:Hp)(Q:Tq->Hp->Prop),aa H b->(p->∀a,aa b a->Q T' a)->(¬p->∀a,aa b a->Q F' a)->c σ b Q
def qf(d:TS)(σ:St)(H:Hp)(p:Prop):Prop:=∀(b:Hp)(c:Ends),aa H b->(p->∀a,aa b a->c.rt (.bl T') a)->(¬p->∀a,aa b a->c.rt (.bl F') a)->d c σ b
def Val(b:TE)(σ:St)(H:Hp)(v:V):Prop:=∀(a:Hp)(Q:VK),aa H a->Q v a->b σ a Q
inductive O2(C:V->Hp->Prop->Prop)(vs:L V)(H:Hp)(Q:VK):Prop
 |mk (v:V) (p:Prop) (c0:vs=[v]) (c1:C v H p) (c2:(p->∀H',aa H H'->Q (.bl T') H')) (c3:(¬p->∀H',aa H H'->Q (.bl F') H'))
def dO(C:V->Hp->Prop->Prop):Sp:=λa H Q _=>O2 C a H Q
inductive Qv(C:V->V->Hp->Prop->Prop)(vs:L V)(H:Hp)(Q:VK):Prop
 |mk (v u:V) (p:Prop) (c0:vs=[v,u]) (c1:C v u H p) (c2:(p->∀H',aa H H'->Q (.bl T') H')) (c3:(¬p->∀H',aa H H'->Q (.bl F') H'))
def fc(C:V->V->Hp->Prop->Prop):Sp:=λa H Q _=>Qv C a H Q
inductive OS(C:V->V->V->Hp->Prop->Prop)(vs:L V)(H:Hp)(Q:VK):Prop
 |mk (v u x:V) (p:Prop) (c0:vs=[v,u,x]) (c1:C v u x H p) (c2:(p->∀H',aa H H'->Q (.bl T') H')) (c3:(¬p->∀H',aa H H'->Q (.bl F') H'))
def rX(C:V->V->V->Hp->Prop->Prop):Sp:=λa H Q _=>OS C a H Q
variable{H H1:Hp}{Q:VK}{D0:Ends}{E:XK}{J:It}{a:B4}{as:L B4}{i j:M'}{n:J'}{ta tb:TE}{ts:TS}{tt:TT}{v:V}{xs:L V}{z:Z}{σ:St}
def qC{p:Prop}[SL p](y:p->Q (.bl T') H)(n:¬p->Q (.bl F') H):Q (.bl (decide p)) H:=by
 by_cases h:p
 ·rw[FB h];exact y h
 ·rw[GT h];exact n h
section
variable{K:B0}{tc tx ty tz:TE}{tu:TT}{u x:V}{m l:J'}{p q r:Prop}
def oB.iff(h:oB ta σ H p)(e:p↔q):oB ta σ H q:=λH1 Q s y n=>h H1 Q s (λz=>y (e.mp z)) λz=>n λw=>z (e.mpr w)
def qf.iff(h:qf ts σ H p)(e:p↔q):qf ts σ H q:=λH1 Q s y n=>h H1 Q s (λz=>y (e.mp z)) λz=>n λw=>z (e.mpr w)
def cO(a:oB ta σ H p)(b:p->oB tb σ H q):oB (Lv ta tb) σ H (p/\q):=λH1 Q s y n=>a H1 _ s (λg f c=>⟨T',U,dJ (b g f Q (aa.trans s c) (λi d e=>y ⟨g,i⟩ d (aa.trans c e)) λh d e=>n (λz=>h z.2) d (aa.trans c e))⟩) λj f c=>⟨F',U,bW (n (λz=>j z.1) f c)⟩
def gB(a:wY tt σ H p)(b:p->wY tu σ H q):wY (Mq tt tu) σ H (p/\q):=λH1 Q s y n=>a H1 _ s (λg f c=>dJ (b g f Q (aa.trans s c) (λi d e=>y ⟨g,i⟩ d (aa.trans c e)) λh d e=>n (λz=>h z.2) d (aa.trans c e))) λj f c=>bW (n (λz=>j z.1) f c)
def dy(h:oB ta σ H p):wY (tB ta) σ H p:=λH1 Q s y n=>h H1 _ s (λz b a=>⟨T',U,y z b a⟩) λz b a=>⟨F',U,n z b a⟩
def df(h:oB ta σ H p):wY (kh ta) σ H p:=λH1 Q s y n=>h H1 _ s (λz b a=>⟨T',U,y z b a⟩) λz b a=>⟨F',U,n z b a⟩
def cJ(h:oB ta σ H p):qf (sf ta) σ H p:=λH1 D0 s y n=>h H1 _ s y n
def fB(a:wY tt σ H p)(b:p->qf ts σ H q):qf (Es (xx (PV tt) (sf (tC (.bl F'))) rz) ts) σ H (p/\q):=λH1 D0 s y n=>a H1 _ s (λg f c=>bW (b g f D0 (aa.trans s c) (λi d e=>y ⟨g,i⟩ d (aa.trans c e)) λh d e=>n (λz=>h z.2) d (aa.trans c e))) λj f c=>dJ (n (λz=>j z.1) f c)
def qf.go(h:qf ts σ H p)(y:p->∀a,aa H a->D0.rt (.bl T') a)(n:¬p->∀a,aa H a->D0.rt (.bl F') a):ts D0 σ H:=h H D0 (aa.refl _) y n
def v_var(h:σ[i]? =O (O v)):Val (eA i) σ H v:=λH1 Q _ k=>⟨v,h,k⟩
def eK:Val (tC v) σ H v:=λH1 Q _ k=>k
def fv(h:Val tx σ H (.ref a))(c:H a=O (.tup xs))(b:xs[j]? =O v):Val (ix (yj K) tx (tC (.int (j:J')))) σ H v:=λH1 Q s k=>h H1 _ s ⟨a,xs,_,v,U,U,bq.of (s _ _ c),aG b,k⟩
def G0(h:Val tx σ H (.ref a))(c:H a=O (.tup xs)):Val (wN (λxs H Q=>∃p b,xs=[.ref p]/\(bu K H p b\/bq K H p b)/\Q (.int b.length) H) (aY tx dc)) σ H (.int xs.length):=λH1 Q s k=>h H1 _ s ⟨a,xs,U,.inr (bq.of (s _ _ c)),k⟩
def Oo(h:Val tx σ H (.int n)):Val (RS (rU λi=> .int (-i)) tx) σ H (.int (-n)):=λH1 Q s k=>h H1 _ s ⟨n,U,k⟩
def v_sub(h:Val tx σ H (.int m))(g:Val ty σ H (.int n)):Val (ix (wc λi j=> .int (i-j)) tx ty) σ H (.int (m-n)):=λH1 Q s k=>h H1 _ s (g H1 _ s ⟨m,n,U,U,k⟩)
def GQ(h:Val tx σ H (.str z))(a:z.length<=100000):Val (wN (λxs H Q=>∃z,xs=[V.str z]/\z.length<=sizeLine/\Q (V.int z.length) H) (aY tx dc)) σ H (.int z.length):=λH1 Q s k=>h H1 _ s ⟨z,U,az a,k⟩
def yv(h:Val tx σ H (.ref a))(c:H a=O (.tup xs))(b:xs[i]? =O v):Val (eS (B10P.gQ i) [] E (aY tx dc)) σ H v:=λH1 Q s k=>h H1 _ s ⟨a,xs,v,U,s _ _ c,b,k⟩
def JD(h:Val tx σ H (.int m))(g:Val ty σ H (.int n)):oB (ix (wc λi j=> .bl (decide (i<=j))) tx ty) σ H (m<=n):=λH1 Q s y z=>h H1 _ s (g H1 _ s ⟨m,n,U,U,qC (λe=>y e H1 (aa.refl _)) λe=>z e H1 (aa.refl _)⟩)
def uc(h:Val tx σ H (.int l))(g:Val ty σ H (.int m))(i:Val tz σ H (.int n)):oB (zX (wc λi j=> .bl (decide (i<=j))) (wc λi j=> .bl (decide (i<=j))) tx ty tz) σ H (l<=m/\m<=n):=λH1 Q s y z=>h H1 _ s (g H1 _ s ⟨l,m,U,U,_,U,fJ (λe=>i H1 _ s ⟨m,n,U,U,qC (λa=>y ⟨Pv e,a⟩ H1 (aa.refl _)) λa=>z (λw=>a w.2) H1 (aa.refl _)⟩) λe=>z (λw=>e (FB w.1)) H1 (aa.refl _)⟩)
def jH(h:Val tx σ H v)(g:Val ty σ H u)(f:J0 v u=T'):oB (ix Qn tx ty) σ H (v=u):=λH1 Q s y z=>h H1 _ s (g H1 _ s ⟨f,qC (λe=>y e H1 (aa.refl _)) λe=>z e H1 (aa.refl _)⟩)
def P6(h:Val tx σ H v)(g:Val ty σ H u)(f:J0 v u=T'):oB (ix Oc tx ty) σ H (v≠u):=λH1 Q s y z=>h H1 _ s (g H1 _ s ⟨f,by
 by_cases e:v=u
 ·rw[FB e];exact z (λw=>w e) H1 (aa.refl _)
 ·rw[GT e];exact y e H1 (aa.refl _)⟩)
def sQ{ws:L Z}(h:Val tx σ H (.str z))(g:Val ty σ H (.ref a))(b:∀H,bq K H a (ws.map V.str)):oB (ix (yL K F') tx ty) σ H (z∈ws):=λH1 Q s y n=>h H1 _ s (g H1 _ s ⟨a,_,U,.inr (b H1),U,by rw[Wl];exact UW.mpr λ_ _=>U,by
 show Q (.bl (tR (.str z) (ws.map V.str))) H1;rw[kO]
 exact qC (λe=>y e H1 (aa.refl _)) λe=>n e H1 (aa.refl _)⟩)
def AK(h:Val tx σ H (.ref a))(b:H a=O (.tup xs)):oB (wN (GZ K) (aY tx (aY (tC (V.ty "tuple")) dc))) σ H WJ:=λH1 Q s y n=>h H1 _ s ⟨_,"tuple",_,_,U,.tup (s _ _ b),U,y trivial H1 (aa.refl _)⟩
def xP(h:Val tx σ H (.str z)):oB (wN (GZ K) (aY tx (aY (tC (V.ty "str")) dc))) σ H WJ:=λH1 Q s y n=>h H1 _ s ⟨_,"str",_,_,U,.str z,U,y trivial H1 (aa.refl _)⟩
def nu{C:V->Hp->Prop->Prop}(h:Val tx σ H v)(c:∀H1,aa H H1->C v H1 p):oB (eS (dO C) [] E (aY tx dc)) σ H p:=λH1 Q s y n=>h H1 _ s ⟨v,p,U,c H1 s,y,n⟩
def oZ{C:V->V->Hp->Prop->Prop}(h:Val tx σ H v)(g:Val ty σ H u)(c:∀H1,aa H H1->C v u H1 p):oB (eS (fc C) [] E (aY tx (aY ty dc))) σ H p:=λH1 Q s y n=>h H1 _ s (g H1 _ s ⟨v,u,p,U,c H1 s,y,n⟩)
def ES{C:V->V->V->Hp->Prop->Prop}(h:Val tx σ H v)(g:Val ty σ H u)(i:Val tz σ H x)(c:∀H1,aa H H1->C v u x H1 p):oB (eS (rX C) [] E (aY tx (aY ty (aY tz dc)))) σ H p:=λH1 Q s y n=>h H1 _ s (g H1 _ s (i H1 _ s ⟨v,u,x,p,U,c H1 s,y,n⟩))
open Classical in
def GW{α:Type}{xs:L α}{inj:α->V}{f:α->Prop}(p:iJ J H1 (xs.map inj))(r:xs.length<=100000)(q:∀x∈xs,∀b,aa H1 b->oB ta (O (inj x)::σ) b (f x))(y:(∀x∈xs,f x)->∀a,aa H1 a->Q (.bl T') a)(n:¬(∀x∈xs,f x)->∀a,aa H1 a->Q (.bl F') a):fQ J H1 σ gn ta λv a=>Bc K [v] a Q:=
 uu (α:=α) (l:=xs) inj (λ_=>T') (λx=> .bl (decide (f x))) p (small r) (λ_ b i _ _ d=>d _ (aa.refl _)) (λx b i _ c k d=>q x c b k b i (aa.refl _) (λe a g=>by have :=d a g;rw[FB e]at this;exact this) λe a g=>by have :=d a g;rw[GT e]at this;exact this) λo h s j m=>by
  refine⟨o,xs.map λx=>decide (f x),U,bu.of (by rw[m,U7.mpr λ_ _=>U,SN];rfl),?_⟩
  have e:(xs.map λx=>decide (f x)).all id=decide (∀x∈xs,f x):=by
   rw[Wl];by_cases z:∀x∈xs,f x
   ·rw[FB z];exact UW.mpr λx c=>FB (z x c)
   ·rw[GT z];refine Vp.mpr λw=>z λx c=>Pv (UW.mp w x c)
  rw[e];exact qC (λz=>y z h j) λz=>n z h j
def Hy{f:M'->Prop}(h:Val tx σ H (.str z))(i:z.length<=100000)(d:∀c∈z.cps.toList,oB ta (O (.str ⟨#[c]⟩)::σ) H (f c)):oB (wN (Bc K) (aY (mx (OJ tx) gn ta) dc)) σ H (∀c∈z.cps.toList,f c):=λH1 Q s y n=>h H1 _ s ⟨z,U,GW (iJ.str _ _) (by rw[SG];exact i) (λc b k a j e g=>d c b j e (aa.trans s (aa.trans a g))) y n⟩
def xE{f:V->Prop}(h:Val tx σ H (.ref a))(b:H a=O (.tup xs))(k:xs.length<=100000)(g:∀x∈xs,oB ta (O x::σ) H (f x)):oB (wN (Bc K) (aY (mx (Mo K tx) gn ta) dc)) σ H (∀x∈xs,f x):=λH1 Q s y n=>h H1 _ s ⟨a,U,⟨_,bq.of (s _ _ b)⟩,GW (inj:=id) (by rw[WB];exact iJ.tup (s _ _ b)) k (λc e m d l i j=>g c e l i (aa.trans s (aa.trans d j))) y n⟩
theorem JX{b:L (L V)}(h:Val tx σ H (.ref a))(o:H a=O (.tup (as.map V.ref)))(k:bQ H as b)(D:as.length<=100000):oB (ix (wc λi j=> .bl (decide (i<=j))) (wN (LL K) (aY (mx (Mo K tx) gn (wN (λxs H Q=>∃p d,xs=[.ref p]/\(bu K H p d\/bq K H p d)/\Q (.int d.length) H) (aY (eA 0) dc))) dc)) (tC (.int n))) σ H ((b.map λw=>(w.length:J')).sum<=n):=λH1 Q s y no=>h H1 _ s ⟨a,U,⟨_,bq.of (s _ _ o)⟩,uu (α:=B4×L V) (l:=as.zip b) (λp=> .ref p.1) (λ_=>T') (λp=> .int (p.2.length:J')) (by
  have e:(as.zip b).map (λp=>V.ref p.1)=as.map V.ref:=by
   rw[show(λp:B4×L V=>V.ref p.1)=V.ref∘X8 from U,<-SN,Yr (by rw[k.1];exact B9 _)]
  rw[e]
  exact iJ.tup (s _ _ o)) (small (by rw[YF];lia)) (λ_ q v _ _ g=>g _ (aa.refl _)) (λp q v _ r t g=>by
  obtain⟨j,B⟩:=Tv r;obtain⟨A,u⟩:=zf B
  exact⟨_,U,p.1,p.2,U,.inr (bq.of (t _ _ (s _ _ (k.2 j _ _ A u)))),g q (aa.refl _)⟩) λx c C m z=>by
  refine⟨x,(as.zip b).map λp=>(p.2.length:J'),U,bu.of (by rw[z,U7.mpr λ_ _=>U,SN];rfl),_,_,U,U,?_⟩;show Q (.bl (decide (((as.zip b).map λp=>(p.2.length:J')).sum<=n))) c;rw[wI (f:=λw:L V=>(w.length:J')) k.1]
  exact qC (λe=>y e c m) λe=>no e c m⟩
end
theorem ya:∀(k m:M'),m<10^(k+1)->(Vt 10 m).length<=k+1
 |0,m,h=>by
  rw[WY (by simpa using h)];exact B9 _
 |k+1,m,h=>by
  by_cases q:m<10
  ·rw[WY q];exact V9 (Sm _)
  ·have t:Vt 10 (m/10)++Vt 10 (m%10)=Vt 10 (10*(m/10)+m%10):=Nat.toDigits_append_toDigits bp aB aB;rw[Nat.div_add_mod]at t;have a:=ya k (m/10) (by rw[Nat.pow_succ]at h;lia);rw[<-t,B3,WY (show m%10<10 by lia)];show _+1<=_
   lia
def Al(m:M'):(nS (m:J')).cps.toList=(Vt 10 m).map Char.toNat:=PySem.W.KIN.signs_num m
variable{m c b:M'}{x y s:Z}{ws:L (L Z)}{CN f l C:B4}{P:To}{ad:M'->B4}{B':T9}{fd:Ud}{mg:Z->O' B5}{tk:M'->Tok}{w:TV}{X:Cx}{H0:Hp}{te:TE}{pd:L B4}
theorem nR(h:m<10000000):1<=(nS (m:J')).length/\(nS (m:J')).length<=7:=by
 have e:(nS (m:J')).length=(Vt 10 m).length:=by
  show(nS (m:J')).cps.size=_;rw[<-SG,Al,AC]
 have a:=PySem.toDigits_len_ge 10 m;have b:=ya 6 m h
 lia
def nE(m:M'):∀c∈(nS (m:J')).cps.toList,48<=c/\c<=57:=λc b=>by
 rw[Al]at b;obtain⟨d,a,e⟩:=Su.mp b;have r:=PyProof.Rows.digit_range (YJ bp bp a);rw[<-e];exact r
def yY(m:M'):(nS (-((m+1:M'):J'))).cps.toList=45::(nS ((m+1:M'):J')).cps.toList:=by
 unfold nS;rw[fh,fh];have e:toString (-((m+1:M'):J'))="-"++toString ((m+1:M'):J'):=U;rw[e,Xq,KM];rfl
theorem F2(h:n.natAbs<10000000):Xr (nS n)=O n:=by
 by_cases q:0<=n
 ·exact PySem.W.KIN.num_reads q aB
 ·obtain⟨m,rfl⟩:∃m:M',n= -((m+1:M'):J'):=⟨n.natAbs-1,aB⟩;have b:=nR (m:=m+1) aB;have a:=yY m
  have len:(nS (-((m+1:M'):J'))).length<=8:=by
   show(nS (-((m+1:M'):J'))).cps.size<=8;rw[<-SG,a,Da,SG];have :=b.2;show(nS ((m+1:M'):J')).length+1<=8
   lia
  have e:=aba a (nE (m+1)) (λz=>by
   have :(nS ((m+1:M'):J')).length=0:=by
    show(nS ((m+1:M'):J')).cps.size=0;rw[<-SG,z];rfl
   lia) aB
  rw[e,Al,PySem.W.KIN.val_back]
noncomputable def EF(c:M'):Tq:=(!decide ((⟨#[c]⟩:Z).cps.toList<("0":Z).cps.toList))&& !decide (("9":Z).cps.toList<(⟨#[c]⟩:Z).cps.toList)
theorem NN(h:48<=c/\c<=57):EF c=T':=by
 have :∀i:Fin 10,EF (48+i.val)=T':=by decide +kernel
 have z:=this ⟨c-48,aB⟩;rw[show 48+(c-48)=c by lia]at z;exact z
theorem zu:(decide (0+("-":Z).length<=(nS n).length)&&abk (nS n) "-" 0)=decide (n<0):=by
 rw[abu];by_cases q:0<=n
 ·rw[GT (show¬n<0 by lia)];obtain⟨m,rfl⟩:=Int.eq_ofNat_of_zero_le q;have d:=nE m
  have :(((nS (m:J')).cps.toList.drop 0).take ("-":Z).length==("-":Z).cps.toList)=F':=by
   rw[Vk,show("-":Z).length=1 from U,show("-":Z).cps.toList=[45]from U]
   cases e:(nS (m:J')).cps.toList with
   |nil=>rfl
   |cons c r=>
    have :=d c (by rw[e];exact De);show([c]==[45])=F';simp
    lia
  rw[this,Y9]
 ·obtain⟨m,rfl⟩:∃m:M',n= -((m+1:M'):J'):=⟨n.natAbs-1,aB⟩;have a:=yY m
  have b:1<=(nS (-((m+1:M'):J'))).length:=by
   show 1<=(nS (-((m+1:M'):J'))).cps.size;rw[<-SG,a,Da]
   lia
  rw[a,FB (show 0+("-":Z).length<=(nS (-((m+1:M'):J'))).length from b),FB (show -((m+1:M'):J')<0 by lia)];rfl
theorem yI{a:M'}(c:a<=b)(d:b<=x.length):(gx x (O (a:J')) (O (b:J'))).cps.toList=(x.cps.toList.drop a).take (b-a):=by
 unfold gx;have e:=StrLaws.sliced_plain x c d;by_cases q:((Tn (O (a:J')) (O (b:J')) 1 x.length).length==x.length)=T'
 ·rw[KF q];rw[Yv c d,AC,Ue]at q;have z:=eq_of_beq q
  have f:a=0:=by lia
  have bl:b=x.length:=by lia
  subst f bl;rw[Vk,Z2];exact(Tp (by rw[SG];exact B9 _)).symm
 ·rw[GM q,e]
def Af{a:M'}(b:a<=x.length):(gx x (O (a:J')) Y).cps.toList=x.cps.toList.drop a:=by
 have e:gx x (O (a:J')) Y=gx x (O (a:J')) (O (x.length:J')):=by
  unfold gx;rw[StrLaws.sliceIdx_none_hi]
 rw[e,yI b (B9 _)];exact Tp (by rw[Ta,SG];exact B9 _)
theorem Lj(h:n<0):gx (nS n) (O 1) Y=nS (n.natAbs:J'):=by
 obtain⟨m,rfl⟩:∃m:M',n= -((m+1:M'):J'):=⟨n.natAbs-1,aB⟩;have a:=yY m;refine pT ?_
 rw[show(O 1:O' J')=O ((1:M'):J')from U,Af (by
  show 1<=(nS (-((m+1:M'):J'))).cps.size;rw[<-SG,a,Da]
  lia),a,List.drop_one,List.tail_cons,show(-((m+1:M'):J')).natAbs=m+1 by lia]
noncomputable def eM(ws:L (L Z)):D:= .tup (ws.map λw=> .tup (w.map D.str))
def Hz(ws:L (L Z)):Prop:=ws.length<=100/\∀w∈ws,w≠[]/\w.length<=100/\∀x∈w,1<=x.length/\x.length<=100/\32∉x.cps.toList/\124∉x.cps.toList
def join_eq(y:Z)(a:L Z):Sr y a=Tr y a:=StrLaws.glued_eq_join y a
def FL(a:L Z)(c:M')(b:c≠124)(h:∀x∈a,c∉x.cps.toList):c∉(Sr "|" a).cps.toList:=by
 rw[join_eq,join_list]
 induction a with
 |nil=>exactλz=>nomatch z
 |cons p r d=>
  cases r with
  |nil=>exact h p De
  |cons q r=>
   intro z;have z:c∈p.cps.toList++(("|":Z).cps.toList++eX ("|":Z).cps.toList ((q::r).map λp=>p.cps.toList)):=z
   rcases Os.mp z with z|z
   ·exact h p De z
   ·rcases Os.mp z with z|z
    ·have e:("|":Z).cps.toList=[124]:=U;rw[e]at z;exact b (Dk.mp z)
    ·exact d (λx f=>h x (Fk _ f)) z
def yt(h:Hz ws)(a:ws≠[]):So (pU ws) " "=ws.map (Sr "|"):=by
 unfold pU;rw[join_eq];refine fN (c:=32) (t:=[]) U bf (λe=>a (abA.mp e)) λp b=>?_;obtain⟨w,d,rfl⟩:=Su.mp b;exact FL w 32 bp λx f=>((h.2 w d).2.2 x f).2.2.1
def zz{w:L Z}(a:w≠[])(h:∀x∈w,124∉x.cps.toList):So (Sr "|" w) "|"=w:=by
 rw[join_eq];exact fN (c:=124) (t:=[]) U bf a h
theorem join_le{a:L Z}{p:Z}(h:p∈a):p.length<=(Sr y a).length:=by
 rw[join_eq,<-eU,<-eU,join_list]
 induction a with
 |nil=>cases h
 |cons q r b=>
  cases r with
  |nil=>
   rw[Dk.mp h];exact B9 _
  |cons c r=>
   show p.cps.toList.length<=(q.cps.toList++(y.cps.toList++eX y.cps.toList ((c::r).map λp=>p.cps.toList))).length;rw[B3,B3]
   rcases PP.mp h with rfl|h
   ·lia
   ·have :=b h
    lia
noncomputable def Hf(z:Z):Tq:=decide (0+("-":Z).length<=z.length)&&abk z "-" 0
noncomputable def iw(z:Z):Z:=if Hf z=T' then gx z (O 1) Y else z
noncomputable def aU(z:Z):O' J':=if 1<=(iw z).length/\(iw z).length<=7/\(iw z).cps.toList.all EF=T' then Xr z else Y
def eL{p:Z}(h:p∈So z y):p.length<=z.length:=by
 have :=join_le (y:=y) h;rw[join_eq,aaT]at this;exact this
def IY:EF c=T'↔48<=c/\c<=57:=by
 unfold EF;show((!decide ([c]<[48]))&& !decide ([57]<[c]))=T'↔_;simp[aak]
def E4(z:Z):(gx z (O 1) Y).length<=z.length:=kX _ _ _
theorem Gd(h:1<=(iw z).length/\(iw z).length<=7/\(iw z).cps.toList.all EF=T'):∃n,Xr z=O n/\z.length<=8:=by
 obtain⟨i,g,b⟩:=h;have b:∀c∈(iw z).cps.toList,48<=c/\c<=57:=λc l=>IY.mp (UW.mp b c l);unfold iw at i g b;by_cases q:Hf z=T'
 ·rw[KF q]at i g b;have q:=q;unfold Hf at q;rw[Tw,abu]at q;have o:1<=z.length:=Pv q.1;have f:=eq_of_beq q.2;rw[show(O 1:O' J')=O ((1:M'):J')from U]at i g b;have d:=Af (x:=z) (a:=1) o;have j:("-":Z).cps.toList=[45]:=U;have ln:("-":Z).length=1:=U;rw[j,ln,Vk]at f
  cases e:z.cps.toList with
  |nil=>rw[e]at f;cases f
  |cons c r=>
   rw[e]at f d
   have m:c=45:=by injection f
   subst m;have d:(gx z (O ((1:M'):J')) Y).cps.toList=r:=d;rw[d]at b
   have k:r.length=(gx z (O ((1:M'):J')) Y).length:=by rw[<-d,eU]
   have p:z.length=r.length+1:=by rw[<-eU,e];rfl
   exact⟨_,aba e b (λz=>by rw[z]at k;have :(0:M')=_:=k;lia) aB,aB⟩
 ·rw[GM q]at i g b;exact⟨_,PySem.intText_digits b (λw=>by have :=eU z;rw[w]at this;have :(0:M')=z.length:=this;lia) aB,aB⟩
inductive Jk(CN:B4)(vs:L V)(H:Hp)(Q:VK)(E:XK):Prop
 |mk (z:Z) (c0:vs=[.str z]) (c1:z.length<=100000) (c2:(∀n,aU z=O n->∀H',aa H H'->Q (.int n) H')) (c3:(aU z=Y->∀H',aa H H'->E (.ref CN) Y H'))
def nJ(CN:B4):Sp:=λa H Q E=>Jk CN a H Q E
inductive Dd(CN:B4)(vs:L V)(H:Hp)(Q:VK)(E:XK):Prop
 |mk (z y:Z) (m:J') (c0:vs=[.str z,.str y,.int m]) (c1:(y.length==0)=F') (c2:z.length<=99000) (c3:(((So z y).length:J')=m->∀(l:B4)(H':Hp),aa H H'->H' l=O (.lst ((So z y).map V.str))->Q (.ref l) H')) (c4:(¬((So z y).length:J')=m->∀H',aa H H'->E (.ref CN) Y H'))
def rJ(CN:B4):Sp:=λa H Q E=>Dd CN a H Q E
section
variable{K:B0}
abbrev mK:L Z:=["text","figures"]
def lj:ay mK ["text"] (aj iD):=dH
theorem rP(S:T4 K CN gM "ValueError.__new__"=T')(D:mg "NoTree"=O (.ref CN))(J:Td K (.ref CN)=T')(T:pH K mg tk ad)(F:c_ K "number_read" "number_read" iD f fd)(N:aQ mg):aS P w K mg B' (cu P w) 1 f fd ["text"] (nJ CN):=by
 refine F.rb (k:=0) lj λC' A X s H vs Q E hr h=>?_
 ·obtain⟨z,e,r,M,b⟩:=h;subst e
  refine⟨_,ah (pz 1 lj.nd (E_ (b_ (bY Pi PySem.F.slot_str_startswith PySem.F.type_str_startswith sT (pv 0) (aN ak))) (dn ph (pv 0) (eu af) eH) (pv 0)))
   (ah (aO (fL (cn (xO gi gi af (aI dE (by rfl) N.len Tc (aN (pv 1))) (aV (v:= .int 7) (by rfl) T.cFIGURES_MOST ⟨_,U⟩)) (bU (b_ (aI (fT U) (by rfl) N.all Ug (aN (dQ (br (fs:=aj iD) (N:=mK) U U bf) U (zh (pv 1)) (λ_ _ _ _ _=>cv) (λ_ _ _ _ _=>(iv vk vk ak (pv 0) ak)))))))).pt) (ai (ia S (by rfl) D J)) aD)
   (ai (ar (aM uC (by rfl) N.int aah (aN (pv 0)))))),?_⟩
  try rw[cA]
  refine aq λi g=>?_
  have a:i [O (.str z),O (.str (iw z))] H:=g _ _ (by
   clear g i
   have B:(iw z).length<=100000:=by
    unfold iw
    split
    ·exact Tf (E4 z) r
    ·exact r
   refine aq λi g=>?_
   have q:(iw z).cps.toList.length<=100000:=by rw[SG];exact B
   refine⟨_,U,_,U,az B,_,_,U,U,_,U,fJ (λj=>?_) λj=>?_⟩
   ·refine⟨_,_,U,U,_,U,fJ (λm=>?_) λm=>?_⟩
    ·refine⟨_,U,_,U,uu (α:=M') (l:=(iw z).cps.toList) (λc=>V.str ⟨#[c]⟩) (λ_=>T') (λc=> .bl (EF c)) (iJ.str _ H) (small q) (λc p I _ _ o=>o _ (aa.refl _)) (λc p I _ _ _ o=>?_) λR H1 hD C G=>?_⟩
     ·refine⟨_,U,_,_,U,U,_,U,fJ (λy=>?_) (λy=>?_)⟩
      ·refine⟨_,_,U,U,?_⟩;have z:=o p (aa.refl _);unfold EF at z;rw[y,XR]at z;exact z
      ·have z:=o p (aa.refl _);unfold EF at z;rw[Vp.mpr y,Bool.false_and]at z;exact z
     refine⟨R,(iw z).cps.toList.map EF,U,bu.of (by rw[G,U7.mpr λ_ _=>U,SN];rfl),?_⟩;rw[Wl];show RI _ (V.bl ((iw z).cps.toList.all EF)) _;have j:=Pv j;have m:=Pv m
     cases t:(iw z).cps.toList.all EF with
     |true=>
      have d:1<=(iw z).length/\(iw z).length<=7/\(iw z).cps.toList.all EF=T':=⟨aB,aB,t⟩;obtain⟨n,x,l8⟩:=Gd d;refine⟨_,U,bW ?_⟩;refine g _ _ ?_;clear g i;exact⟨_,U,_,n,U,aB,x,M n (by unfold aU;rw[KF d];exact x) H1 C⟩
     |false=>
      refine⟨_,U,dJ ?_⟩;exact b (by unfold aU;rw[GM (λu=>by rw[t]at u;cases u.2.2)]) H1 C
    ·exact dJ (b (by unfold aU;rw[GM (λu=>m (FB aB))]) H (aa.refl _))
   ·exact⟨_,U,bW (dJ (b (by unfold aU;rw[GM (λu=>j (FB aB))]) H (aa.refl _)))⟩)
  clear g;refine⟨_,U,U,_,_,U,U,_,U,?_⟩;unfold iw Hf at a;refine fJ (λd=>?_) (λd=>?_)
  ·rw[KF d]at a;exact⟨_,U,_,U,_,U,az r,a⟩
  ·rw[GM d]at a;exact⟨_,U,a⟩
abbrev vY:L Z:=["text","sign","many","fields"]
def lu:ay vY ["text","sign","many"] (aj jU):=dH
theorem q_(r:T4 K CN gM "ValueError.__new__"=T')(t:mg "NoTree"=O (.ref CN))(o:Td K (.ref CN)=T')(F:c_ K "fields_read" "fields_read" jU f fd)(N:aQ mg):aS P w K mg B' (cu P w) 1 f fd ["text","sign","many"] (rJ CN):=by
 refine F.rb (k:=0) lu λx A v s H D Q E C h=>?_
 ·obtain⟨z,y,m,e,c,B,p,g⟩:=h;subst e
  refine⟨_,ah (pz 3 lu.nd (bY Pi UL UK iS (pv 0) (aN (pv 1))))
   (ah (aO (HU (aI bM (by rfl) N.len Tc (aN (pv 3))) (pv 2)) (ai (ia r (by rfl) t o)) aD)
   (ai (ar (pv 3)))),?_⟩
  try rw[cA]
  refine aq λb a=>?_;refine⟨_,U,U,_,U,z,y,U,U,c,az aB,λl n=>?_⟩;generalize d:upd H l _=H1
  have i:aa H H1:=by rw[<-d];exact aa.put (aa.refl _) n
  have j:H1 l=O (.lst ((So z y).map V.str)):=by rw[<-d];exact ag
  clear d;refine a _ _ (aq λb a=>?_);refine⟨_,U,l,_,U,.inl (bu.of j),_,U,U,_,U,?_⟩;rw[AC];by_cases q:((So z y).length:J')=m
  ·refine bT (by rw[q,FB U];rfl) ?_;refine a _ _ ?_;clear a b;exact⟨_,U,p q l H1 i j⟩
  ·refine gm (by rw[GT (λu=>q (by injection u))];rfl) ?_;exact g q H1 i
end
section
variable{p q r:Prop}
def ie(a:wY tt σ H p)(j:¬p)(c:qf ts σ H r):qf (Es (xx tt (sf ta) rz) ts) σ H r:=λH1 D0 s y n=>a H1 _ s (λg=>KB g j) λ_ i e=>bW (c i D0 (aa.trans s e) (λh b d=>y h b (aa.trans e d)) λf b d=>n f b (aa.trans e d))
def qz(a:wY tt σ H p)(f:p)(b:oB ta σ H q):qf (Es (xx tt (sf ta) rz) ts) σ H q:=λH1 D0 s y n=>a H1 _ s (λ_ i e=>dJ (b i _ (aa.trans s e) (λh c d=>y h c (aa.trans e d)) λg c d=>n g c (aa.trans e d))) λj=>KB f j
end
def Oe(x:Z):Prop:=(1<=x.length/\x.length<=12)/\Vx x
def Ly(w:L Z):Prop:=(1<=w.length/\w.length<=6)/\∀x∈w,Oe x
def LK(ws:L (L Z)):Prop:=(∀w∈ws,Ly w)/\(ws.map λw=>(w.length:J')).sum<=60
def Cw:aX->M'->Prop
 | .words ws j,n=>n=0/\LK ws/\0<=j/\j<=999
 | .flow a ws j,n=>n<=12/\a.length=n/\(∀s∈a,Vs s)/\LK ws/\0<=j/\j<=999
 |wh,n=>Vw wh n
def Qz(ws:L (L Z)):Prop:=ws.length<=100000/\∀w∈ws,w.length<=100000/\∀x∈w,x.length<=100000
def Sz:aX->Prop
 | .lined _ _ e b=>e.length<=100000/\b.length<=100000
 | .table _ _ b c=>c.length<=100000/\b.length<=100000
 | .words ws _=>Qz ws
 | .flow a ws _=>(a.length<=100000/\Qz ws)/\∀s∈a,s.length<=100000
 | .over d=>d.length<=100000/\∀p∈d,p.1.1.length<=100000/\p.2.1.length<=100000
 | .leaf _ _=>WJ
def cInt(v:V)(_:Hp)(p:Prop):Prop:=(∃i,v= .int i)/\p=WJ
def wL(v u x:V)(_:Hp)(p:Prop):Prop:=∃i m n:J',v= .int i/\u= .int m/\x= .int n/\p=(m<=i/\i<=n)
def lP(v u:V)(H:Hp)(p:Prop):Prop:=∃(a:B4)(xs:L V)(m:J'),v= .ref a/\u= .int m/\H a=O (.tup xs)/\p=((xs.length:J')=m)
def JM(n:J')(v:V)(_:Hp)(p:Prop):Prop:=∃i,v= .int i/\p=(0<=i/\i<=n)
def Qp(v:V)(H:Hp)(p:Prop):Prop:=∃a x y,v= .ref a/\H a=O (.tup [.int x,.int y])/\p=Vr x y
def OZ(v:V)(H:Hp)(p:Prop):Prop:=∃a o,v= .ref a/\kr H a o/\p=Vo o
def OH(v:V)(H:Hp)(p:Prop):Prop:=∃(a:B4)(q:Z×J'),v= .ref a/\H a=O (.tup [.str q.1,.int q.2])/\p=Va q
def yn(H:Hp)(a:B4)(q:(Z×J')×(Z×J')):Prop:=∃b c:B4,H a=O (.tup [.ref b,.ref c])/\H b=O (.tup [.str q.1.1,.int q.1.2])/\H c=O (.tup [.str q.2.1,.int q.2.2])
def PN(v:V)(H:Hp)(p:Prop):Prop:=∃(a:B4)(q:(Z×J')×(Z×J')),v= .ref a/\yn H a q/\p=(Va q.1/\Va q.2)
def Og(v:V)(_:Hp)(p:Prop):Prop:=∃c:M',v= .str ⟨#[c]⟩/\p=Ld c
def Pg(v:V)(_:Hp)(p:Prop):Prop:=∃x:Z,v= .str x/\x.length<=100000/\p=Oe x
def OG(v:V)(H:Hp)(p:Prop):Prop:=∃(a:B4)(ws:L Z),v= .ref a/\H a=O (.tup (dC ws))/\ws.length<=100000/\(∀x∈ws,x.length<=100000)/\p=Ly ws
def Rw(v:V)(H:Hp)(p:Prop):Prop:=∃(a:B4)(ws:L (L Z)),v= .ref a/\rT H a ws/\Qz ws/\p=LK ws
def Qi(v u:V)(H:Hp)(p:Prop):Prop:=∃(a:B4)(b:L Z)(n:M'),v= .ref a/\u= .int (n:J')/\H a=O (.tup (dC b))/\b.length<=100000/\p=(b.length=n/\∀s∈b,Vs s)
def ER(f:aX->Prop)(v u:V)(H:Hp)(p:Prop):Prop:=∃(q:B4)(a:aX)(n:M'),v= .ref q/\u= .int (n:J')/\d_ H q a/\Sz a/\f a/\p=Cw a n
def Lx(v u x:V)(H:Hp)(p:Prop):Prop:=∃(q:B4)(a:aX)(n:M'),v= .str a.kd/\u= .ref q/\x= .int (n:J')/\d_ H q a/\Sz a/\p=Cw a n
def Cb(a:dV)(n:M'):Prop:=Vn a.nm/\Vo a.own/\Cw a.wh n
def Qr(v:V)(H:Hp)(p:Prop):Prop:=∃(a:B4)(b:dV)(ts:L B4),v= .ref a/\Fo.lh H a b ts/\Sz b.wh/\b.nm.length<=100000/\p=Cb b ts.length
def Qy(v u:V)(H:Hp)(p:Prop):Prop:=∃(a:B4)(q:J'×J')(c:J'),v= .ref a/\u= .int c/\H a=O (.tup (jv q))/\p=((1<=q.1/\q.1<=c)/\1<=q.2/\q.2<=12)
def RH(v:V)(_:Hp)(p:Prop):Prop:=∃x:Z,v= .str x/\x.length<=100000/\p=Vn x
def LX(ws:L Z)(v:V)(_:Hp)(p:Prop):Prop:=∃x,v= .str x/\p=(x∈ws)
def By{n:M'}{m:J'}:V.int (n:J')=V.int m↔(n:J')=m:=⟨λh=>by injection h,λh=>by rw[h]⟩
def rQ:s∈(Zr:L Z)↔Vs s:=by unfold Vs;simp
def LY(k:M')(g:J')(b a:Z):(aX.lined k g b a).kd∈(Ze:L Z):=by
 match k with
 |0=>exact De
 |1=>exact Fk _ De
 |k+2=>exact Fk _ (Fk _ De)
def K4(c:M'):((!decide ((⟨#[c]⟩:Z).cps.toList<("a":Z).cps.toList))=T'/\(!decide (("z":Z).cps.toList<(⟨#[c]⟩:Z).cps.toList))=T')↔97<=c/\c<=122:=by
 show((!decide ([c]<[97]))=T'/\(!decide ([122]<[c]))=T')↔_;simp[aak]
section
variable{K:B0}
noncomputable abbrev K5:L Z:=Za
def Gj:ay K5 Za (aj qA):=dH
def C9(F:c_ K "is_whole" "is_whole" qA f fd)(N:aQ mg):aS P w K mg B' dz 1 f fd Za (dO cInt):=by
 refine F.fb Gj λj A c s H k Q E g h=>?_
 ·obtain⟨v,p,e,a,b,d⟩:=h;subst e;refine⟨_,ai (ar (bC (aI cU (by rfl) N.inst Sw (bO (pv 0) (fF (v:= .ty "int") (by rfl) N.int aah U bp))) (cI (GX (aI cU (by rfl) N.inst Sw (bO (pv 0) (fF (v:= .ty "bool") (by rfl) N.bool PyProof.Rows.boot_bool U bp))))))),?_⟩
  try rw[cA]
  obtain⟨⟨i,rfl⟩,rfl⟩:=a;exact⟨_,U,_,"int",_,_,U,.int i,U,_,U,dJ ⟨_,U,_,"bool",_,_,U,.int i,U,_,U,b trivial H (aa.refl _)⟩⟩
abbrev DH:L Z:=["thing","least","most"]
def zP:ay DH ["thing","least","most"] (aj lN):=dH
def xw(F:c_ K "is_between" "is_between" lN f fd)(N:aQ mg)(g:Cl P w K mg B' 1 (dO cInt) "is_whole"):aS P w K mg B' dz 2 f fd ["thing","least","most"] (rX wL):=by
 refine F.fb zP λk A j s H l Q E d h=>?_
 ·obtain⟨v,u,x,p,e,a,b,c⟩:=h;subst e;refine⟨_,ai (ar (bC (pq g d (aN (pv 0))) (cI (iv gi gi (pv 1) (pv 0) (pv 2))))),?_⟩
  try rw[cA]
  obtain⟨i,m,n,rfl,rfl,rfl,rfl⟩:=a;exact((cJ (cO (nu (v_var U) λ_ _=>⟨⟨i,U⟩,U⟩) λ_=>uc (v_var U) (v_var U) (v_var U))).iff ⟨W1,λh=>⟨trivial,h⟩⟩).go b c
noncomputable abbrev EE:L Z:=Zj
def zt:ay EE Zj (aj lB):=dH
def xI(F:c_ K "is_tuple_of" "is_tuple_of" lB f fd)(N:aQ mg):aS P w K mg B' dz 1 f fd Zj (fc lP):=by
 refine F.fb zt λk A i s H l Q E j h=>?_
 ·obtain⟨v,u,p,e,c,d,g⟩:=h;subst e;refine⟨_,ai (ar (bC (aI cU (by rfl) N.inst Sw (bO (pv 0) (fF (v:= .ty "tuple") (by rfl) N.tuple SD U bp))) (cI (dA lT (aI bM (by rfl) N.len Tc (aN (pv 0))) (pv 1) (bB _))))),?_⟩
  try rw[cA]
  obtain⟨a,xs,m,rfl,rfl,b,rfl⟩:=c;exact((cJ (cO (AK (v_var U) b) λ_=>jH (G0 (v_var U) b) (v_var U) U)).iff ⟨λh=>By.mp h.2,λh=>⟨trivial,By.mpr h⟩⟩).go d g
noncomputable abbrev MZ:L Z:=Za
def KY:ay MZ Za (aj uO):=dH
def HE(c:pH K mg tk ad)(F:c_ K "is_size" "is_size" uO f fd)(N:aQ mg)(j:Cl P w K mg B' 2 (rX wL) "is_between"):aS P w K mg B' dz 3 f fd Za (dO (JM 1000000)):=by
 refine F.fb KY λl A k s H m Q E g h=>?_
 ·obtain⟨v,p,e,a,b,d⟩:=h;subst e;refine⟨_,ai (ar (pq j g (gh (pv 0) af (aV (v:= .int 1000000) (by rfl) c.cSIZE_MOST ⟨_,U⟩)))),?_⟩
  try rw[cA]
  obtain⟨i,rfl,rfl⟩:=a;exact(cJ (ES (v_var U) eK eK λ_ _=>⟨i,_,_,U,U,U,U⟩)).go b d
noncomputable abbrev Pj:L Z:=Za
def NG:ay Pj Za (aj zE):=dH
def IS(c:pH K mg tk ad)(F:c_ K "is_gap" "is_gap" zE f fd)(N:aQ mg)(j:Cl P w K mg B' 2 (rX wL) "is_between"):aS P w K mg B' dz 3 f fd Za (dO (JM 1000)):=by
 refine F.fb NG λl A k s H m Q E g h=>?_
 ·obtain⟨v,p,e,a,b,d⟩:=h;subst e;refine⟨_,ai (ar (pq j g (gh (pv 0) af (aV (v:= .int 1000) (by rfl) c.cGAP_MOST ⟨_,U⟩)))),?_⟩
  try rw[cA]
  obtain⟨i,rfl,rfl⟩:=a;exact(cJ (ES (v_var U) eK eK λ_ _=>⟨i,_,_,U,U,U,U⟩)).go b d
noncomputable abbrev Jp:L Z:=Za
def Hx:ay Jp Za (aj rS):=dH
def Cm(c:pH K mg tk ad)(F:c_ K "is_joint" "is_joint" rS f fd)(N:aQ mg)(j:Cl P w K mg B' 2 (rX wL) "is_between"):aS P w K mg B' dz 3 f fd Za (dO (JM 999)):=by
 refine F.fb Hx λl A k s H m Q E g h=>?_
 ·obtain⟨v,p,e,a,b,d⟩:=h;subst e;refine⟨_,ai (ar (pq j g (gh (pv 0) af (aV (v:= .int 999) (by rfl) c.cJOINT_MOST ⟨_,U⟩)))),?_⟩
  try rw[cA]
  obtain⟨i,rfl,rfl⟩:=a;exact(cJ (ES (v_var U) eK eK λ_ _=>⟨i,_,_,U,U,U,U⟩)).go b d
noncomputable abbrev Gb:L Z:=Za
def CH:ay Gb Za (aj nH):=dH
theorem zp(F:c_ K "is_bounds" "is_bounds" nH f fd)(N:aQ mg)(o:Cl P w K mg B' 1 (fc lP) "is_tuple_of")(k:Cl P w K mg B' 3 (dO (JM 1000000)) "is_size"):aS P w K mg B' dz 4 f fd Za (dO Qp):=by
 refine F.fb CH λr A q s H t Q E i h=>?_
 ·obtain⟨v,p,e,l,m,n⟩:=h;subst e;refine⟨_,ai (ar (bC (pq o i (bO (pv 0) af)) (bC (pq k i (aN (cy (pv 0) af))) (bC (pq k i (aN (cy (pv 0) af))) (cI (dA gi (cy (pv 0) af) (cy (pv 0) af) (bB _))))))),?_⟩
  try rw[cA]
  obtain⟨a,x,y,rfl,b,rfl⟩:=l;exact((cJ (cO (oZ (v_var U) eK λ_ s=>⟨a,_,_,U,U,s _ _ b,U⟩) λ_=>cO (nu (fv (j:=0) (v_var U) b U) λ_ _=>⟨x,U,U⟩) λ_=>cO (nu (fv (j:=1) (v_var U) b U) λ_ _=>⟨y,U,U⟩) λ_=>JD (fv (j:=0) (v_var U) b U) (fv (j:=1) (v_var U) b U))).iff ⟨λ⟨_,c,g,d⟩=>⟨c.1,d,g.2⟩,λ⟨c,g,d⟩=>⟨U,⟨c,aB⟩,⟨aB,d⟩,g⟩⟩).go m n
noncomputable abbrev Pq:L Z:=Za
def NZ:ay Pq Za (aj ze):=dH
def Jt(g:pH K mg tk ad)(F:c_ K "is_own" "is_own" ze f fd)(N:aQ mg)(D:Cl P w K mg B' 1 (fc lP) "is_tuple_of")(r:Cl P w K mg B' 4 (dO Qp) "is_bounds")(d:Cl P w K mg B' 2 (rX wL) "is_between"):aS P w K mg B' dz 5 f fd Za (dO OZ):=by
 refine F.fb NZ λI A G s H J Q E b h=>?_
 ·obtain⟨v,p,e,x,y,B⟩:=h;subst e
  refine⟨_,ah (aO (fL (cn (b_ (pq D b (bO (pv 0) af))) (cn (b_ (pq r b (aN (cy (pv 0) af)))) (bU (b_ (pq r b (aN (cy (pv 0) af))))))).pt) (ai (ar fj)) aD)
   (ah (aO (fL (cn (b_ (pq d b (gh (cy (pv 0) af) af (aV (v:= .int 99) (by rfl) g.cWEIGHT_MOST ⟨_,U⟩)))) (bU (b_ (pq d b (gh (cy (pv 0) af) af (aV (v:= .int 99) (by rfl) g.cWEIGHT_MOST ⟨_,U⟩)))))).pt) (ai (ar fj)) aD)
   (ai (ar (bC (pq d b (gh (cy (pv 0) af) af (aV (v:= .int 9) (by rfl) g.cRANK_MOST ⟨_,U⟩))) (cI (pq d b (gh (cy (pv 0) af) af (aV (v:= .int 9) (by rfl) g.cALIKE_MOST ⟨_,U⟩)))))))),?_⟩
  try rw[cA]
  obtain⟨a,o,rfl,⟨u,t,c,z,C⟩,rfl⟩:=x
  exact((fB (gB (dy (oZ (v_var U) eK λ_ s=>⟨a,_,_,U,U,s _ _ c,U⟩)) λ_=>gB (dy (nu (fv (j:=0) (v_var U) c U) λ_ s=>⟨u,_,_,U,s _ _ z,U⟩)) λ_=>dy (nu (fv (j:=1) (v_var U) c U) λ_ s=>⟨t,_,_,U,s _ _ C,U⟩)) λ_=>
   fB (gB (dy (ES (fv (j:=2) (v_var U) c U) eK eK λ_ _=>⟨_,_,_,U,U,U,U⟩)) λ_=>dy (ES (fv (j:=3) (v_var U) c U) eK eK λ_ _=>⟨_,_,_,U,U,U,U⟩)) λ_=>
   cJ (cO (ES (fv (j:=4) (v_var U) c U) eK eK λ_ _=>⟨_,_,_,U,U,U,U⟩) λ_=>ES (fv (j:=5) (v_var U) c U) eK eK λ_ _=>⟨_,_,_,U,U,U,U⟩)).iff ⟨λ⟨⟨_,i,l⟩,⟨k,q⟩,n,m⟩=>⟨i,l,k,q,n,m⟩,λ⟨i,l,k,q,n,m⟩=>⟨⟨U,i,l⟩,⟨k,q⟩,n,m⟩⟩).go y B
noncomputable abbrev Mv:L Z:=Za
def Jm:ay Mv Za (aj vQ):=dH
def FV(a:pH K mg tk ad)(F:c_ K "is_side" "is_side" vQ f fd)(N:aQ mg):aS P w K mg B' dz 1 f fd Za (dO (LX Zr)):=by
 refine F.fb Jm λj A g s H k Q E i h=>?_
 ·obtain⟨v,p,e,b,c,d⟩:=h;subst e;refine⟨_,ai (ar (bC (aI cU (by rfl) N.inst Sw (bO (pv 0) (fF (v:= .ty "str") (by rfl) N.str On U bp))) (cI (dA (r:=yL K F') dj (pv 0) (aV (v:= .ref (ad 1)) (by rfl) a.tSIDES U) (by rfl))))),?_⟩
  try rw[cA]
  obtain⟨x,rfl,rfl⟩:=b;exact((cJ (cO (xP (v_var U)) λ_=>sQ (v_var U) eK a.sSIDES)).iff ⟨W1,λh=>⟨trivial,h⟩⟩).go c d
noncomputable abbrev J_:L Z:=Za
def EZ:ay J_ Za (aj qQ):=dH
def Ea(a:pH K mg tk ad)(F:c_ K "is_align" "is_align" qQ f fd)(N:aQ mg):aS P w K mg B' dz 1 f fd Za (dO (LX ["start","end","mid","mid2"])):=by
 refine F.fb EZ λj A g s H k Q E i h=>?_
 ·obtain⟨v,p,e,b,c,d⟩:=h;subst e;refine⟨_,ai (ar (bC (aI cU (by rfl) N.inst Sw (bO (pv 0) (fF (v:= .ty "str") (by rfl) N.str On U bp))) (cI (dA (r:=yL K F') dj (pv 0) (aV (v:= .ref (ad 3)) (by rfl) a.tALIGNS U) (by rfl))))),?_⟩
  try rw[cA]
  obtain⟨x,rfl,rfl⟩:=b;exact((cJ (cO (xP (v_var U)) λ_=>sQ (v_var U) eK a.sALIGNS)).iff ⟨W1,λh=>⟨trivial,h⟩⟩).go c d
noncomputable abbrev vv:L Z:=Za
def sI:ay vv Za (aj iN):=dH
def qx(a:pH K mg tk ad)(F:c_ K "is_anchor_word" "is_anchor_word" iN f fd)(N:aQ mg):aS P w K mg B' dz 1 f fd Za (dO (LX ["start","mid","mid2","end"])):=by
 refine F.fb sI λj A g s H k Q E i h=>?_
 ·obtain⟨v,p,e,b,c,d⟩:=h;subst e;refine⟨_,ai (ar (bC (aI cU (by rfl) N.inst Sw (bO (pv 0) (fF (v:= .ty "str") (by rfl) N.str On U bp))) (cI (dA (r:=yL K F') dj (pv 0) (aV (v:= .ref (ad 0)) (by rfl) a.tANCHOR_WORDS U) (by rfl))))),?_⟩
  try rw[cA]
  obtain⟨x,rfl,rfl⟩:=b;exact((cJ (cO (xP (v_var U)) λ_=>sQ (v_var U) eK a.sANCHOR_WORDS)).iff ⟨W1,λh=>⟨trivial,h⟩⟩).go c d
noncomputable abbrev IB:L Z:=Za
def DC:ay IB Za (aj oa):=dH
def Ag(i:pH K mg tk ad)(F:c_ K "is_anchor" "is_anchor" oa f fd)(N:aQ mg)(r:Cl P w K mg B' 1 (fc lP) "is_tuple_of")(k:Cl P w K mg B' 1 (dO (LX ["start","mid","mid2","end"])) "is_anchor_word")(m:Cl P w K mg B' 2 (rX wL) "is_between"):aS P w K mg B' dz 3 f fd Za (dO OH):=by
 refine F.fb DC λu A t s H x Q E d h=>?_
 ·obtain⟨v,p,e,l,n,o⟩:=h;subst e
  refine⟨_,ah (aO (fL (b_ (pq r d (bO (pv 0) af)))) (ai (ar fj)) aD)
   (ai (ar (bC (pq k d (aN (cy (pv 0) af))) (cI (pq m d (gh (cy (pv 0) af) (OK Ms (aV (v:= .int 1000000) (by rfl) i.cANCHOR_FARTHEST ⟨_,U⟩)) (aV (v:= .int 1000000) (by rfl) i.cANCHOR_FARTHEST ⟨_,U⟩))))))),?_⟩
  try rw[cA]
  obtain⟨a,q,rfl,g,rfl⟩:=l;exact((fB (dy (oZ (v_var U) eK λ_ s=>⟨a,_,_,U,U,s _ _ g,U⟩)) λ_=>cJ (cO (nu (fv (j:=0) (v_var U) g U) λ_ _=>⟨_,U,U⟩) λ_=>ES (fv (j:=1) (v_var U) g U) (Oo eK) eK λ_ _=>⟨_,_,_,U,U,U,U⟩)).iff ⟨λ⟨_,b,c⟩=>⟨by simpa using b,c⟩,λ⟨b,c⟩=>⟨U,by simpa using b,c⟩⟩).go n o
noncomputable abbrev uF:L Z:=Za
def sv:ay uF Za (aj iM):=dH
def qO(F:c_ K "is_anchor_pair" "is_anchor_pair" iM f fd)(N:aQ mg)(r:Cl P w K mg B' 1 (fc lP) "is_tuple_of")(i:Cl P w K mg B' 3 (dO OH) "is_anchor"):aS P w K mg B' dz 4 f fd Za (dO PN):=by
 refine F.fb sv λu A t s H x Q E d h=>?_
 ·obtain⟨v,p,e,k,l,o⟩:=h;subst e;refine⟨_,ai (ar (bC (pq r d (bO (pv 0) af)) (bC (pq i d (aN (cy (pv 0) af))) (cI (pq i d (aN (cy (pv 0) af))))))),?_⟩
  try rw[cA]
  obtain⟨a,q,rfl,⟨b,c,g,m,n⟩,rfl⟩:=k;exact((cJ (cO (oZ (v_var U) eK λ_ s=>⟨a,_,_,U,U,s _ _ g,U⟩) λ_=>cO (nu (fv (j:=0) (v_var U) g U) λ_ s=>⟨b,q.1,U,s _ _ m,U⟩) λ_=>nu (fv (j:=1) (v_var U) g U) λ_ s=>⟨c,q.2,U,s _ _ n,U⟩)).iff ⟨W1,λh=>⟨U,h⟩⟩).go l o
abbrev Mz:L Z:=["sign","number"]
def AV:ay Mz ["sign"] (aj uV):=dH
theorem IC(a:pH K mg tk ad)(F:c_ K "is_sign" "is_sign" uV f fd)(N:aQ mg):aS P w K mg B' dz 1 f fd ["sign"] (dO Og):=by
 refine F.fb AV λr A o s H t Q E q h=>?_
 ·obtain⟨v,p,e,j,l,n⟩:=h;subst e
  refine⟨_,ah (pz 1 AV.nd (aI Fs (by rfl) N.ord PyProof.Rows.boot_ord (aN (pv 0))))
   (ai (ar (bC (iv gi gi (aV (v:= .int 33) (by rfl) a.cFIRST_SIGN ⟨_,U⟩) (pv 1) (aV (v:= .int 126) (by rfl) a.cLAST_SIGN ⟨_,U⟩)) (bC (dA BI (pv 1) (aV (v:= .int 37) (by rfl) a.cPERCENT_SIGN ⟨_,U⟩) (bB _)) (cI (dA BI (pv 1) (aV (v:= .int 124) (by rfl) a.cBAR_SIGN ⟨_,U⟩) (bB _))))))),?_⟩
  try rw[cA]
  obtain⟨c,rfl,rfl⟩:=j;refine aq λk g=>?_;refine⟨_,U,⟨#[c]⟩,U,U,?_⟩;rw[show((⟨#[c]⟩:Z).cps.getD 0 0)=c from U];refine g _ _ ?_;clear g k;refine((cJ (cO (uc eK (v_var U) eK) λ_=>cO (P6 (v_var U) eK U) λ_=>P6 (v_var U) eK U)).iff ⟨λ⟨⟨i,m⟩,b,d⟩=>⟨aB,aB,λz=>b (by rw[z];rfl),λz=>d (by rw[z];rfl)⟩,λ⟨i,m,b,d⟩=>⟨⟨aB,aB⟩,λz=>b (by injection z with z;lia),λz=>d (by injection z with z;lia)⟩⟩).go l n
noncomputable abbrev BE:L Z:=Za
def EW:ay BE Za (aj mz):=dH
theorem Er(j:pH K mg tk ad)(F:c_ K "is_piece" "is_piece" mz f fd)(N:aQ mg)(m:Cl P w K mg B' 1 (dO Og) "is_sign"):aS P w K mg B' dz 2 f fd Za (dO Pg):=by
 refine F.fb EW λq A n s H r Q E l h=>?_
 ·obtain⟨v,p,e,g,i,k⟩:=h;subst e;refine⟨_,ai (ar (bC (aI cU (by rfl) N.inst Sw (bO (pv 0) (fF (v:= .ty "str") (by rfl) N.str On U bp))) (bC (iv gi gi af (aI dE (by rfl) N.len Tc (aN (pv 0))) (aV (v:= .int 12) (by rfl) j.cPIECE_LONGEST ⟨_,U⟩)) (cI (aI (fT U) (by rfl) N.all Ug (aN (dQ (br (fs:=aj mz) (N:=BE) U U bf) U (zh (pv 0)) (λ_ _ _ _ _=>cv) (λ_ _ _ _ _=>(pq m l (aN (pv 0))))))))))),?_⟩
  try rw[cA]
  obtain⟨x,rfl,b,rfl⟩:=g;exact((cJ (cO (xP (v_var U)) λ_=>cO (uc eK (GQ (v_var U) b) eK) λ_=>Hy (f:=Ld) (v_var U) b λc o=>nu (v_var U) λ_ _=>⟨c,U,U⟩)).iff ⟨λ⟨_,d,a⟩=>⟨⟨aB,aB⟩,a⟩,λ⟨d,a⟩=>⟨trivial,⟨aB,aB⟩,a⟩⟩).go i k
noncomputable abbrev Io:L Z:=Za
def Ke:ay Io Za (aj pP):=dH
theorem Hl(l:pH K mg tk ad)(F:c_ K "is_word" "is_word" pP f fd)(N:aQ mg)(o:Cl P w K mg B' 2 (dO Pg) "is_piece"):aS P w K mg B' dz 3 f fd Za (dO OG):=by
 refine F.fb Ke λu A q s H B Q E n h=>?_
 ·obtain⟨v,p,e,b,k,m⟩:=h;subst e;refine⟨_,ai (ar (bC (aI cU (by rfl) N.inst Sw (bO (pv 0) (fF (v:= .ty "tuple") (by rfl) N.tuple SD U bp))) (bC (iv gi gi af (aI bM (by rfl) N.len Tc (aN (pv 0))) (aV (v:= .int 6) (by rfl) l.cWORD_PIECES ⟨_,U⟩)) (cI (aI (fT U) (by rfl) N.all Ug (aN (dQ (br (fs:=aj pP) (N:=Io) U U bf) U (gT (pv 0)) (λ_ _ _ _ _=>cv) (λ_ _ _ _ _=>(pq o n (aN (pv 0))))))))))),?_⟩
  try rw[cA]
  obtain⟨a,ws,rfl,g,t,i,rfl⟩:=b;have r:(dC ws).length=ws.length:=AC ..
  exact((cJ (cO (AK (v_var U) g) λ_=>cO (uc eK (G0 (v_var U) g) eK) λ_=>xE (f:=λv=>∃x,v=V.str x/\Oe x) (v_var U) g aB λv b=>by
   obtain⟨z,d,rfl⟩:=Su.mp b
   exact(nu (p:=Oe z) (v_var U) λ_ _=>⟨z,U,i z d,U⟩).iff ⟨λh=>⟨z,U,h⟩,λ⟨x,e,h⟩=>by injection e with e;rw[e];exact h⟩)).iff ⟨λ⟨_,j,c⟩=>⟨⟨aB,aB⟩,λx i=>by
    obtain⟨y,e,h⟩:=c (.str x) (TH i)
    injection e with e
    rw[e]
    exact h⟩,λ⟨j,c⟩=>⟨trivial,⟨aB,aB⟩,λv b=>by
    obtain⟨z,d,rfl⟩:=Su.mp b
    exact⟨z,U,c z d⟩⟩⟩).go k m
end
theorem oq:∀{v u:L Z},dC v=dC u->v=u
 |[],[],_=>rfl
 |[],_::_,h=>nomatch h
 |_::_,[],h=>nomatch h
 |x::v,y::u,h=>by
  injection h with a b
  injection a with a
  rw[a,oq b]
section
variable{K:B0}
noncomputable abbrev wb:L Z:=Za
def Hm:ay wb Za (aj jJ):=dH
theorem DS(W:pH K mg tk ad)(F:c_ K "is_words" "is_words" jJ f fd)(N:aQ mg)(M:Cl P w K mg B' 3 (dO OG) "is_word"):aS P w K mg B' dz 4 f fd Za (dO Rw):=by
 refine F.fb Hm λC' A X s H vs Q E k h=>?_
 ·obtain⟨v,p,e,o,R,J⟩:=h;subst e
  refine⟨_,ah (aO (fL (cn (b_ (aI cU (by rfl) N.inst Sw (bO (pv 0) (fF (v:= .ty "tuple") (by rfl) N.tuple SD U bp)))) (bU (b_ (aI (fT U) (by rfl) N.all Ug (aN (dQ (br (fs:=aj jJ) (N:=wb) U U bf) U (gT (pv 0)) (λ_ _ _ _ _=>cv) (λ_ _ _ _ _=>(pq M k (aN (pv 0)))))))))).pt) (ai (ar fj)) aD)
   (ai (ar (dA gi (aI (CA U) (by rfl) N.sum PyProof.Rows.boot_sum (aN (dQ (br (fs:=aj jJ) (N:=wb) U U bf) U (gT (pv 0)) (λ_ _ _ _ _=>cv) (λ_ _ _ _ _=>(aI (EK (K:=K) U) (by rfl) N.len Tc (aN (pv 0))))))) (aV (v:= .int 60) (by rfl) W.cWORDS_PIECES ⟨_,U⟩) (bB _)))),?_⟩
  try rw[cA]
  obtain⟨a,ws,rfl,⟨as,t,k⟩,⟨z1,C⟩,rfl⟩:=o;have y:=k.1;rw[AC]at y
  have l:∀(i:M')(c:B4),as[i]? =O c->∃v,ws[i]? =O v/\H c=O (.tup (dC v)):=λi c b=>by
   have e:=B2 (show i<ws.length by rw[<-y];exact cQ b);exact⟨_,e,k.2 i c _ b (by rw[B6,e];rfl)⟩
  have B:(∀x∈as.map V.ref,∃(c:B4)(i:M')(v:L Z),x= .ref c/\as[i]? =O c/\ws[i]? =O v/\Ly v)↔∀v∈ws,Ly v:=⟨λh v o=>by
    obtain⟨i,g⟩:=Tv o;obtain⟨c,b⟩:∃c,as[i]? =O c:=⟨_,B2 (by rw[y];exact cQ g)⟩;obtain⟨T,j,u,e,n,m,r⟩:=h (.ref c) (TH (Do b))
    cases e
    have I:=k.2 i c _ b (by rw[B6,g];rfl);have d:=k.2 j c _ n (by rw[B6,m];rfl);rw[I]at d;have q:v=u:=oq (by injection d with d;injection d);rw[q]
    exact r,λh x z=>by
    obtain⟨i,g⟩:=Tv z;rw[B6]at g;obtain⟨c,b,rfl⟩:=Sn.mp g;obtain⟨v,e,_⟩:=l i c b
    exact⟨c,i,v,U,b,e,h v (Do e)⟩⟩
  refine((fB (gB (dy (AK (v_var U) t)) λ_=>dy (xE (f:=λx=>∃(c:B4)(i:M')(v:L Z),x= .ref c/\as[i]? =O c/\ws[i]? =O v/\Ly v) (v_var U) t (by rw[AC];lia) λx z=>?_)) λ_=>cJ (JX (v_var U) t k aB)).iff ?_).go R J
  ·obtain⟨i,g⟩:=Tv z;rw[B6]at g;obtain⟨c,b,rfl⟩:=Sn.mp g;obtain⟨v,e,o⟩:=l i c b;have D:=Do e;refine(nu (p:=Ly v) (v_var U) λ_ s=>⟨c,v,U,s _ _ o,(C v D).1,(C v D).2,U⟩).iff ⟨λh=>⟨c,i,v,U,b,e,h⟩,λ⟨T,j,u,S,n,m,r⟩=>?_⟩
   cases S
   have d:=k.2 j c _ n (by rw[B6,m];rfl);rw[o]at d;have q:v=u:=oq (by injection d with d;injection d);rw[q];exact r
  ·have G:((ws.map dC).map λw=>(w.length:J')).sum=(ws.map λw=>(w.length:J')).sum:=by
    rw[SN]
    congr 1
    refine TM λw _=>?_;show((dC w).length:J')=w.length;unfold dC;rw[AC]
   rw[G,B];exact⟨λ⟨⟨_,n⟩,m⟩=>⟨n,m⟩,λ⟨n,m⟩=>⟨⟨trivial,n⟩,m⟩⟩
noncomputable abbrev Bp:L Z:=Zj
def E3:ay Bp Zj (aj kI):=dH
theorem CU(F:c_ K "are_sides" "are_sides" kI f fd)(N:aQ mg)(m:Cl P w K mg B' 1 (fc lP) "is_tuple_of")(k:Cl P w K mg B' 1 (dO (LX Zr)) "is_side"):aS P w K mg B' dz 2 f fd Zj (fc Qi):=by
 refine F.fb E3 λD A B s H G Q E i h=>?_
 ·obtain⟨v,u,p,e,d,q,l⟩:=h;subst e;refine⟨_,ai (ar (bC (pq m i (bO (pv 0) (pv 1))) (cI (aI (fT U) (by rfl) N.all Ug (aN (dQ (br (fs:=aj kI) (N:=Bp) U U bf) U (gT (pv 0)) (λ_ _ _ _ _=>cv) (λ_ _ _ _ _=>(pq k i (aN (pv 0)))))))))),?_⟩
  try rw[cA]
  obtain⟨a,b,n,rfl,rfl,g,I,rfl⟩:=d;have C:(dC b).length=b.length:=AC ..;refine((cJ (cO (oZ (v_var U) (v_var U) λ_ s=>⟨a,_,_,U,U,s _ _ g,U⟩) λ_=>xE (f:=λv=>∃x,v=V.str x/\Vs x) (v_var U) g aB λx r=>?_)).iff ⟨λ⟨o,c⟩=>⟨aB,λs t=>?_⟩,λ⟨o,c⟩=>⟨aB,λv d=>?_⟩⟩).go q l
  ·obtain⟨z,j,rfl⟩:=Su.mp r;exact(nu (v_var U) λ_ _=>⟨z,U,U⟩).iff (rQ.trans ⟨λh=>⟨z,U,h⟩,λ⟨y,e,h⟩=>by injection e with e;rw[e];exact h⟩)
  ·obtain⟨y,e,h⟩:=c (.str s) (TH t)
   injection e with e
   rw[e];exact h
  ·obtain⟨z,j,rfl⟩:=Su.mp d;exact⟨z,U,c z j⟩
noncomputable abbrev wK:L Z:=Zc
def vO:ay wK Zc (aj jk):=dH
theorem sy(F:c_ K "is_words_what" "is_words_what" jk f fd)(N:aQ mg)(y:Cl P w K mg B' 1 (fc lP) "is_tuple_of")(l:Cl P w K mg B' 4 (dO Rw) "is_words")(o:Cl P w K mg B' 3 (dO (JM 999)) "is_joint"):aS P w K mg B' dz 5 f fd Zc (fc (ER λi=>∃ws j,i= .words ws j)):=by
 refine F.fb vO λC A B s H D Q E g h=>?_
 ·obtain⟨v,u,p,e,m,r,x⟩:=h;subst e;refine⟨_,ai (ar (bC (dA lT (pv 1) af (bB _)) (bC (pq y g (bO (pv 0) af)) (bC (pq l g (aN (cy (pv 0) af))) (cI (pq o g (aN (cy (pv 0) af)))))))),?_⟩
  try rw[cA]
  obtain⟨q,i,n,rfl,rfl,a,t,⟨ws,j,rfl⟩,rfl⟩:=m;obtain⟨s,a,k⟩:=a;exact((cJ (cO (jH (v_var U) eK U) λ_=>cO (oZ (v_var U) eK λ_ z=>⟨q,_,_,U,U,z _ _ a,U⟩) λ_=>cO (nu (fv (j:=0) (v_var U) a U) λ_ z=>⟨s,ws,U,k.keep (KT.same z),t,U⟩) λ_=>nu (fv (j:=1) (v_var U) a U) λ_ _=>⟨j,U,U⟩)).iff ⟨λ⟨b,_,d,c⟩=>⟨by have :=By.mp b;lia,d,c⟩,λ⟨b,d,c⟩=>⟨by rw[b];rfl,U,d,c⟩⟩).go r x
noncomputable abbrev Ar:L Z:=Zc
def wM:ay Ar Zc (aj jL):=dH
theorem uy(I:pH K mg tk ad)(F:c_ K "is_flow_what" "is_flow_what" jL f fd)(N:aQ mg)(B:Cl P w K mg B' 1 (fc lP) "is_tuple_of")(o:Cl P w K mg B' 2 (fc Qi) "are_sides")(r:Cl P w K mg B' 4 (dO Rw) "is_words")(J:Cl P w K mg B' 3 (dO (JM 999)) "is_joint"):aS P w K mg B' dz 5 f fd Zc (fc (ER λl=>∃a ws j,l= .flow a ws j)):=by
 refine F.fb wM λS A R s H T Q E c h=>?_
 ·obtain⟨v,u,p,e,D,G,x⟩:=h;subst e
  refine⟨_,ah (aO (fL (cn (bh gi (pv 1) (aV (v:= .int 12) (by rfl) I.cFLOW_PARTS ⟨_,U⟩) (bB _)) (bU (b_ (pq B c (bO (pv 0) af))))).pt) (ai (ar fj)) aD)
   (ai (ar (bC (pq o c (bO (cy (pv 0) af) (pv 1))) (bC (pq r c (aN (cy (pv 0) af))) (cI (pq J c (aN (cy (pv 0) af)))))))),?_⟩
  try rw[cA]
  obtain⟨q,l,n,rfl,rfl,b,m,⟨a,ws,j,rfl⟩,rfl⟩:=D;obtain⟨t,s,b,y,M⟩:=b;exact((fB (gB (df (JD (v_var U) eK)) λ_=>dy (oZ (v_var U) eK λ_ z=>⟨q,_,_,U,U,z _ _ b,U⟩)) λ_=>cJ (cO (oZ (fv (j:=0) (v_var U) b U) (v_var U) λ_ z=>⟨t,a,n,U,U,z _ _ y,m.1.1,U⟩) λ_=>cO (nu (fv (j:=1) (v_var U) b U) λ_ z=>⟨s,ws,U,M.keep (KT.same z),m.1.2,U⟩) λ_=>nu (fv (j:=2) (v_var U) b U) λ_ _=>⟨j,U,U⟩)).iff ⟨λ⟨⟨C,_⟩,⟨g,d⟩,k,i⟩=>⟨aB,g,d,k,i⟩,λ⟨C,g,d,k,i⟩=>⟨⟨aB,U⟩,⟨g,d⟩,k,i⟩⟩).go G x
noncomputable abbrev yW:L Z:=Zc
def yD:ay yW Zc (aj ko):=dH
theorem vE(F:c_ K "is_leaf_what" "is_leaf_what" ko f fd)(N:aQ mg)(x:Cl P w K mg B' 1 (fc lP) "is_tuple_of")(l:Cl P w K mg B' 3 (dO (JM 1000000)) "is_size"):aS P w K mg B' dz 4 f fd Zc (fc (ER λm=>∃a b,m= .leaf a b)):=by
 refine F.fb yD λC A y s H D Q E k h=>?_
 ·obtain⟨v,u,p,e,o,r,t⟩:=h;subst e;refine⟨_,ai (ar (bC (dA lT (pv 1) af (bB _)) (bC (pq x k (bO (pv 0) af)) (bC (pq l k (aN (cy (pv 0) af))) (cI (pq l k (aN (cy (pv 0) af)))))))),?_⟩
  try rw[cA]
  obtain⟨q,m,n,rfl,rfl,c,B,⟨a,b,rfl⟩,rfl⟩:=o;have c:H q=O (.tup [.int a,.int b]):=c;exact((cJ (cO (jH (v_var U) eK U) λ_=>cO (oZ (v_var U) eK λ_ z=>⟨q,_,_,U,U,z _ _ c,U⟩) λ_=>cO (nu (fv (j:=0) (v_var U) c U) λ_ _=>⟨a,U,U⟩) λ_=>nu (fv (j:=1) (v_var U) c U) λ_ _=>⟨b,U,U⟩)).iff ⟨λ⟨d,_,i,g⟩=>⟨by have :=By.mp d;lia,i,g⟩,λ⟨d,i,g⟩=>⟨by rw[d];rfl,U,i,g⟩⟩).go r t
noncomputable abbrev wy:L Z:=Zc
def vu:ay wy Zc (aj jz):=dH
theorem sH(I:pH K mg tk ad)(F:c_ K "is_lined_what" "is_lined_what" jz f fd)(N:aQ mg)(B:Cl P w K mg B' 1 (fc lP) "is_tuple_of")(t:Cl P w K mg B' 3 (dO (JM 1000)) "is_gap")(x:Cl P w K mg B' 1 (dO (LX ["start","end","mid","mid2"])) "is_align")(J:Cl P w K mg B' 1 (dO (LX Zr)) "is_side"):aS P w K mg B' dz 4 f fd Zc (fc (ER λo=>∃k g b c,o= .lined k g b c)):=by
 refine F.fb vu λS A M s H T Q E d h=>?_
 ·obtain⟨v,u,p,e,D,G,y⟩:=h;subst e
  refine⟨_,ah (aO (fL (cn (bh gi (pv 1) (aV (v:= .int 20) (by rfl) I.cLINED_PARTS ⟨_,U⟩) (bB _)) (bU (b_ (pq B d (bO (pv 0) af))))).pt) (ai (ar fj)) aD)
   (ai (ar (bC (pq t d (aN (cy (pv 0) af))) (bC (pq x d (aN (cy (pv 0) af))) (cI (pq J d (aN (cy (pv 0) af)))))))),?_⟩
  try rw[cA]
  obtain⟨q,o,n,rfl,rfl,a,V,⟨R,r,b,c,rfl⟩,rfl⟩:=D;have a:H q=O (.tup [.int r,.str b,.str c]):=a;exact((fB (gB (df (JD (v_var U) eK)) λ_=>dy (oZ (v_var U) eK λ_ z=>⟨q,_,_,U,U,z _ _ a,U⟩)) λ_=>cJ (cO (nu (fv (j:=0) (v_var U) a U) λ_ _=>⟨r,U,U⟩) λ_=>cO (nu (fv (j:=1) (v_var U) a U) λ_ _=>⟨b,U,U⟩) λ_=>nu (fv (j:=2) (v_var U) a U) λ_ _=>⟨c,U,U⟩)).iff ⟨λ⟨⟨C,_⟩,l,i,m⟩=>⟨aB,l,by simpa using i,rQ.mp m⟩,λ⟨C,l,i,m⟩=>⟨⟨aB,U⟩,l,by simpa using i,rQ.mpr m⟩⟩).go G y
abbrev L8:L Z:=["thing","columns"]
def KC:ay L8 ["thing","columns"] (aj uL):=dH
def Gf(l:pH K mg tk ad)(F:c_ K "is_span" "is_span" uL f fd)(N:aQ mg)(n:Cl P w K mg B' 1 (fc lP) "is_tuple_of")(g:Cl P w K mg B' 2 (rX wL) "is_between"):aS P w K mg B' dz 3 f fd ["thing","columns"] (fc Qy):=by
 refine F.fb KC λr A o s H t Q E b h=>?_
 ·obtain⟨v,u,p,e,i,k,m⟩:=h;subst e;refine⟨_,ai (ar (bC (pq n b (bO (pv 0) af)) (bC (pq g b (gh (cy (pv 0) af) af (pv 1))) (cI (pq g b (gh (cy (pv 0) af) af (aV (v:= .int 12) (by rfl) l.cSPAN_MOST ⟨_,U⟩))))))),?_⟩
  try rw[cA]
  obtain⟨a,q,c,rfl,rfl,d,rfl⟩:=i;exact((cJ (cO (oZ (v_var U) eK λ_ s=>⟨a,_,_,U,U,s _ _ d,U⟩) λ_=>cO (ES (fv (j:=0) (v_var U) d U) eK (v_var U) λ_ _=>⟨_,_,_,U,U,U,U⟩) λ_=>ES (fv (j:=1) (v_var U) d U) eK eK λ_ _=>⟨_,_,_,U,U,U,U⟩)).iff ⟨W1,λh=>⟨U,h⟩⟩).go k m
noncomputable abbrev oM:L Z:=Zc
def vV:ay oM Zc (aj hJ):=dH
theorem sP(CC:pH K mg tk ad)(F:c_ K "is_table_what" "is_table_what" hJ f fd)(N:aQ mg)(C1:Cl P w K mg B' 1 (fc lP) "is_tuple_of")(C2:Cl P w K mg B' 2 (rX wL) "is_between")(C3:Cl P w K mg B' 3 (dO (JM 1000)) "is_gap")(C4:Cl P w K mg B' 1 (dO (LX Zr)) "is_side")(C5:Cl P w K mg B' 3 (fc Qy) "is_span"):aS P w K mg B' dz 4 f fd Zc (fc (ER λW=>∃c g V d,W= .table c g V d)):=by
 refine F.fb vV λC' A U' s H vs Q E k h=>?_
 ·obtain⟨v,u,p,e,y,hy,hn⟩:=h;subst e
  refine⟨_,ah (aO (fL (cn (bh gi (pv 1) (aV (v:= .int 40) (by rfl) CC.cTABLE_PARTS ⟨_,U⟩) (bB _)) (bU (b_ (pq C1 k (bO (pv 0) af))))).pt) (ai (ar fj)) aD)
   (ah (aO (fL (cn (b_ (pq C2 k (gh (cy (pv 0) af) af (aV (v:= .int 12) (by rfl) CC.cTABLE_COLUMNS ⟨_,U⟩)))) (cn (b_ (pq C3 k (aN (cy (pv 0) af)))) (bU (b_ (pq C4 k (aN (cy (pv 0) af))))))).pt) (ai (ar fj)) aD)
   (ai (ar (bC (pq C1 k (bO (cy (pv 0) af) (pv 1))) (cI (aI (fT U) (by rfl) N.all Ug (aN (dQ (br (fs:=aj hJ) (N:=oM) U U bf) U (gT (cy (pv 0) af)) (λ_ _ _ _ _=>cv) (λ_ _ _ _ _=>(pq C5 k (bO (pv 0) (jD (r:=yj K) vp (pv 1) af (λ_ _=>U))))))))))))),?_⟩
  try rw[cA]
  obtain⟨q,W,n,rfl,rfl,m,hz,⟨c,gp,V,d,rfl⟩,rfl⟩:=y;obtain⟨s,as,m,hs,k⟩:=m;have hz:d.length<=100000:=hz.1;have M:=k.1;rw[AC]at M
  have t:∀(i:M')(b:B4),as[i]? =O b->∃v,d[i]? =O v/\H b=O (.tup (jv v)):=λi b l=>by
   have e:=B2 (show i<d.length by rw[<-M];exact cQ l);exact⟨_,e,k.2 i b _ l (by rw[B6,e];rfl)⟩
  have inj:∀{u v:J'×J'},jv u=jv v->u=v:=λ{u v} e=>by
   injection e with D a
   injection a with a _
   injection D with D
   injection a with a
   exact Prod.ext D a
  refine((fB (gB (df (JD (v_var U) eK)) λ_=>dy (oZ (v_var U) eK λ_ z=>⟨q,_,_,U,U,z _ _ m,U⟩)) λ_=>fB (gB (dy (ES (fv (j:=0) (v_var U) m U) eK eK λ_ _=>⟨_,_,_,U,U,U,U⟩)) λ_=>gB (dy (nu (fv (j:=1) (v_var U) m U) λ_ _=>⟨gp,U,U⟩)) λ_=>dy (nu (fv (j:=2) (v_var U) m U) λ_ _=>⟨V,U,U⟩)) λ_=>
   cJ (cO (oZ (fv (j:=3) (v_var U) m U) (v_var U) λ_ z=>⟨s,_,_,U,U,z _ _ hs,U⟩) λ_=>xE (f:=λx=>∃(b:B4)(i:M')(v:J'×J'),x= .ref b/\as[i]? =O b/\d[i]? =O v/\(1<=v.1/\v.1<=c)/\1<=v.2/\v.2<=12) (fv (j:=3) (v_var U) m U) hs (by rw[AC];lia) λx S=>?_)).iff ⟨λ⟨⟨J,_⟩,⟨C,B,I⟩,X,T⟩=>⟨aB,C,B,rQ.mp I,by rw[AC]at X;lia,λv y=>?_⟩,λ⟨J,C,B,I,X,T⟩=>⟨⟨aB,U⟩,⟨C,B,rQ.mpr I⟩,by rw[AC];lia,λx S=>?_⟩⟩).go hy hn
  ·obtain⟨i,o⟩:=Tv S;rw[B6]at o;obtain⟨b,l,rfl⟩:=Sn.mp o;obtain⟨v,e,y⟩:=t i b l;refine(oZ (p:=(1<=v.1/\v.1<=c)/\1<=v.2/\v.2<=12) (v_var U) (fv (j:=0) (v_var U) m U) λ_ z=>⟨b,v,c,U,U,z _ _ y,U⟩).iff ⟨λh=>⟨b,i,v,U,l,e,h⟩,λ⟨b',j,u,R,J,C,B⟩=>?_⟩
   cases R
   have a:=k.2 j b _ J (by rw[B6,C];rfl);rw[y]at a;have G:v=u:=inj (by injection a with a;injection a);rw[G];exact B
  ·obtain⟨i,o⟩:=Tv y;obtain⟨b,l⟩:∃b,as[i]? =O b:=⟨_,B2 (by rw[M];exact cQ o)⟩;obtain⟨b',j,u,R,h7,h8,h9⟩:=T (.ref b) (TH (Do l))
   cases R
   have D:=k.2 i b _ l (by rw[B6,o];rfl);have a:=k.2 j b _ h7 (by rw[B6,h8];rfl);rw[D]at a;have G:v=u:=inj (by injection a with a;injection a);rw[G];exact h9
  ·obtain⟨i,o⟩:=Tv S;rw[B6]at o;obtain⟨b,l,rfl⟩:=Sn.mp o;obtain⟨v,e,y⟩:=t i b l;exact⟨b,i,v,U,l,e,T v (Do e)⟩
noncomputable abbrev qw:L Z:=Zc
def yA:ay qw Zc (aj iH):=dH
theorem vL(CC:pH K mg tk ad)(F:c_ K "is_over_what" "is_over_what" iH f fd)(N:aQ mg)(C1:Cl P w K mg B' 1 (fc lP) "is_tuple_of")(C2:Cl P w K mg B' 4 (dO PN) "is_anchor_pair"):aS P w K mg B' dz 5 f fd Zc (fc (ER λR=>∃m,R= .over m)):=by
 refine F.fb yA λC' A U' s H vs Q E W h=>?_
 ·obtain⟨v,u,p,e,d,hy,hn⟩:=h;subst e
  refine⟨_,ah (aO (fL (cn (xO gi gi af (pv 1) (aV (v:= .int 12) (by rfl) CC.cOVER_PARTS ⟨_,U⟩)) (bU (b_ (pq C1 W (bO (pv 0) (aE gv (pv 1) af)))))).pt) (ai (ar fj)) aD)
   (ai (ar (aI (fT U) (by rfl) N.all Ug (aN (dQ (br (fs:=aj iH) (N:=qw) U U bf) U (gT (pv 0)) (λ_ _ _ _ _=>cv) (λ_ _ _ _ _=>(pq C2 W (aN (pv 0))))))))),?_⟩
  try rw[cA]
  obtain⟨q,R,n,rfl,rfl,t,X,⟨m,rfl⟩,rfl⟩:=d;obtain⟨as,t,T,hp⟩:=t;have X:m.length<=100000:=X.1
  have a:∀(i:M')(b:B4),as[i]? =O b->∃v,m[i]? =O v/\yn H b v:=λi b c=>by
   have e:=B2 (show i<m.length by rw[<-T];exact cQ c);obtain⟨x,y,l,o,k⟩:=hp i b _ c e;exact⟨_,e,x,y,l,o,k⟩
  have inj:∀{b:B4}{u v:(Z×J')×(Z×J')},yn H b u->yn H b v->u=v:=λ{b u v} ⟨x,y,l,o,k⟩ ⟨x',y',j,V,S⟩=>by
   obtain⟨⟨u1,u2⟩,u3,u4⟩:=u;obtain⟨⟨v1,v2⟩,v3,v4⟩:=v;rw[l]at j
   injection j with j
   injection j with j
   injection j with J j
   injection j with B _
   injection J with J
   injection B with B
   subst J B;rw[o]at V;rw[k]at S
   cases V
   cases S
   rfl
  refine((fB (gB (df (uc eK (v_var U) eK)) λ_=>dy (oZ (v_var U) (v_sub (v_var U) eK) λ_ z=>⟨q,_,_,U,U,z _ _ t,U⟩)) λ_=>cJ (xE (f:=λx=>∃(b:B4)(v:(Z×J')×(Z×J')),x= .ref b/\yn H b v/\Va v.1/\Va v.2) (v_var U) t (by rw[AC];lia) λx G=>?_)).iff ⟨λ⟨⟨C,r⟩,I⟩=>⟨⟨aB,aB⟩,by rw[AC]at r;lia,λv d=>?_⟩,λ⟨C,r,I⟩=>⟨⟨⟨aB,aB⟩,by rw[AC];lia⟩,λx G=>?_⟩⟩).go hy hn
  ·obtain⟨i,g⟩:=Tv G;rw[B6]at g;obtain⟨b,c,rfl⟩:=Sn.mp g;obtain⟨v,e,d⟩:=a i b c;refine(nu (p:=Va v.1/\Va v.2) (v_var U) λ_ z=>⟨b,v,U,(let⟨x,y,l,o,k⟩:=d;⟨x,y,z _ _ l,z _ _ o,z _ _ k⟩),U⟩).iff ⟨λh=>⟨b,v,U,d,h⟩,λ⟨b',u,M,C,r⟩=>?_⟩
   cases M
   rw[inj d C];exact r
  ·obtain⟨i,g⟩:=Tv d;obtain⟨b,c⟩:∃b,as[i]? =O b:=⟨_,B2 (by rw[T];exact cQ g)⟩;obtain⟨b',u,M,h7,h8⟩:=I (.ref b) (TH (Do c))
   cases M
   obtain⟨v',e,D⟩:=a i b c;rw[g]at e
   cases e
   rw[inj D h7];exact h8
  ·obtain⟨i,g⟩:=Tv G;rw[B6]at g;obtain⟨b,c,rfl⟩:=Sn.mp g;obtain⟨v,e,d⟩:=a i b c;exact⟨b,v,U,d,I v (Do e)⟩
noncomputable abbrev Gn:L Z:=Za
def Ka:ay Gn Za (aj pM):=dH
theorem E9(l:pH K mg tk ad)(F:c_ K "is_name" "is_name" pM f fd)(N:aQ mg):aS P w K mg B' dz 1 f fd Za (dO RH):=by
 refine F.fb Ka λt A o s H u Q E r h=>?_
 ·obtain⟨v,p,e,i,k,m⟩:=h;subst e;refine⟨_,ai (ar (bC (aI cU (by rfl) N.inst Sw (bO (pv 0) (fF (v:= .ty "str") (by rfl) N.str On U bp))) (bC (iv gi gi af (aI dE (by rfl) N.len Tc (aN (pv 0))) (aV (v:= .int 8) (by rfl) l.cNAME_LONGEST ⟨_,U⟩)) (cI (aI (fT U) (by rfl) N.all Ug (aN (dQ (br (fs:=aj pM) (N:=Gn) U U bf) U (zh (pv 0)) (λ_ _ _ _ _=>cv) (λ_ _ _ _ _=>(iv vk vk ak (pv 0) ak))))))))),?_⟩
  try rw[cA]
  obtain⟨x,rfl,d,rfl⟩:=i;refine((cJ (cO (xP (v_var U)) λ_=>cO (uc eK (GQ (v_var U) d) eK) λ_=>Hy (f:=λc=>97<=c/\c<=122) (v_var U) d λc q=>?_)).iff ⟨λ⟨_,g,b⟩=>⟨aB,aB,b⟩,λ⟨g,b,j⟩=>⟨trivial,⟨aB,aB⟩,j⟩⟩).go k m;intro H1 Q s y n;rw[<-K4]at y n;refine⟨_,U,_,_,U,U,_,U,fJ (λe=>⟨_,_,U,U,?_⟩) λe=>n (λz=>e z.1) H1 (aa.refl _)⟩;by_cases a:(!decide (("z":Z).cps.toList<(⟨#[c]⟩:Z).cps.toList))=T'
  ·rw[a];exact y ⟨e,a⟩ H1 (aa.refl _)
  ·rw[Vp.mpr a];exact n (λz=>a z.2) H1 (aa.refl _)
abbrev Mc:L Z:=["kind","what","many"]
def Ja:ay Mc ["kind","what","many"] (aj va):=dH
def HD(i:pH K mg tk ad)(F:c_ K "is_what" "is_what" va f fd)(N:aQ mg)(W:Cl P w K mg B' 4 (fc (ER λd=>∃k g G o,d= .lined k g G o)) "is_lined_what")(R:Cl P w K mg B' 4 (fc (ER λd=>∃a b,d= .leaf a b)) "is_leaf_what")(S:Cl P w K mg B' 4 (fc (ER λd=>∃c g o D,d= .table c g o D)) "is_table_what")(C4:Cl P w K mg B' 5 (fc (ER λd=>∃ws j,d= .words ws j)) "is_words_what")(V:Cl P w K mg B' 5 (fc (ER λd=>∃C ws j,d= .flow C ws j)) "is_flow_what")(M:Cl P w K mg B' 5 (fc (ER λd=>∃J,d= .over J)) "is_over_what"):aS P w K mg B' dz 6 f fd ["kind","what","many"] (rX Lx):=by
 refine F.fb Ja λC' A U' s H vs Q E y h=>?_
 ·obtain⟨v,u,x,p,e,X,m,l⟩:=h;subst e
  refine⟨_,ah (aO (bh (r:=yL K F') dj (pv 0) (aV (v:= .ref (ad 2)) (by rfl) i.tLINED U) (by rfl)) (ai (ar (pq W y (bO (pv 1) (pv 2))))) aD)
   (ah (aO (jC (pv 0) ak) (ai (ar (pq R y (bO (pv 1) (pv 2))))) aD)
   (ah (aO (jC (pv 0) ak) (ai (ar (pq S y (bO (pv 1) (pv 2))))) aD)
   (ah (aO (jC (pv 0) ak) (ai (ar (pq C4 y (bO (pv 1) (pv 2))))) aD)
   (ah (aO (jC (pv 0) ak) (ai (ar (pq V y (bO (pv 1) (pv 2))))) aD)
   (ai (ar (bC (dA lT (pv 0) ak (bB _)) (cI (pq M y (bO (pv 1) (pv 2))))))))))),?_⟩
  try rw[cA]
  obtain⟨q,d,n,rfl,rfl,rfl,t,B,rfl⟩:=X
  cases d with
  |lined T I G o=>exact(qz (df (sQ (v_var U) eK i.sLINED)) (LY T I G o) (oZ (v_var U) (v_var U) λ_ z=>⟨q,_,n,U,U,d_.keep (KT.same z) t,B,⟨_,_,_,_,U⟩,U⟩)).go m l
  |leaf a b=>exact(ie (df (sQ (z:="leaf") (ws:=Ze) (v_var U) eK i.sLINED)) bf (qz (df (jH (v_var U) eK U)) U (oZ (v_var U) (v_var U) λ_ z=>⟨q,_,n,U,U,d_.keep (KT.same z) t,B,⟨_,_,U⟩,U⟩))).go m l
  |table c I o D=>exact(ie (df (sQ (z:="table") (ws:=Ze) (v_var U) eK i.sLINED)) bf (ie (df (jH (v:= .str "table") (v_var U) eK U)) bf (qz (df (jH (v_var U) eK U)) U (oZ (v_var U) (v_var U) λ_ z=>⟨q,_,n,U,U,d_.keep (KT.same z) t,B,⟨_,_,_,_,U⟩,U⟩)))).go m l
  |words ws j=>exact(ie (df (sQ (z:="words") (ws:=Ze) (v_var U) eK i.sLINED)) bf (ie (df (jH (v:= .str "words") (v_var U) eK U)) bf (ie (df (jH (v:= .str "words") (v_var U) eK U)) bf (qz (df (jH (v_var U) eK U)) U (oZ (v_var U) (v_var U) λ_ z=>⟨q,_,n,U,U,d_.keep (KT.same z) t,B,⟨_,_,U⟩,U⟩))))).go m l
  |flow C ws j=>exact(ie (df (sQ (z:="flow") (ws:=Ze) (v_var U) eK i.sLINED)) bf (ie (df (jH (v:= .str "flow") (v_var U) eK U)) bf (ie (df (jH (v:= .str "flow") (v_var U) eK U)) bf (ie (df (jH (v:= .str "flow") (v_var U) eK U)) bf (qz (df (jH (v_var U) eK U)) U (oZ (v_var U) (v_var U) λ_ z=>⟨q,_,n,U,U,d_.keep (KT.same z) t,B,⟨_,_,_,U⟩,U⟩)))))).go m l
  |over J=>exact((ie (df (sQ (z:="over") (ws:=Ze) (v_var U) eK i.sLINED)) bf (ie (df (jH (v:= .str "over") (v_var U) eK U)) bf (ie (df (jH (v:= .str "over") (v_var U) eK U)) bf (ie (df (jH (v:= .str "over") (v_var U) eK U)) bf (ie (df (jH (v:= .str "over") (v_var U) eK U)) bf (cJ (cO (jH (v:= .str "over") (v_var U) eK U) λ_=>oZ (v_var U) (v_var U) λ_ z=>⟨q,_,n,U,U,d_.keep (KT.same z) t,B,⟨_,U⟩,U⟩))))))).iff ⟨W1,λh=>⟨U,h⟩⟩).go m l
noncomputable abbrev PU:L Z:=Za
def MM:ay PU Za (aj Au):=dH
def IP(F:c_ K "is_box" "is_box" Au f fd)(N:aQ mg)(x:Cl P w K mg B' 1 (fc lP) "is_tuple_of")(m:Cl P w K mg B' 1 (dO RH) "is_name")(n:Cl P w K mg B' 1 (B10P.gQ 1) "name_of")(I:Cl P w K mg B' 5 (dO OZ) "is_own")(u:Cl P w K mg B' 1 (B10P.gQ 2) "own_of")(k:Cl P w K mg B' 1 (B10P.gQ 4) "parts_of")(r:Cl P w K mg B' 6 (rX Lx) "is_what")(R:Cl P w K mg B' 1 (B10P.gQ 0) "kind_of")(D:Cl P w K mg B' 1 (B10P.gQ 3) "what_of"):aS P w K mg B' dz 7 f fd Za (dO Qr):=by
 refine F.fb MM λT A S s H V Q E b h=>?_
 ·obtain⟨v,p,e,y,B,t⟩:=h;subst e
  refine⟨_,ah (aO (fL (cn (b_ (pq x b (bO (pv 0) af))) (cn (b_ (pq m b (aN (pq n b (aN (pv 0)))))) (bU (b_ (pq I b (aN (pq u b (aN (pv 0))))))))).pt) (ai (ar fj)) aD)
   (ai (ar (bC (aI cU (by rfl) N.inst Sw (bO (pq k b (aN (pv 0))) (fF (v:= .ty "tuple") (by rfl) N.tuple SD U bp))) (cI (pq r b (gh (pq R b (aN (pv 0))) (pq D b (aN (pv 0))) (aI bM (by rfl) N.len Tc (aN (pq k b (aN (pv 0))))))))))),?_⟩
  try rw[cA]
  obtain⟨a,d,ts,rfl,⟨o,q,p,c,G,J,l⟩,M,C,rfl⟩:=y;exact((fB (gB (dy (oZ (v_var U) eK λ_ z=>⟨a,_,_,U,U,z _ _ c,U⟩)) λ_=>gB (dy (nu (yv (v_var U) c U) λ_ _=>⟨_,U,C,U⟩)) λ_=>dy (nu (yv (v_var U) c U) λ_ z=>⟨o,d.own,U,G.keep (KT.same z),U⟩)) λ_=>cJ (cO (AK (yv (xs:=[.str d.wh.kd,.str d.nm,.ref o,.ref q,.ref p]) (v_var U) c U) l) λ_=>ES (yv (v_var U) c U) (yv (v_var U) c U) (G0 (yv (v_var U) c U) l) λ_ z=>⟨q,d.wh,ts.length,U,U,by rw[AC],J.keep (KT.same z),M,U⟩)).iff ⟨λ⟨⟨_,j,i⟩,_,g⟩=>⟨j,i,g⟩,λ⟨j,i,g⟩=>⟨⟨U,j,i⟩,trivial,g⟩⟩).go B t
end
def yG{K:B0}(b:X.K=K):e_ X (.type "tuple") (λxs H Q=>∃p a,xs=[.ref p]/\((bu K H p a/\∀l,H l=Y->Q (.ref l) (upd H l (.tup a)))\/(bq K H p a/\Q (.ref p) H))):=by
 subst b;exact bw
def yr(K:B0)(σ:St)(H0:Hp)(te:TE)(x:Z):Prop:=∀(H:Hp)(Q:VK),aa H0 H->Q (.str x) H->te σ H Q
section
variable{K:B0}
def kJ(h:yr K σ H0 te x)(a:x.length<=100000):Ev K σ H0 te (.str x):=λH Q s k=>h H _ s (k _ H (aa.refl _) (.str x (az a)))
def pw{a:L Z}(c:σ[i]? =O (O (.ref l)))(b:H0 l=O (.lst (a.map V.str)))(d:a[j]? =O x):yr K σ H0 (ix (vj K) (eA i) (tC (.int (j:J')))) x:=λH Q s q=>⟨_,c,l,_,_,_,U,U,bu.of (s _ _ b),aG (by rw[B6,d];rfl),q⟩
end
def xM(p:Z×Z):Key×V:=(Tt p.1,V.str p.2)
def Told(H:Hp)(a:B4)(b:L (Z×Z)):Prop:=H a=O (.dK (b.map xM))
def Told.same{H b:Hp}{a:B4}{c:L (Z×Z)}(h:Told H a c)(s:aa H b):Told b a c:=s _ _ h
def Told.get{b:L (Z×Z)}{k v:Z}(h:Told H a b)(e:lk b k=O v):iP H a (.str k) (O (.str v)):=by
 have z:iP H a (kV (Tt k)) (du (b.map xM) (Tt k)):=iP.k h;have c:du (b.map xM) (Tt k)=O (.str v):=(zG b k).trans (by rw[e];rfl);rw[c]at z;exact z
abbrev lV(n:J'):Prop:=n.natAbs<10000000
def ja(s:Z)(a b:J'):two s a b=Tr s [nS a,nS b]:=by
 refine oV ?_;rw[join_list];show((nS a).cps++(s.cps++(nS b).cps)).toList=(nS a).cps.toList++(s.cps.toList++(nS b).cps.toList);rw[SF,SF]
def tN{t:L M'}(f:s.cps.toList=c::t)(g:Builtin.Str.strKind s=1)(e:c<45\/(45<c/\c<48)\/57<c)(a b:J'):So (two s a b) s=[nS a,nS b]:=by
 rw[ja];refine fN f g (Ub _ _) λp d=>?_;simp only[PP,SO,or_false]at d
 rcases d with rfl|rfl
 ·exact mG e a
 ·exact mG e b
section
variable{K:B0}
def Eh{b:L (Z×Z)}{k:Z}(c:σ[i]? =O (O (.ref a)))(d:Told H0 a b)(e:lk b k=O x):yr K σ H0 (BQ (eA i) (tC (.str k))) x:=λH Q s q=>⟨_,c,a,_,U,(d.same s).get e,q⟩
end
noncomputable def u_(o:Own):D:= .tup ([.tup [.int o.w0,.int o.w1],.tup [.int o.h0,.int o.h1]]++[.int o.gr,.int o.sh,.int o.rk,.int o.al])
def Oh(a:L (Z×Z))(o:Own):Prop:=(lk a "wide"=O (two ".." o.w0 o.w1)/\lk a "high"=O (two ".." o.h0 o.h1))/\(lk a "grow"=O (nS o.gr)/\lk a "shrink"=O (nS o.sh)/\lk a "rank"=O (nS o.rk)/\lk a "alike"=O (nS o.al))/\(lV o.w0/\lV o.w1/\lV o.h0/\lV o.h1)/\(lV o.gr/\lV o.sh/\lV o.rk/\lV o.al)
noncomputable def Ae(p:(Z×J')×(Z×J')):D:= .tup [.tup [.str p.1.1,.int p.1.2],.tup [.str p.2.1,.int p.2.2]]
noncomputable def fY:aX->D
 | .leaf a b=> .tup [.int a,.int b]
 | .lined _ g h d=> .tup [.int g,.str h,.str d]
 | .table c g d f=> .tup [.int c,.int g,.str d,.tup (f.map λp=> .tup [.int p.1,.int p.2])]
 | .words ws j=> .tup [eM ws,.int j]
 | .flow e ws j=> .tup [.tup (e.map D.str),eM ws,.int j]
 | .over i=> .tup (i.map Ae)
def Px(H:Hp)(pd:L B4)(b:L (L (Z×Z))):Prop:=pd.length=b.length/\∀(i:M')(a:B4)(c:L (Z×Z)),pd[i]? =O a->b[i]? =O c->Told H a c
def zI{p:(Z×J')×(Z×J')}(b:44∉p.1.1.cps.toList)(d:44∉p.2.1.cps.toList):So (four p) ","=[p.1.1,nS p.1.2,p.2.1,nS p.2.2]:=by
 have e:four p=Tr "," [p.1.1,nS p.1.2,p.2.1,nS p.2.2]:=by
  refine oV ?_;rw[join_list];show(p.1.1.cps++((",":Z).cps++((nS p.1.2).cps++((",":Z).cps++(p.2.1.cps++((",":Z).cps++(nS p.2.2).cps)))))).toList=_;rw[SF,SF,SF,SF,SF,SF];rfl
 rw[e];refine fN (c:=44) (t:=[]) U bf (Ub _ _) λq a=>?_;simp only[PP,SO,or_false]at a
 rcases a with rfl|rfl|rfl|rfl
 ·exact b
 ·exact mG bp _
 ·exact d
 ·exact mG bp _
def LF(e:L (Z×Z))(d:L (L (Z×Z))):aX->Prop
 | .leaf a b=>lk e "wish"=O (two "," a b)/\lV a/\lV b
 | .lined _ g l f=>lk e "gap"=O (nS g)/\lk e "align"=O l/\lk e "side"=O f/\lV g/\l.length<=1000/\f.length<=1000
 | .table c g f h=>(lk e "columns"=O (nS c)/\lk e "gap"=O (nS g)/\lk e "side"=O f)/\(lV c/\lV g/\f.length<=1000)/\d.length=h.length/\∀(i:M')(t:L (Z×Z))(p:J'×J'),d[i]? =O t->h[i]? =O p->lk t "span"=O (two "," p.1 p.2)/\lV p.1/\lV p.2
 | .words ws j=>(lk e "text"=O (pU ws)/\lk e "joint"=O (nS j))/\lV j/\Hz ws/\(pU ws).length<=10000
 | .flow k ws j=>(lk e "text"=O (pU ws)/\lk e "joint"=O (nS j))/\(lV j/\Hz ws/\(pU ws).length<=10000)/\d.length=k.length/\∀(i:M')(t:L (Z×Z))(s:Z),d[i]? =O t->k[i]? =O s->lk t "float"=O s/\s.length<=1000
 | .over as=>d.length=as.length+1/\∀(i:M')(t:L (Z×Z))(p:(Z×J')×(Z×J')),d[i+1]? =O t->as[i]? =O p->lk t "at"=O (four p)/\(44∉p.1.1.cps.toList/\44∉p.2.1.cps.toList)/\(p.1.1.length<=1000/\p.2.1.length<=1000)/\lV p.1.2/\lV p.2.2
theorem En{α:Type}{K:B0}{xs:L α}{f:α->D}(v:∀(H:Hp)(Q:VK),aa H0 H->(∀l c,aa H c->c l=O (.lst (pd.map V.ref))->Q (.ref l) c)->ta σ H Q)(b:pd.length=xs.length)(E:pd.length<=1000)(w:∀(i:M')(a:B4)(x:α)(H1:Hp),pd[i]? =O a->xs[i]? =O x->aa H0 H1->Ev K (O (.ref a)::σ) H1 te (f x)):QU K σ H0 (mx (Bk K ta) gn te) (xs.map f):=λH Q s k=>v H _ s λl H1 g h=>by
 refine⟨l,U,⟨_,bu.of h⟩,AM (K:=K) (α:=B4×α) (l:=pd.zip xs) (λp=> .ref p.1) (λp=>f p.2) ?_ (small (by rw[YF];lia)) (λp c n _ _ d=>d _ (aa.refl _)) (λp c n o q d=>?_) λA t z F u B m=>?_⟩
 ·have e:(pd.zip xs).map (λp=>V.ref p.1)=pd.map V.ref:=by
   rw[show(λp:B4×α=>V.ref p.1)=V.ref∘X8 from U,<-SN,Yr (by rw[b];exact B9 _)]
  rw[e];exact iJ.list (bu.of h)
 ·obtain⟨j,C⟩:=Tv o;obtain⟨y,r⟩:=zf C;exact w j p.1 p.2 c y r (aa.trans s (aa.trans g q)) c n (aa.refl _) d
 ·refine k A t z (aa.trans g u) B ?_
  have e:(pd.zip xs).map (λp=>f p.2)=xs.map f:=by
   rw[show(λp:B4×α=>f p.2)=f∘Y2 from U,<-SN,aby (by rw[b];exact B9 _)]
  rw[e]at m;exact m
def Bx(h:σ[i]? =O (O (.ref l)))(b:H0 l=O (.lst xs)):∀(H:Hp)(Q:VK),aa H0 H->(∀l a,aa H a->a l=O (.lst xs)->Q (.ref l) a)->eA i σ H Q:=λH Q s k=>⟨_,h,k l H (aa.refl _) (s _ _ b)⟩
theorem Co{K:B0}(h:σ[i]? =O (O (.ref l)))(b:H0 l=O (.lst xs)):∀(H:Hp)(Q:VK),aa H0 H->(∀l a,aa H a->a l=O (.lst (xs.drop 1))->Q (.ref l) a)->QJ (Ky K) (eA i) (A1 (tC (.int 1))) pC σ H Q:=λH Q s k=>by
 refine⟨_,h,_,U,l,xs,U,bu.of (s _ _ b),λp c=>?_⟩
 have e:mE xs (O 1) Y=xs.drop 1:=by
  unfold mE;rw[HT.md,show(O 1:O' J')=O ((1:M'):J')from U,HT.pO]
  cases xs with
  |nil=>rfl
  |cons x xs=>
   rw[Xe (by show 1<=xs.length+1;lia)];exact Tp (by rw[Ta];exact B9 _)
 rw[e];exact k p _ (aa.put (aa.refl _) c) ag
structure RowC(K:B0)(C:B4):Prop where
 cl:LA K C
 nD:iL K C "depth"
 nK:iL K C "kind"
 nN:iL K C "name"
 nT:iL K C "told"
structure NW(P:To)(w:TV)(K:B0)(mg:Z->O' B5)(aP:B4)(ti:Tok):Prop where
 mP:mg "PLAIN"=O (.ref aP)
 dP:yc P w K aP (bo.map xM)
 mI:mg "INDENT"=O (.str "  " ti)
inductive zW(C:B4)(vs:L V)(H:Hp)(Q:VK):Prop
 |mk (x dx:B4) (a b c d:V) (c0:vs=[.ref x,a,b,c,d]) (c1:H x=O (.ins C dx [])) (c2:∀H':Hp,(∀y u,y≠x->H y=O u->H' y=O u)->H' x=O (.ins C dx [("depth",a),("kind",b),("name",c),("told",d)])->Q .non H')
def n_(K:B0)(C:B4):Sp:=λa H Q _=>zW C a H Q
noncomputable def qX(a:L (Z×Z))(k v:Z):L (Z×Z):=if(a.any λp=>decide (p.1=k))=T' then a.map (λp=>if p.1=k then(p.1,v)else p)else a++[(k,v)]
noncomputable def putAll(b:L (Z×Z))(l:L (Z×Z)):L (Z×Z):=l.foldl (λa p=>qX a p.1 p.2) b
def um(a:L (Z×Z))(k v:Z):putK (a.map xM) (Tt k:Key) (.str v)=(qX a k v).map xM:=by
 have c:((a.map xM).any λb=>decide (b.1=(Tt k:Key)))=a.any λp=>decide (p.1=k):=by
  rw[Xa]
  congr 1
  funext p
  exact decide_eq_decide.mpr ⟨λe=>Wy e,λe=>Tb Tt e⟩
 unfold putK qX;rw[c]
 split
 ·rw[SN,SN];refine TM λp _=>?_;show(if(xM p).1=(Tt k:Key)then((xM p).1,V.str v)else xM p)=xM (if p.1=k then(p.1,v)else p);by_cases e:p.1=k
  ·rw[KF e,KF (show(xM p).1=(Tt k:Key)from Tb Tt e)];rfl
  ·rw[GM e,GM (show¬(xM p).1=(Tt k:Key)fromλz=>e (Wy z))]
 ·rw[KM];rfl
theorem Hq(a:L (Z×Z))(k v:Z):(qX a k v).length<=a.length+1:=by
 unfold qX
 split
 ·rw[AC];lia
 ·rw[B3];exact B9 _
def kZ(p:Z×Z):Z:=p.1++("="++p.2)
structure OU(row:Z)(dep:M')(kd nm:Z)(K':L (Z×Z))(tx:Z):Prop where
 len:row.length<=95000
 deep:row.length=(ck row " ").length+2*dep
 head:∃h0 m:Z,parted (ck row " ") " text="=[h0,m,tx]/\h0.length<=95000/\So h0 " "=kd::nm::K'.map kZ
 keys:∀p∈K',61∉p.1.cps.toList/\(kZ p).length<=95000
 many:K'.length<=100
def E1(C:B4)(H:Hp)(x:B4)(a:M')(kd c:Z)(d:B4):Prop:=∃b,H x=O (.ins C b [("depth",.int (a:J')),("kind",.str kd),("name",.str c),("told",.ref d)])
def Gi{K:B0}{a b c d:V}(k:∀x f g,H x=Y->aa H g->g x=O (.ins C f [("depth",a),("kind",b),("name",c),("told",d)])->Q (.ref x) g)(x f:B4)(i:H x=Y)(h:H f=Y)(m:f≠x):n_ K C (.ref x::([a,b,c,d]++[])) (upd (upd H f (.own x)) x (.ins C f [])) (λv j=>v= .non/\Q (.ref x) j) E:=by
 refine⟨x,f,_,_,_,_,U,ag,λg kp l=>⟨U,k x f g i ?_ l⟩⟩;exactλb u e=>kp b u (aH e i) (by rw[ax (aH e i),ax (aH e h)];exact e)
section
variable{K:B0}
noncomputable abbrev vX:L Z:=Zn
def sD:ay vX Zn (aj jm):=dH
def qW(g:RowC K C)(F:c_ K "__init__" "TextRow.__init__" jm f fd)(N:aQ mg):aS P w K mg B' dz 1 f fd Zn (n_ K C):=by
 refine F.fb sD λo A m s H p Q E n h=>?_
 ·obtain⟨x,j,a,b,c,d,e,l,k⟩:=h;subst e
  refine⟨_,ah (vh (pv 0) (pv 1) U)
   (ah (vh (pv 0) (pv 2) U)
   (ah (vh (pv 0) (pv 3) U)
   (ai (vh (pv 0) (pv 4) U)))),?_⟩
  try rw[cA]
  refine⟨_,U,_,U,x,C,j,_,U,l,g.cl,g.nD,bp,?_⟩;refine⟨_,U,_,U,x,C,j,_,U,ag,g.cl,g.nK,(by show 1<1000;decide),?_⟩;refine⟨_,U,_,U,x,C,j,_,U,ag,g.cl,g.nN,(by show 2<1000;decide),?_⟩;refine⟨_,U,_,U,x,C,j,_,U,ag,g.cl,g.nT,(by show 3<1000;decide),?_⟩;refine k _ (λy u i e=>?_) ag;rw[ax i,ax i,ax i,ax i];exact e
end
section
open PySem.Spec PyProof.Rows
theorem qJ{K:B0}{g1 g2:M'->V}{σ:L2.St}(f:M'->V)(w:bu K H a (as.map V.ref))(C:as.length<sizeLine)(s:∀(i:M')(p:B4),as[i]? =O p->H p=O (.tup [g1 i,g2 i]))(t:∀(D:B4)(i:M')(l:L V)(k:VK),H D=Y->i<as.length->k (f i) (upd H D (.lst l))->te (O (g1 i)::O (g2 i)::σ) (upd H D (.lst l)) k)(v:∀D,H D=Y->Q (.ref D) (upd H D (.lst ((Tg as.length).map f)))):
  gK (MU K a) H 2 σ (NK K) gn te Q:=by
 intro D h;refine⟨λi m j=>m=as.length-i/\i<=as.length/\j=upd H D (.lst ((Tg i).map f)),⟨as.length,aB,Sm _,U⟩,?_⟩;rintro i m j ⟨rfl,B,rfl⟩
 have r:aa H (upd H D (.lst ((Tg i).map f))):=λb o e=>by rw[ax (aH e h)];exact e
 have q:=r.seq w;by_cases c:i<as.length
 ·obtain⟨p,n⟩:∃p,as[i]? =O p:=⟨_,B2 c⟩
  have d:(as.map V.ref)[i]? =O (V.ref p):=by rw[B6,n];rfl
  refine .inr ⟨⟨as.map V.ref,_,q,d⟩,λx A ρ g y=>?_⟩;obtain⟨e,y⟩:=y;subst e;have u:=(y _ q).symm.trans d
  cases u
  match ρ,g with
  |[E,z],_=>
   refine⟨p,_,U,bq.of (r _ _ (s i p n)),U,_,_,U,_,_,U,U,⟨[O (g1 i),O (g2 i)],U,U⟩,?_⟩;unfold gn;refine dJ ?_;refine t D i _ _ h c ⟨_,ag,?_,as.length-(i+1),aB,U,c,?_⟩
   ·rw[AC,Ue];lia
   ·rw[KQ,List.range_succ,KM];rfl
 ·have e:i=as.length:=by lia
  subst e;exact .inl ⟨⟨as.map V.ref,q,by rw[AC];exact B9 _⟩,v D h⟩
end
abbrev PS:Type:=L (Z×Z)
def Sf(K:B0)(H:Hp)(a:B4)(p:D×PS):Prop:=∃(v:V)(b:B4),H a=O (.tup [v,.ref b])/\At K H v p.1/\Told H b p.2
def F7(K:B0)(H:Hp)(as:L B4)(pt:L (D×PS)):Prop:=as.length=pt.length/\∀(i:M')(a:B4)(p:D×PS),as[i]? =O a->pt[i]? =O p->Sf K H a p
def F7.pick{K:B0}{pt:L (D×PS)}(h:F7 K H as pt):∃(g:M'->V)(b:M'->B4),∀(i:M')(a:B4)(p:D×PS),as[i]? =O a->pt[i]? =O p->H a=O (.tup [g i,.ref (b i)])/\At K H (g i) p.1/\Told H (b i) p.2:=by
 have z:∀i:M',∃y:V×B4,∀(a:B4)(p:D×PS),as[i]? =O a->pt[i]? =O p->H a=O (.tup [y.1,.ref y.2])/\At K H y.1 p.1/\Told H y.2 p.2:=λi=>by
  cases l:as[i]? with
  |none=>exact⟨(.non,0),λa p e=>nomatch e⟩
  |some a=>
   cases c:pt[i]? with
   |none=>exact⟨(.non,0),λa p _ e=>nomatch e⟩
   |some p=>
    obtain⟨v,b,n,k,d⟩:=h.2 i a p l c;exact⟨(v,b),λo q e j=>by cases e;cases j;exact⟨n,k,d⟩⟩
 obtain⟨f,m⟩:=Classical.skolem.mp z;exact⟨λi=>(f i).1,λi=>(f i).2,m⟩
noncomputable def Kc(kd a:Z)(o:Own)(c:aX)(b:L D):D:= .tup [.str kd,.str a,u_ o,fY c,.tup b]
abbrev WT:Type:=L (M'×L (D×PS))
noncomputable def kids(W:WT)(n:M'):L (D×PS):=((W.find? λp=>decide (p.1=n)).map (·.2)).getD []
def wz(W:WT)(n:M'):WT:=W.filter λp=>decide (p.1≠n)
noncomputable def addW(W:WT)(n:M')(x:D×PS):WT:=if(W.any λp=>decide (p.1=n))=T' then W.map (λp=>if p.1=n then(p.1,p.2++[x])else p)else W++[(n,[x])]
def KA(K:B0)(H b:Hp):Prop:=(∀(a:B4)(xs:L V),H a=O (.tup xs)->b a=O (.tup xs))/\∀(v:V)(d:D),At K H v d->At K b v d
def KA.refl{K:B0}(H:Hp):KA K H H:=⟨λ_ _ e=>e,λ_ _ h=>h⟩
def KA.trans{K:B0}{c:Hp}(a:KA K H H1)(b:KA K H1 c):KA K H c:=⟨λx xs e=>b.1 x xs (a.1 x xs e),λv d h=>b.2 v d (a.2 v d h)⟩
def KA.same{K:B0}{H a:Hp}(s:aa H a):KA K H a:=⟨λ_ _ e=>s _ _ e,λ_ _ h=>h.same s⟩
def KA.lst{K:B0}{H:Hp}{l:B4}{xs c:L V}(h:H l=O (.lst xs)):KA K H (upd H l (.lst c)):=⟨λa f e=>by rw[ax (λz=>by rw[z,h]at e;cases e)];exact e,λv d b=>b.we Kp.store h ag⟩
variable{H':Hp}{d:D}{da dw CT:B4}{Qc:VK}{R:L M'}{ps:PS}{eh wh:aX}{o:Own}{pts:L PS}{F G:Fo}{ds:L D}{o2:O' D}{os:O' (L D)}
def At.R8{K:B0}{c:B4}{o:L (Key×V)}(k:Kp c H H')(a:H c=O (.dK o))(h:At K H v d):At K H' v d:=by
 induction h with
 |non=>exact .non
 |bl b=>exact .bl b
 |int i=>exact .int i
 |str x g=>exact .str x g
 |tup h e _ f=>exact .tup (k _ _ (λz=>by rw[z,a]at h;cases h) h) e f
 |oth h=>exact .oth (k _ _ (λz=>by rw[z,a]at h;cases h) h)
def KA.dict{K:B0}{xs:L (Key×V)}{o:HO}(h:H l=O (.dK xs)):KA K H (upd H l o):=⟨λa c e=>by rw[ax (λz=>by rw[z,h]at e;cases e)];exact e,λv d b=>At.R8 Kp.store h b⟩
structure Wt where
 dep:M'
 l:B4
 as:L B4
 pt:L (D×PS)
def ib(t:Wt):Key×V:=(Tu (t.dep:J'),.ref t.l)
def eJ(T:L Wt):WT:=T.map λt=>(t.dep,t.pt)
def PQ(K:B0)(H0 H:Hp)(as:L B4)(pt:L (D×PS)):Prop:=as.length=pt.length/\∀(i:M')(a:B4)(p:D×PS),as[i]? =O a->pt[i]? =O p->∃(v:V)(da:B4),H a=O (.tup [v,.ref da])/\At K H v p.1/\Told H0 da p.2
def PQ.keep{K:B0}{pt:L (D×PS)}(h:PQ K H0 H as pt)(k:KA K H H'):PQ K H0 H' as pt:=⟨h.1,λi a p f c=>by
 obtain⟨v,da,b,e,d⟩:=h.2 i a p f c
 exact⟨v,da,k.1 _ _ b,k.2 _ _ e,d⟩⟩
def PQ.nil{K:B0}:PQ K H0 H [] []:=⟨U,λi a p e=>nomatch e⟩
theorem PQ.snoc{K:B0}{pt:L (D×PS)}{p:D×PS}(h:PQ K H0 H as pt)(f:H a=O (.tup [v,.ref da]))(k:At K H v p.1)(g:Told H0 da p.2):PQ K H0 H (as++[a]) (pt++[p]):=by
 refine⟨by rw[B3,B3,h.1];rfl,λj b q d e=>?_⟩;by_cases c:j<as.length
 ·rw[Sv c]at d;rw[Sv (by rw[<-h.1];exact c)]at e;exact h.2 j b q d e
 ·rw[Re aB]at d;rw[Re (by rw[<-h.1];lia),<-h.1]at e
  have i:j-as.length=0:=by
   have :=cQ d;simp at this
   lia
  rw[i]at d e
  cases d
  cases e
  exact⟨v,da,f,k,g⟩
def PQ.rev{K:B0}{pt:L (D×PS)}(h:PQ K H0 H as pt)(s:aa H0 H):F7 K H as.reverse pt.reverse:=by
 refine⟨by rw[T7,T7,h.1],λj b q a c=>?_⟩
 have d:j<as.length:=by have :=cQ a;rw[T7]at this;exact this
 rw[Xk d]at a;rw[Xk (by rw[<-h.1];exact d),<-h.1]at c;obtain⟨v,da,e,g,f⟩:=h.2 _ b q a c;exact⟨v,da,e,g,f.same s⟩
structure yg(K:B0)(H0 H:Hp)(dw:B4)(T:L Wt):Prop where
 dict:H dw=O (.dK (T.map ib))
 lst:∀t∈T,H t.l=O (.lst (t.as.map V.ref))/\PQ K H0 H t.as t.pt/\H0 t.l=Y
 ndl:∀t∈T,∀u∈T,t.l=u.l->t=u
 ndd:∀t∈T,∀u∈T,t.dep=u.dep->t=u
def yg.same{K:B0}{H0 H H':Hp}{dw:B4}{T:L Wt}(h:yg K H0 H dw T)(s:aa H H'):yg K H0 H' dw T:=⟨s _ _ h.dict,λt d=>let⟨a,b,c⟩:=h.lst t d;⟨s _ _ a,b.keep (KA.same s),c⟩,h.ndl,h.ndd⟩
theorem ux{a:M'}:(Tu (a:J'):Key)=Tu (b:J')↔a=b:=⟨λe=>by have :=Sum.inl.inj e;lia,λe=>by rw[e]⟩
variable{T:L Wt}
def yB(h:∀t∈T,∀u∈T,t.dep=u.dep->t=u){t:Wt}(a:t∈T):du (T.map ib) (Tu (t.dep:J'):Key)=O (.ref t.l)/\kids (eJ T) t.dep=t.pt/\((eJ T).any λp=>decide (p.1=t.dep))=T':=by
 have f1:T.find? (λu=>decide (u.dep=t.dep))=O t:=by
  cases e:T.find? (λu=>decide (u.dep=t.dep))with
  |none=>exact KB (FB U) (by have :=List.find?_eq_none.mp e t a;exact this)
  |some u=>rw[h u (UX e) t a (Pv (List.find?_some (p:=λu:Wt=>decide (u.dep=t.dep)) e))]
 refine⟨?_,?_,?_⟩
 ·unfold du;rw[Wr]
  have :((λb:Key×V=>decide (b.1=Tu (t.dep:J')))∘ib)=λu:Wt=>decide (u.dep=t.dep):=by
   funext u
   exact decide_eq_decide.mpr ux
  rw[this,f1];rfl
 ·unfold kids eJ;rw[Wr];have :((λp:M'×L (D×PS)=>decide (p.1=t.dep))∘λu:Wt=>(u.dep,u.pt))=λu:Wt=>decide (u.dep=t.dep):=U;rw[this,f1];rfl
 ·unfold eJ;rw[Xa,Y6];exact⟨t,a,FB U⟩
def qd{n:M'}(h:∀t∈T,t.dep≠n):du (T.map ib) (Tu (n:J'):Key)=Y/\kids (eJ T) n=[]/\((eJ T).any λp=>decide (p.1=n))=F':=by
 have f1:T.find? (λu=>decide (u.dep=n))=Y:=UY.mpr λu a e=>h u a (Pv e);refine⟨?_,?_,?_⟩
 ·unfold du;rw[Wr]
  have :((λb:Key×V=>decide (b.1=Tu (n:J')))∘ib)=λu:Wt=>decide (u.dep=n):=by
   funext u
   exact decide_eq_decide.mpr ux
  rw[this,f1];rfl
 ·unfold kids eJ;rw[Wr];have :((λp:M'×L (D×PS)=>decide (p.1=n))∘λu:Wt=>(u.dep,u.pt))=λu:Wt=>decide (u.dep=n):=U;rw[this,f1];rfl
 ·unfold eJ;rw[Xa,Yh];exactλu a e=>h u a (Pv e)
def wC(T:L Wt)(n:M'):nq (T.map ib) (Tu (n:J'):Key)=(T.filter λt=>decide (t.dep≠n)).map ib/\wz (eJ T) n=eJ (T.filter λt=>decide (t.dep≠n)):=by
 refine⟨?_,?_⟩
 ·unfold nq;rw[YG]
  congr 2
  funext u
  exact decide_eq_decide.mpr (not_congr ux)
 ·unfold wz eJ;rw[YG];rfl
def there(T:L Wt)(n:M'):(∃t∈T,t.dep=n)\/∀t∈T,t.dep≠n:=by
 by_cases h:∃t∈T,t.dep=n
 ·exact .inl h
 ·exact .inr λt a e=>h ⟨t,a,e⟩
def yg.drop{K:B0}(h:yg K H0 H dw T)(n:M'):yg K H0 (upd H dw (.dK (nq (T.map ib) (Tu (n:J'):Key)))) dw (T.filter λt=>decide (t.dep≠n)):=by
 refine⟨by rw[ag,(wC T n).1],λt d=>?_,λt d u e=>h.ndl t (UH.mp d).1 u (UH.mp e).1,λt d u e=>h.ndd t (UH.mp d).1 u (UH.mp e).1⟩;obtain⟨a,b,c⟩:=h.lst t (UH.mp d).1;exact⟨by rw[ax (λz=>by rw[z,h.dict]at a;cases a)];exact a,b.keep (KA.dict h.dict),c⟩
def yg.put{K:B0}(h:yg K H0 H dw T){n:M'}(i:∀t∈T,t.dep≠n)(f:H l=O (.lst []))(m:H0 l=Y)(j:∀t∈T,t.l≠l):yg K H0 (upd H dw (.dK (putK (T.map ib) (Tu (n:J'):Key) (.ref l)))) dw (T++[⟨n,l,[],[]⟩]):=by
 refine⟨by rw[ag,rB _ (qd i).1,KM];rfl,λt d=>?_,λt d u g e=>?_,λt d u g e=>?_⟩
 ·rcases Os.mp d with z|z
  ·obtain⟨a,b,c⟩:=h.lst t z;exact⟨by rw[ax (λz=>by rw[z,h.dict]at a;cases a)];exact a,b.keep (KA.dict h.dict),c⟩
  ·rw[Dk.mp z];exact⟨by rw[ax (λz=>by have k:l=dw:=z;rw[k,h.dict]at f;cases f)];exact f,PQ.nil,m⟩
 ·rcases Os.mp d with z|z<;>rcases Os.mp g with y|y
  ·exact h.ndl t z u y e
  ·rw[Dk.mp y]at e;exact KB e (j t z)
  ·rw[Dk.mp z]at e;exact KB e.symm (j u y)
  ·rw[Dk.mp z,Dk.mp y]
 ·rcases Os.mp d with z|z<;>rcases Os.mp g with y|y
  ·exact h.ndd t z u y e
  ·rw[Dk.mp y]at e;exact KB e (i t z)
  ·rw[Dk.mp z]at e;exact KB e.symm (i u y)
  ·rw[Dk.mp z,Dk.mp y]
noncomputable def lA(n:M')(a:B4)(x:D×PS)(t:Wt):Wt:=if t.dep=n then⟨t.dep,t.l,t.as++[a],t.pt++[x]⟩else t
def HN{x:M'×L (D×PS)}(h:eJ T=[x]):∃t,T=[t]:=by
 match T,h with
 |[t],_=>exact⟨t,U⟩
def Na{l:L B4}(h:l.length=1):∃a,l=[a]:=by
 match l,h with
 |[a],_=>exact⟨a,U⟩
def jb(n:M')(a:B4)(x:D×PS)(t:Wt):(lA n a x t).dep=t.dep/\(lA n a x t).l=t.l:=by
 unfold lA
 split<;>exact⟨U,U⟩
theorem K8(n:M')(a:B4)(x:D×PS)(t:Wt):(lA n a x t).as.length<=t.as.length+1:=by
 unfold lA
 split
 ·rw[B3];exact B9 _
 ·lia
def yg.add{K:B0}{i:B4}(h:yg K H0 H dw T){t:Wt}(o:t∈T){x:D×PS}(r:H i=O (.tup [v,.ref da]))(B:At K H v x.1)(s:Told H0 da x.2):yg K H0 (upd H t.l (.lst (t.as.map V.ref++[.ref i]))) dw (T.map (lA t.dep i x)):=by
 obtain⟨a,b,c⟩:=h.lst t o;have k:KA K H (upd H t.l (.lst (t.as.map V.ref++[.ref i]))):=KA.lst a;refine⟨?_,λu j=>?_,λu j w n e=>?_,λu j w n e=>?_⟩
 ·rw[ax (λz=>by rw[<-z,h.dict]at a;cases a),h.dict,SN]
  congr 2
  refine TM λu _=>?_;show ib u=ib (lA t.dep i x u);unfold ib;rw[(jb _ _ _ _).1,(jb _ _ _ _).2]
 ·obtain⟨f,d,rfl⟩:=Su.mp j;obtain⟨C,q,p⟩:=h.lst f d;unfold lA;by_cases e:f.dep=t.dep
  ·rw[KF e];have y:=h.ndd f d t o e;subst y;exact⟨by rw[ag,KM];rfl,(q.keep k).snoc (k.1 _ _ r) (k.2 _ _ B) s,p⟩
  ·rw[GM e];have A:f.l≠t.l:=λz=>e (by rw[h.ndl f d t o z]);exact⟨by rw[ax A];exact C,q.keep k,p⟩
 ·obtain⟨f,d,rfl⟩:=Su.mp j;obtain⟨m,g,rfl⟩:=Su.mp n;rw[(jb _ _ _ _).2,(jb _ _ _ _).2]at e;rw[h.ndl f d m g e]
 ·obtain⟨f,d,rfl⟩:=Su.mp j;obtain⟨m,g,rfl⟩:=Su.mp n;rw[(jb _ _ _ _).1,(jb _ _ _ _).1]at e;rw[h.ndd f d m g e]
def wV(T:L Wt)(n:M')(a:B4)(x:D×PS):eJ (T.map (lA n a x))=(eJ T).map λp=>if p.1=n then(p.1,p.2++[x])else p:=by
 unfold eJ;rw[SN,SN];refine TM λt _=>?_
 show((lA n a x t).dep,(lA n a x t).pt)=if t.dep=n then(t.dep,t.pt++[x])else(t.dep,t.pt)
 unfold lA
 split<;>rfl
def HR(T:L Wt)(n:M')(l a:B4)(x:D×PS)(h:∀t∈T,t.dep≠n):eJ ((T++[(⟨n,l,[],[]⟩:Wt)]).map (lA n a x))=eJ T++[(n,[x])]:=by
 rw[wV];unfold eJ;rw[KM,KM]
 congr 1
 ·rw[SN];refine TM λt b=>?_;exact GM (h t b)
 ·show[if n=n then(n,[]++[x])else(n,[])]=_;rw[KF U];rfl
def NF{K:B0}{G:Hp}{q:B4}{n:M'}(f:yg K H G dw T)(s:aa H G)(B:H dw=Y)(p:G q=O (.lst []))(g:T.length<=i)(d:∀t∈T,t.as.length<=i)(r:∀(x:B4)(e:L B4)(h:Hp)(o:L Wt),h x=O (.lst (e.map V.ref))->e.length<=i->PQ K H h e (kids (eJ T) n)->aa H h->yg K H h dw o->eJ o=wz (eJ T) n->o.length<=i->(∀t∈o,t.as.length<=i)->Qc (.ref x) h):
  (∃v,du (T.map ib) (Tu ((n:M'):J'):Key)=O v/\Qc v (upd G dw (.dK (nq (T.map ib) (Tu ((n:M'):J'):Key)))))\/(du (T.map ib) (Tu ((n:M'):J'):Key)=Y/\Qc (.ref q) G):=by
 have w:=(wC T n).2
 rcases there T n with⟨t,j,A⟩|hno
 ·obtain⟨m,k,_⟩:=yB f.ndd j;rw[A]at m k;obtain⟨a,b,c⟩:=f.lst t j;refine .inl ⟨_,m,r t.l t.as _ _ ?_ (d t j) ?_ (aa.put s B) (f.drop n) w.symm (Tf (V6 _ _) g) λu C=>d u (UH.mp C).1⟩
  ·rw[ax (λz=>by rw[z,f.dict]at a;cases a)];exact a
  ·rw[k];exact b.keep (KA.dict f.dict)
 ·obtain⟨m,k,_⟩:=qd hno;have y:T.filter (λt=>decide (t.dep≠n))=T:=U7.mpr λt j=>FB (hno t j);refine .inr ⟨m,r q [] G T p (Sm _) (by rw[k];exact PQ.nil) s f (by rw[w,y]) g d⟩
theorem K3{K:B0}{G:Hp}{a:B4}{n:M'}(g:yg K H G dw T)(s:aa H G)(A:H dw=Y)(p:H a=Y)(m:G a=O (.lst []))(B:∀t∈T,t.l≠a)(D:i<=1000)(c:T.length<=i)(d:∀t∈T,t.as.length<=i)(r:∀(h:Hp)(f:L Wt)(t:Wt),t∈f->t.dep=n->aa H h->(∀b o,b≠dw->G b=O o->h b=O o)->KA K G h->yg K H h dw f->(∀q y,eJ (f.map (lA n q y))=addW (eJ T) n y)->f.length<=i+1->(∀u∈f,u.as.length<=i)->Qc (.ref t.l) h):
  Lz (.ref dw) [.int ((n:M'):J'),.ref a] G Qc:=by
 refine⟨dw,_,Tu ((n:M'):J'),.ref a,U,U,g.dict,small (by rw[AC];lia),?_⟩
 rcases there T n with⟨t,w,v⟩|hno
 ·obtain⟨k,_,j⟩:=yB g.ndd w;rw[v]at k j;refine .inl ⟨_,k,r G T t w v s (λ_ _ _ e=>e) (KA.refl _) g (λq y=>?_) (VX c) d⟩;unfold addW;rw[KF j,wV]
 ·obtain⟨k,_,j⟩:=qd hno;refine .inr ⟨k,r _ _ ⟨n,a,[],[]⟩ (List.mem_append.mpr (.inr (Dk.mpr U))) U (aa.put s A) (λb o C e=>by rw[ax C];exact e) (KA.dict g.dict) (g.put hno m p B) (λq y=>?_) (by rw[B3];exact V9 c) λu x=>?_⟩
  ·unfold addW;rw[HR _ _ _ _ _ hno,GM (by rw[j];exact Om)]
  ·rcases Os.mp x with z|z
   ·exact d u z
   ·rw[Dk.mp z];exact Sm _
noncomputable def fD:Fo->L D
 | .nil=>[]
 | .cons _ d a as=>Kc d.wh.kd d.nm d.own d.wh (fD a)::fD as
theorem zM:∀F:Fo,(fD F).length=F.bD.length
 | .nil=>rfl
 | .cons a d b as=>by
  show(fD as).length+1=as.bD.length+1;rw[zM as]
def pre_of{q S T f:L M'}(h:q++S=T++f)(e:32∉T)(hS:S=[]\/S.head?=O 32):T<+:q:=by
 rcases List.append_eq_append_iff.mp h with⟨a,d,b⟩|⟨c,d,b⟩
 ·cases a with
  |nil=>rw[d,Ni];exact List.prefix_refl _
  |cons x a=>
   rcases hS with hS|hS
   ·rw[hS]at b;cases b
   ·rw[b]at hS
    have :x=32:=by injection hS
    exact KB (by rw[d,this];simp) e
 ·rw[d];exact List.prefix_append _ _
def jh(a p q:L M')(r:L (L M')):eX a (p::q::r)=p++(a++eX a (q::r)):=rfl
def Ao(q:L M')(r:L (L M'))(R:L M')(a:R=[]\/R.head?=O 32):∃S,eX [32] (q::r)++R=q++S/\(S=[]\/S.head?=O 32):=by
 cases r with
 |nil=>exact⟨R,U,a⟩
 |cons p r=>
  refine⟨[32]++eX [32] (p::r)++R,?_,.inr U⟩;rw[jh,Sx]
theorem vI{T:L M'}(c:32∉T)(i:R=[]\/R.head?=O 32):∀(ps:L (L M')),(∀p∈ps,32∉p)->(∀q∈ps.tail,¬T<+:q)->∀(k:M')(b:L M'),k<(eX [32] ps).length->(eX [32] ps++R).drop k≠(32::T)++b
 |[],_,_,k,b,a=>KB a (U0 _)
 |[p],f,_,k,b,a=>λe=>by
  have a:k<p.length:=a;have e:(p++R).drop k=(32::T)++b:=e
  have d:((p++R).drop k)[0]? =O 32:=by rw[e];rfl
  rw[U_,Z4,Sv a]at d;exact f p De (Do d)
 |p::q::r,f,j,k,b,a=>λe=>by
  rw[jh]at e a;by_cases l:k<p.length
  ·have d:((p++([32]++eX [32] (q::r))++R).drop k)[0]? =O 32:=by rw[e];rfl
   rw[U_,Z4,Sx,Sv l]at d;exact f p De (Do d)
  ·by_cases s:k=p.length
   ·rw[s,Sx,VY,Sx]at e;have h:eX [32] (q::r)++R=T++b:=(ZD e).2;obtain⟨S,n,m⟩:=Ao q r R i;rw[n]at h;exact j q De (pre_of h c m)
   ·have o:k=p.length+(1+(k-p.length-1)):=by lia
    rw[o,<-V0,Sx,VY,<-V0,Sx]at e;have e:(eX [32] (q::r)++R).drop (k-p.length-1)=(32::T)++b:=e;refine vI c i (q::r) (λx g=>f x (Fk _ g)) (λx g=>j x (Fk _ g)) _ b ?_ e;rw[B3,B3]at a;have :([32]:L M').length=1:=U
    lia
def FG{k:M'}(h:PySem.StrLaws.At x y x.length k):∃b,x.cps.toList.drop k=y.cps.toList++b:=by
 have a:=h.2;rw[PySem.StrLaws.subAt_eq,W3]at a;exact⟨(x.cps.toList.drop k).drop y.length,by rw[<-a,Ve]⟩
abbrev Tx:L M':=[116,101,120,116,61]
def pD:(" text=":Z).cps.toList=32::Tx:=by decide +kernel
def Bv:(" ":Z).cps.toList=[32]:=by decide +kernel
def pG:("\n":Z).cps.toList=[10]:=by decide +kernel
def app_list(x y:Z):(x++y).cps.toList=x.cps.toList++y.cps.toList:=by
 show(x.cps++y.cps).toList=_;rw[SF]
def BY(x y z:Z):(x++y)++z=x++(y++z):=oV (by rw[app_list,app_list,app_list,app_list,Sx])
theorem join_snoc(y x:Z):∀ws:L Z,ws≠[]->Tr y (ws++[x])=Tr y ws++(y++x)
 |[],h=>KB U h
 |[w],_=>oV (by
  rw[join_list,app_list,join_list,app_list]
  rfl)
 |w::v::r,_=>oV (by
  have a:=Tb (λs:Z=>s.cps.toList) (join_snoc y x (v::r) (Ub _ _));rw[join_list,app_list,app_list,join_list]at a;rw[join_list,app_list,app_list,join_list];show w.cps.toList++(y.cps.toList++eX y.cps.toList (((v::r)++[x]).map λp=>p.cps.toList))=(w.cps.toList++(y.cps.toList++eX y.cps.toList ((v::r).map λp=>p.cps.toList)))++_;rw[a]
  simp)
theorem Du{ws:L Z}(s:ws≠[])(d:∀w∈ws,32∉w.cps.toList)(t:∀w∈ws.tail,¬Tx<+:w.cps.toList)(b:Z)(z:Z)(c:z=if b=""then Tr " " ws else Tr " " ws++(" text="++b)):∃m:Z,parted z " text="=[Tr " " ws,m,b]:=by
 have i:(Tr " " ws).cps.toList=eX [32] (ws.map λp=>p.cps.toList):=by rw[join_list,Bv]
 have l:∀p∈ws.map (λp=>p.cps.toList),32∉p:=λp r=>by
  obtain⟨w,j,rfl⟩:=Su.mp r;exact d w j
 have n:∀q∈(ws.map λp=>p.cps.toList).tail,¬Tx<+:q:=λq o=>by
  rw[<-List.map_tail]at o;obtain⟨w,j,rfl⟩:=Su.mp o;exact t w j
 by_cases e:b=""
 ·rw[KF e]at c;subst c e;refine⟨WV,?_⟩;rw[DP]
  ·rfl
  ·intro k f;obtain⟨g,a⟩:=FG f;rw[pD,i]at a;by_cases q:k<(eX [32] (ws.map λp=>p.cps.toList)).length
   ·refine vI bp (.inl U) _ l n k g q ?_;rw[Ni];exact a
   ·rw[VZ aB]at a
    cases a
 ·rw[GM e]at c;refine⟨" text=",uf pD c λk f h=>?_⟩;obtain⟨g,a⟩:=FG h;rw[pD,c,app_list,app_list,i,pD]at a;refine vI bp (R:=(32::Tx)++b.cps.toList) (.inr U) _ l n k g ?_ a;rw[<-i,eU];exact f
noncomputable abbrev eD:L (Z×Z):=[("wide","0..1000000"),("high","0..1000000"),("grow","0"),("shrink","1"),("rank","0"),("alike","0"),("wish","0,0"),("columns","1"),("gap","0"),("align","start"),("side","left"),("joint","50"),("span","1,1"),("float","left"),("at","start,0,start,0")]
noncomputable def iT(ps:PS)(p:Z×Z):L (Z×Z):=if(lk ps p.1).getD p.2=p.2 then[]else[(p.1,(lk ps p.1).getD p.2)]
noncomputable def kvsOf(ps:PS):PS:=eD.flatMap (iT ps)
noncomputable def jf(ps:PS):Z:=(lk ps "text").getD ""
noncomputable def toldOf(ps:PS):PS:=putAll bo (kvsOf ps++[(("text":Z),jf ps)])
def Jy(ps:PS)(p:Z×Z):pick ps p=(iT ps p).map kZ:=by
 unfold pick iT
 split
 ·rfl
 ·show _=[kZ _];unfold kZ;rw[BY]
theorem Bw(ps:PS):∀l:L (Z×Z),l.flatMap (pick ps)=(l.flatMap (iT ps)).map kZ
 |[]=>rfl
 |p::l=>by rw[Tz,Tz,KM,Bw ps l,Jy]
def OT:("text":Z)++"="="text=":=by decide +kernel
def tD(ps:PS):bo.flatMap (pick ps)=(kvsOf ps).map kZ++(if jf ps=""then[]else["text="++jf ps]):=by
 have e:bo=eD++[(("text":Z),("":Z))]:=U;rw[e,U4,Bw]
 congr 1
 show pick ps ("text","")++[]=_;rw[Ni];unfold pick;show(if jf ps=""then[]else[("text"++"=")++jf ps])=_;rw[OT]
def fG(p:Z×Z)(r:PS)(j:Z):lk (p::r) j=if p.1=j then O p.2 else lk r j:=by
 unfold lk;by_cases e:p.1=j
 ·rw[KF e,W_ (by simpa using e)];rfl
 ·rw[GM e,Z6 (by simpa using e)]
def AU{j:Z}(h:j∉ps.map (·.1)):lk ps j=Y:=by
 unfold lk;rw[UY.mpr]
 ·rfl
 ·intro p a e;exact h (by rw[<-Pv e];exact TH a)
def vR{j v:Z}(h:lk ps j=O v):(j,v)∈ps:=by
 unfold lk at h;obtain⟨p,a,e⟩:=Sn.mp h;have c:=UX a;have b:=Pv (List.find?_some (p:=λp:Z×Z=>decide (p.1=j)) a);rw[<-b,<-e];exact c
def Bj(ps:PS)(k v j:Z):lk (qX ps k v) j=if j=k then O v else lk ps j:=by
 unfold qX;by_cases c:(ps.any λp=>decide (p.1=k))=T'
 ·rw[KF c]
  induction ps with
  |nil=>cases c
  |cons p r i=>
   rw[SQ,fG,fG];by_cases e:p.1=k
   ·rw[KF e];by_cases a:p.1=j
    ·rw[KF a,KF (a.symm.trans e)]
    ·have h:j≠k:=λz=>a (e.trans z.symm);rw[GM a,GM h,GM a];by_cases b:(r.any λp=>decide (p.1=k))=T'
     ·rw[i b,GM h]
     ·have m:r.map (λp=>if p.1=k then(p.1,v)else p)=r:=by
       have :=TM (l:=r) (f:=λp=>if p.1=k then(p.1,v)else p) (g:=id) λp d=>GM λz=>b (Y6.mpr ⟨p,d,FB z⟩);rw[this,WB]
      rw[m]
   ·rw[GM e]
    have b:(r.any λp=>decide (p.1=k))=T':=by
     rw[Wa,GT e,Bool.false_or]at c;exact c
    rw[i b];by_cases a:p.1=j
    ·rw[KF a,KF a,GM (λz=>e (a.trans z))]
    ·rw[GM a,GM a]
 ·rw[GM c,jn]
  have n:lk ps k=Y:=AU λz=>by
   obtain⟨p,d,e⟩:=Su.mp z;exact c (Y6.mpr ⟨p,d,FB e⟩)
  by_cases e:j=k
  ·rw[e,n,KF U,fG,KF U];rfl
  ·rw[GM e,fG,GM (SZ e)]
   cases lk ps j<;>rfl
theorem nF(j:Z):∀(a ps:PS),(a.map (·.1)).Nodup->lk (putAll ps a) j=(lk a j).or (lk ps j)
 |[],ps,_=>rfl
 |p::r,ps,h=>by
  rw[SQ,Xx]at h;show lk (putAll (qX ps p.1 p.2) r) j=_;rw[nF j r _ h.2,Bj,fG];by_cases e:p.1=j
  ·rw[KF e,KF e.symm,AU (by rw[<-e];exact h.1)];rfl
  ·rw[GM e,GM (SZ e)]
theorem flat_keys(ps:PS):∀l:L (Z×Z),((l.flatMap (iT ps)).map (·.1)).Sublist (l.map (·.1))
 |[]=>abi _
 |p::l=>by
  rw[Tz,KM,SQ];unfold iT
  split
  ·exact(flat_keys ps l).cons _
  ·exact(flat_keys ps l).cons₂ _
def Bo(ps:PS):((kvsOf ps++[(("text":Z),jf ps)]).map (·.1)).Nodup:=by
 rw[KM];have h:((kvsOf ps).map (λp=>p.1)++[("text":Z)]).Sublist (eD.map (λp=>p.1)++[("text":Z)]):=(flat_keys ps eD).append (abi _);exact h.nodup bf
theorem AG(ps:PS):∀(l:L (Z×Z)),(l.map (·.1)).Nodup->∀p∈l,lk (l.flatMap (iT ps)) p.1=if(lk ps p.1).getD p.2=p.2 then Y else O ((lk ps p.1).getD p.2)
 |[],_,p,hp=>nomatch hp
 |q::l,a,p,hp=>by
  rw[SQ,Xx]at a;rw[Tz,jn]
  rcases PP.mp hp with rfl|hp
  ·have c:lk (l.flatMap (iT ps)) p.1=Y:=AU λz=>a.1 ((flat_keys ps l).subset z);rw[c];unfold iT
   split
   ·rfl
   ·rw[fG,KF U];rfl
  ·have b:q.1≠p.1:=λe=>a.1 (by rw[e];exact TH hp)
   have d:lk (iT ps q) p.1=Y:=by
    unfold iT
    split
    ·rfl
    ·rw[fG,GM b];rfl
   rw[d,AG ps l a.2 p hp];rfl
def qt:∀p∈eD,lk bo p.1=O p.2/\p.1≠"text":=by decide +kernel
def JE(ps:PS):∀p∈eD,lk (toldOf ps) p.1=O ((lk ps p.1).getD p.2):=λp a=>by
 obtain⟨d,b⟩:=qt p a;unfold toldOf;rw[nF _ _ _ (Bo ps),d,jn,fG,GM (SZ b)];have e:=AG ps eD bf p a;have e:lk (kvsOf ps) p.1=_:=e;rw[e];by_cases c:(lk ps p.1).getD p.2=p.2
 ·rw[KF c,c];rfl
 ·rw[GM c];rfl
def BH(ps:PS):lk (toldOf ps) "text"=O (jf ps):=by
 unfold toldOf;rw[nF _ _ _ (Bo ps),jn,fG,KF U,AU λz=>?_]
 ·rfl
 ·have :=(flat_keys ps eD).subset z
  revert this
  decide +kernel
def jd(x:Z):Prop:=∀c∈x.cps.toList,33<=c
def Cz(x:Z):Prop:=∀c∈x.cps.toList,32<=c
def jd.cz(h:jd x):Cz x:=λc a=>abf (h c a)
theorem jd.app(h:jd x)(g:jd y):jd (x++y):=λc a=>by
 rw[app_list]at a
 rcases Os.mp a with z|z
 ·exact h c z
 ·exact g c z
theorem Cz.app(h:Cz x)(g:Cz y):Cz (x++y):=λc a=>by
 rw[app_list]at a
 rcases Os.mp a with z|z
 ·exact h c z
 ·exact g c z
theorem jd.no(h:jd x):32∉x.cps.toList:=λz=>by have :=h 32 z;lia
theorem gH(i:J'):jd (nS i):=λc a=>by
 by_cases q:c<33
 ·exact KB a (mG (.inl aB) i)
 ·lia
def Lo:jd "..":=by unfold jd;decide +kernel
def wQ:jd ",":=by unfold jd;decide +kernel
def uX(h:jd s)(a b:J'):jd (two s a b):=(gH a).app (h.app (gH b))
def o_(h:Vs s):jd s:=by
 rcases h with rfl|rfl<;>(unfold jd;decide +kernel)
def Oq(h:s="start"\/s="end"\/s="mid"\/s="mid2"):jd s:=by
 rcases h with rfl|rfl|rfl|rfl<;>(unfold jd;decide +kernel)
def LM(h:s="start"\/s="mid"\/s="mid2"\/s="end"):jd s:=by
 rcases h with rfl|rfl|rfl|rfl<;>(unfold jd;decide +kernel)
def zx:jd "":=by unfold jd;decide +kernel
def BJ{p:(Z×J')×(Z×J')}(h:jd p.1.1)(g:jd p.2.1):jd (four p):=h.app (wQ.app ((gH _).app (wQ.app (g.app (wQ.app (gH _))))))
theorem pN(b:Cz y):∀{ws:L Z},(∀w∈ws,Cz w)->Cz (Tr y ws)
 |[],_=>λc a=>by
  rw[join_list]at a
  cases a
 |[w],h=>λc a=>by
  rw[join_list]at a;exact h w De c a
 |w::v::r,h=>λc a=>by
  have d:=pN b (ws:=v::r) λx e=>h x (Fk _ e);rw[join_list]at a;have a:c∈w.cps.toList++(y.cps.toList++eX y.cps.toList ((v::r).map λp=>p.cps.toList)):=a
  rcases Os.mp a with z|z
  ·exact h w De c z
  ·rcases Os.mp z with z|z
   ·exact b c z
   ·rw[<-join_list]at z;exact d c z
def LU:Cz " ":=by unfold Cz;decide +kernel
def N6:Cz "|":=by unfold Cz;decide +kernel
def G9(h:MK ws):Cz (pU ws):=by
 unfold pU;rw[join_eq];refine pN LU λw d=>?_;obtain⟨v,b,rfl⟩:=Su.mp d;rw[join_eq];exact pN N6 λx e c a=>abf (h.1 v b x e c a).1
noncomputable def dk(d:dV)(eh:aX)(i:M'):PS:=dD d.own++(bP d.wh++bX eh i)
abbrev Pn(p:Z×Z):Prop:=Cz p.2/\(p.1≠"text"->jd p.2)
def gy{k:Z}(h:jd x):Pn (k,x):=⟨h.cz,λ_=>h⟩
def K9{d:dV}{k:M'}(v:Vw d.wh m)(n:Vw eh k):∀p∈dk d eh i,Pn p:=by
 have A:∀p∈dD d.own,Pn p:=all_cons (gy (uX Lo _ _)) (all_cons (gy (uX Lo _ _)) (all_cons (gy (gH _)) (all_cons (gy (gH _)) (all_cons (gy (gH _)) (all_cons (gy (gH _)) all_nil)))))
 have B:∀p∈bP d.wh,Pn p:=by
  generalize d.wh=wh at v
  cases wh with
  |leaf a b=>exact all_cons (gy (uX wQ _ _)) all_nil
  |lined k g s l=>exact all_cons (gy (gH _)) (all_cons (gy (Oq v.2.2.1)) (all_cons (gy (o_ v.2.2.2)) all_nil))
  |table c g l h=>exact all_cons (gy (gH _)) (all_cons (gy (gH _)) (all_cons (gy (o_ v.2.2.2.1)) all_nil))
  |words ws j=>exact all_cons ⟨G9 v.2.1,λz=>KB U z⟩ (all_cons (gy (gH _)) all_nil)
  |flow f ws j=>exact all_cons ⟨G9 v.2.2.2.1,λz=>KB U z⟩ (all_cons (gy (gH _)) all_nil)
  |over ps=>exact all_nil
 have C:∀p∈bX eh i,Pn p:=by
  cases eh with
  |leaf a b=>exact all_nil
  |lined k g s l=>exact all_nil
  |words ws j=>exact all_nil
  |table c g l h=>exact all_cons (gy (uX wQ _ _)) all_nil
  |flow f ws j=>
   refine all_cons (gy ?_) all_nil;rw[Sk]
   cases e:f[i]? with
   |none=>exact o_ (.inl U)
   |some q=>exact o_ (n.2.2.1 q (Do e))
  |over ps=>
   cases i with
   |zero=>exact all_nil
   |succ i=>
    refine all_cons (gy ?_) all_nil;rw[Sk]
    cases e:ps[i]? with
    |none=>exact BJ zx zx
    |some q=>
     obtain⟨t,r⟩:=n.2.2 q (Do e);exact BJ (LM t.1) (LM r.1)
 intro p o
 rcases Os.mp o with z|z
 ·exact A p z
 ·rcases Os.mp z with z|z
  ·exact B p z
  ·exact C p z
theorem wZ(n:M'):(oo "  " n).cps.toList=TZ (2*n) 32:=by
 have b:∀(n:M')(a:Us M'),((TZ n ("  ":Z).cps).foldl (·++·) a).toList=a.toList++TZ (2*n) 32:=by
  intro n
  induction n with
  |zero=>intro a;simp
  |succ n c=>
   intro a;rw[aaI,Xg,c]
   have e:("  ":Z).cps.toList=[32,32]:=by decide +kernel
   rw[SF,e,show 2*(n+1)=2+2*n by lia,<-List.replicate_append_replicate,Sx];rfl
 have :=b n #[];exact this
def L0(wh:aX):jd wh.kd/\wh.kd≠"":=by
 have :wh.kd∈(["leaf","row","column","wrap","table","words","flow","over"]:L Z):=by
  cases wh with
  |lined k g b a=>
   match k with
   |0=>simp[aX.kd]
   |1=>simp[aX.kd]
   |k+2=>simp[aX.kd]
  |_=>simp[aX.kd]
 revert this
 generalize wh.kd=x
 have :∀x∈(["leaf","row","column","wrap","table","words","flow","over"]:L Z),jd x/\x≠"":=by
  unfold jd;decide +kernel
 exact this x
def Aj:∀p∈eD,61∉p.1.cps.toList/\jd p.1/\Tx.take (min 5 (p.1.cps.toList.length+1))≠(p.1.cps.toList++[61]).take (min 5 (p.1.cps.toList.length+1)):=by
 unfold jd;decide +kernel
def pV{q:Z×Z}(h:q∈kvsOf ps):∃p∈eD,q.1=p.1/\(q.1,q.2)∈ps:=by
 unfold kvsOf at h;obtain⟨p,b,a⟩:=List.mem_flatMap.mp h;unfold iT at a
 split at a
 ·cases a
 ·rename_i c
  rw[Dk.mp a]
  cases e:lk ps p.1 with
  |none=>rw[e]at c;exact KB U c
  |some v=>exact⟨p,b,U,vR e⟩
def Kj(p:Z×Z):(kZ p).cps.toList=p.1.cps.toList++(61::p.2.cps.toList):=by
 unfold kZ;rw[app_list,app_list];rfl
theorem KP{p:Z×Z}{v:Z}(h:p∈eD):¬Tx<+:(kZ (p.1,v)).cps.toList:=λ⟨b,a⟩=>by
 rw[Kj]at a;refine(Aj p h).2.2 ?_;have e:=Tb (List.take (min 5 (p.1.cps.toList.length+1))) a;have c:(Tx++b).take (min 5 (p.1.cps.toList.length+1))=Tx.take (min 5 (p.1.cps.toList.length+1)):=We (by show min 5 _<=5;lia)
 have d:(p.1.cps.toList++(61::v.cps.toList)).take (min 5 (p.1.cps.toList.length+1))=(p.1.cps.toList++[61]).take (min 5 (p.1.cps.toList.length+1)):=by
  rw[show p.1.cps.toList++(61::v.cps.toList)=(p.1.cps.toList++[61])++v.cps.toList by simp];exact We (by rw[B3];show _<=_+1;lia)
 rw[c,d]at e;exact e
theorem IQ(h:Vn x):¬Tx<+:x.cps.toList:=λa=>by
 have :61∈x.cps.toList:=a.subset bp;have :=(h.2.2 61 this).1
 lia
def Bb{d:dV}(g:d.wh.Good)(b:eh.Good):Sr " " (fM d eh i)=if jf (dk d eh i)=""then Tr " " (d.wh.kd::d.nm::(kvsOf (dk d eh i)).map kZ)else Tr " " (d.wh.kd::d.nm::(kvsOf (dk d eh i)).map kZ)++(" text="++jf (dk d eh i)):=by
 rw[join_eq,pL g b];show Tr " " (d.wh.kd::d.nm::bo.flatMap (pick (dk d eh i)))=_;rw[tD];by_cases c:jf (dk d eh i)=""
 ·rw[KF c,KF c,Ni]
 ·rw[GM c,GM c];have e:=join_snoc " " ("text="++jf (dk d eh i)) (d.wh.kd::d.nm::(kvsOf (dk d eh i)).map kZ) (Ub _ _)
  have a:(" ":Z)++("text="++jf (dk d eh i))=" text="++jf (dk d eh i):=by
   rw[<-BY]
   congr 1
  rw[a]at e;exact e
theorem AH{ws:L Z}{k:Z}(h:jd k)(a:k≠""):((Tr " " (k::ws)).cps.toList++R).head?≠O 32:=by
 have e:∃S,(Tr " " (k::ws)).cps.toList=k.cps.toList++S:=by
  rw[join_list]
  cases ws with
  |nil=>exact⟨[],(Ni _).symm⟩
  |cons w r=>exact⟨_,U⟩
 obtain⟨S,e⟩:=e;rw[e,Sx]
 cases q:k.cps.toList with
 |nil=>exact KB (oV (by rw[q];decide +kernel)) a
 |cons c r=>
  intro z
  have :c=32:=by injection z
  have :=h c (by rw[q];exact De)
  lia
theorem OX{d:dV}{n k:M'}(g:d.wh.Good)(go:d.own.Good)(s:eh.Good)(v:Vw d.wh m)(I:Vw eh k)(E:Vn d.nm)(N:n<=200):OU (B10P.bR d n eh i) n d.wh.kd d.nm (kvsOf (dk d eh i)) (jf (dk d eh i))/\Cz (B10P.bR d n eh i):=by
 have o:d.nm.length<=60:=by have :=E.2.1;lia
 have G:=qj (i:=i) N g go o s;obtain⟨J,_⟩:=my (i:=i) g go o s;have F:=K9 (d:=d) (eh:=eh) (i:=i) v I;have y:=Bb (d:=d) (eh:=eh) (i:=i) g s;obtain⟨C,k2⟩:=L0 d.wh
 have P:jd d.nm:=λc u=>by have :=(E.2.2 c u).1;lia
 have z:∀q∈kvsOf (dk d eh i),jd (kZ q):=λq a=>by
  obtain⟨p,h,j,B⟩:=pV a;have M:=(qt p h).2;refine jd.app (by rw[j];exact(Aj p h).2.1) (jd.app (by unfold jd;decide +kernel) ((F _ B).2 (by show q.1≠_;rw[j];exact M)))
 have b:∀w∈d.wh.kd::d.nm::(kvsOf (dk d eh i)).map kZ,jd w:=λw hw=>by
  rcases PP.mp hw with rfl|hw
  ·exact C
  rcases PP.mp hw with rfl|hw
  ·exact P
  ·obtain⟨q,a,rfl⟩:=Su.mp hw;exact z q a
 have D:∀w∈(d.wh.kd::d.nm::(kvsOf (dk d eh i)).map kZ).tail,¬Tx<+:w.cps.toList:=λw hw=>by
  have hw:w∈d.nm::(kvsOf (dk d eh i)).map kZ:=hw
  rcases PP.mp hw with rfl|hw
  ·exact IQ E
  ·obtain⟨q,a,rfl⟩:=Su.mp hw;obtain⟨p,h,j,B⟩:=pV a;have :=KP (v:=q.2) h;rw[<-j]at this;exact this
 obtain⟨Q,f⟩:=Du (Ub _ _) (λw hw=>(b w hw).no) D _ _ y
 have r:ck (B10P.bR d n eh i) " "=Sr " " (fM d eh i):=by
  refine Cc (k:=2*n) ?_ ?_
  ·unfold B10P.bR;rw[app_list,wZ]
  ·rw[y]
   split
   ·have :=AH (ws:=d.nm::(kvsOf (dk d eh i)).map kZ) C k2 (R:=[]);rw[Ni]at this;exact this
   ·rw[app_list];exact AH C k2
 have A:(B10P.bR d n eh i).length=(Sr " " (fM d eh i)).length+2*n:=by
  unfold B10P.bR;rw[FS,jM,iC]
  lia
 refine⟨⟨aB,by rw[r];exact A,⟨_,Q,by rw[r];exact f,?_,?_⟩,λq a=>?_,?_⟩,?_⟩
 ·have S:(Tr " " (d.wh.kd::d.nm::(kvsOf (dk d eh i)).map kZ)).length<=(Sr " " (fM d eh i)).length:=by
   rw[y]
   split
   ·exact B9 _
   ·rw[FS];exact Vu _ _
  lia
 ·exact fN (c:=32) (t:=[]) Bv bf (Ub _ _) λw hw=>(b w hw).no
 ·obtain⟨p,h,j,B⟩:=pV a;refine⟨by rw[j];exact(Aj p h).1,?_⟩
  have K:kZ q∈fM d eh i:=by
   rw[pL g s];show kZ q∈d.wh.kd::d.nm::bo.flatMap (pick (dk d eh i));rw[tD];exact Fk _ (Fk _ (Ul _ (TH a)))
  have :=J _ K
  lia
 ·have :∀l:L (Z×Z),(l.flatMap (iT (dk d eh i))).length<=l.length:=λl=>by
   have :=(flat_keys (dk d eh i) l).length_le;rw[AC,AC]at this;exact this
  have :=this eD;have e:eD.length=15:=U;unfold kvsOf
  lia
 ·unfold B10P.bR;refine Cz.app (λc u=>?_) ?_
  ·rw[wZ]at u;rw[List.eq_of_mem_replicate u];exact B9 _
  ·have H:Cz (Tr " " (d.wh.kd::d.nm::(kvsOf (dk d eh i)).map kZ)):=pN LU λw hw=>(b w hw).cz;rw[y]
   split
   ·exact H
   ·refine H.app (Cz.app (by unfold Cz;decide +kernel) ?_);unfold jf
    cases e:lk (dk d eh i) "text"with
    |none=>exact zx.cz
    |some x=>exact(F _ (vR e)).1
def gI{w:Z}{t:O' Z}(a:w∈(Zd:L Z))(h:lk (bP wh) w=t):lk (dD o++(bP wh++bX eh i)) w=t:=by
 have sub:∀w∈(Zd:L Z),w∈(Zo:L Z):=by decide +kernel
 exact RJ (B10P.yP o w (sub w a)) (ra eh i w a) h
def yK{w:Z}{t:O' Z}(a:w∈(Zi:L Z))(h:lk (bX eh i) w=t):lk (dD o++(bP wh++bX eh i)) w=t:=by
 have sub:∀w∈(Zi:L Z),w∈(Zo:L Z):=by decide +kernel
 exact RY (B10P.yP o w (sub w a)) (qv wh w a) h
def dr{k pl:Z}(a:(k,pl)∈eD)(h:lk ps k=O x):lk (toldOf ps) k=O x:=by
 have :=JE ps (k,pl) a;rw[h]at this;exact this
theorem Fi{i a b:J'}(h:a<=i)(g:i<=b)(d: -1000000<=a)(c:b<=1000000):lV i:=by
 show i.natAbs<10000000
 lia
theorem Qb{d:dV}(h:Vo d.own):Oh (toldOf (dk d eh i)) d.own:=by
 obtain⟨⟨q,l,g⟩,⟨s,r,p⟩,⟨m,n⟩,⟨t,j⟩,⟨o,k⟩,f1,f2⟩:=h;obtain⟨a,o2,c,b,e,f⟩:=Hd d.own;refine⟨⟨dr (pl:="0..1000000") bf (se a),dr (pl:="0..1000000") bf (se o2)⟩,⟨dr (pl:="0") bf (se c),dr (pl:="1") bf (se b),dr (pl:="0") bf (se e),dr (pl:="0") bf (se f)⟩,⟨?_,?_,?_,?_⟩,?_,?_,?_,?_⟩
 all_goals
  show Int.natAbs _<10000000
  lia
theorem LW(g:gf ws)(v:MK ws):Hz ws:=⟨by have :=g.1;lia,λw a=>by
 obtain⟨g1,g2,g3⟩:=g.2 w a;refine⟨λe=>by rw[e]at g1;exact KB g1 bp,aB,λx b=>?_⟩;have h:=g3 x b;refine⟨h.1,aB,λz=>?_,λz=>?_⟩
 ·have :=(v.1 w a x b 32 z).1;lia
 ·exact(v.1 w a x b 124 z).2.2.2 U⟩
def Q9(wh:aX)(pts:L PS):Prop:=∀(j:M')(t:PS),pts[j]? =O t->∃d:dV,t=toldOf (dk d wh j)
theorem MB{d:dV}(g:d.wh.Good)(v:Vw d.wh pts.length)(q:Q9 d.wh pts):LF (toldOf (dk d eh i)) pts d.wh:=by
 obtain⟨w,o,wh⟩:=d
 cases wh with
 |leaf a b=>
  obtain⟨_,⟨x,f⟩,e,h⟩:=v;exact⟨dr (pl:="0,0") bf (gI bf (by kernel_rfl)),Fi x f bp bp,Fi e h bp bp⟩
 |lined k H P M=>
  obtain⟨_,⟨f,e⟩,h,n⟩:=v;obtain⟨_,g2,g3⟩:=g;exact⟨dr (pl:="0") bf (gI bf (by kernel_rfl)),dr (pl:="start") bf (gI bf (by kernel_rfl)),dr (pl:="left") bf (gI bf (by kernel_rfl)),Fi f e bp bp,aB,aB⟩
 |table c H M F=>
  obtain⟨_,⟨f,e⟩,⟨h,n⟩,s,G,D⟩:=v;refine⟨⟨dr (pl:="1") bf (gI bf (by kernel_rfl)),dr (pl:="0") bf (gI bf (by kernel_rfl)),dr (pl:="left") bf (gI bf (by kernel_rfl))⟩,⟨Fi f e bp bp,Fi h n bp bp,by have :=Gr s;lia⟩,G.symm,λj t p m l=>?_⟩;obtain⟨u,rfl⟩:=q j t m;obtain⟨⟨z,E⟩,A,I⟩:=D p (Do l);refine⟨dr (pl:="1,1") bf (yK bf ?_),Fi z E bp aB,Fi A I bp bp⟩;rw[rf l,fG,KF U]
 |words ws j=>
  obtain⟨_,f,e,h⟩:=v;refine⟨⟨?_,dr (pl:="50") bf (gI bf (by kernel_rfl))⟩,Fi e h bp bp,LW g.1 f,by have :=kL g.1;lia⟩;rw[BH];unfold jf;rw[show lk (dk ⟨w,o,.words ws j⟩ eh i) "text"=O (pU ws)from gI bf (by kernel_rfl)];rfl
 |flow r ws j=>
  obtain⟨_,f,e,h,n,s⟩:=v;refine⟨⟨?_,dr (pl:="50") bf (gI bf (by kernel_rfl))⟩,⟨Fi n s bp bp,LW g.2.1 h,by have :=kL g.2.1;lia⟩,f.symm,λj t p m l=>?_⟩
  ·rw[BH];unfold jf;rw[show lk (dk ⟨w,o,.flow r ws j⟩ eh i) "text"=O (pU ws)from gI bf (by kernel_rfl)];rfl
  ·obtain⟨u,rfl⟩:=q j t m;refine⟨dr (pl:="left") bf (yK bf ?_),by have :=Gr (e p (Do l));lia⟩;rw[uq l,fG,KF U]
 |over ps=>
  obtain⟨⟨x,f⟩,e,h⟩:=v;refine⟨e.symm,λj t p m l=>?_⟩;obtain⟨u,rfl⟩:=q (j+1) t m;obtain⟨⟨N,J,y⟩,R,C,B⟩:=h p (Do l);obtain⟨⟨g1,g2,_⟩,K,Q,_⟩:=g p (Do l);refine⟨dr (pl:="start,0,start,0") bf (yK bf ?_),⟨g1,K⟩,⟨aB,aB⟩,Fi J y bp bp,Fi C B bp bp⟩;rw[tP l,fG,KF U]
section
variable{K:B0}
def fP{i:J'}(h:At K H v (.int i)):v= .int i:=by
 cases h
 rfl
def fk(h:At K H v (.str s)):v= .str s:=by
 cases h
 rfl
def bJ.iz(h:bJ K H xs []):xs=[]:=S0 h.1
def bJ.bL(h:bJ K H xs (d::ds)):∃x a,xs=x::a/\At K H x d/\bJ K H a ds:=by
 cases xs with
 |nil=>exact KB h.1 (by simp)
 |cons x a=>exact⟨x,a,U,h.2 0 x d U U,by have :=h.1;simpa using this,λj y e c b=>h.2 (j+1) y e c b⟩
theorem mM{α:Type}{f:α->D}{R:B4->α->Prop}:∀(l:L α)(xs:L V),bJ K H xs (l.map f)->(∀x∈l,∀v,At K H v (f x)->∃a,v= .ref a/\R a x)->∃as:L B4,xs=as.map V.ref/\as.length=l.length/\∀(i:M')(a:B4)(x:α),as[i]? =O a->l[i]? =O x->R a x
 |[],xs,h,_=>⟨[],by rw[h.iz];rfl,U,λi a x e=>nomatch e⟩
 |y::l,xs,h,g=>by
  obtain⟨x,m,rfl,q,n⟩:=bJ.bL h;obtain⟨a,rfl,o⟩:=g y De x q;obtain⟨as,rfl,k,j⟩:=mM l m n λz p=>g z (Fk _ p);refine⟨a::as,U,by rw[Da,Da,k],λi b z c d=>?_⟩
  cases i with
  |zero=>cases c;cases d;exact o
  |succ i=>exact j i b z c d
theorem p_:∀(w:L Z)(xs:L V),bJ K H xs (w.map D.str)->xs=dC w
 |[],xs,h=>h.iz
 |y::w,xs,h=>by
  obtain⟨x,b,rfl,a,c⟩:=bJ.bL h;rw[fk a,p_ w b c];rfl
def kA{a b:J'}(h:At K H v (.tup [.int a,.int b])):∃p,v= .ref p/\H p=O (.tup [.int a,.int b]):=by
 obtain⟨p,xs,rfl,c,i⟩:=h.tupS;obtain⟨x,k,rfl,d,e⟩:=i.bL;obtain⟨y,j,rfl,f,g⟩:=e.bL;rw[fP d,fP f,g.iz]at c;exact⟨p,U,c⟩
def NT(h:At K H v (u_ o)):∃a,v= .ref a/\kr H a o:=by
 have h:At K H v (.tup [.tup [.int o.w0,.int o.w1],.tup [.int o.h0,.int o.h1],.int o.gr,.int o.sh,.int o.rk,.int o.al]):=h;obtain⟨p,xs,rfl,i,q⟩:=h.tupS;obtain⟨E,D,rfl,h1,c⟩:=q.bL;obtain⟨G,F,rfl,k,g⟩:=c.bL;obtain⟨y,B,rfl,j,f⟩:=g.bL;obtain⟨I,C,rfl,m,b⟩:=f.bL;obtain⟨z,t,rfl,l,e⟩:=b.bL;obtain⟨x,A,rfl,r,d⟩:=e.bL;obtain⟨u,rfl,s⟩:=kA h1;obtain⟨w,rfl,n⟩:=kA k;rw[fP j,fP m,fP l,fP r,d.iz]at i;exact⟨p,U,u,w,i,s,n⟩
def words_of(h:At K H v (eM ws)):∃s,v= .ref s/\rT H s ws:=by
 obtain⟨p,xs,rfl,e,m⟩:=h.tupS
 obtain⟨as,rfl,j,d⟩:=mM (R:=λa w=>H a=O (.tup (dC w))) ws xs m λw _ v g=>by
  obtain⟨q,k,rfl,c,n⟩:=g.tupS;rw[p_ w k n]at c;exact⟨q,U,c⟩
 refine⟨p,U,as,e,by rw[AC,j],λi a r f b=>?_⟩;rw[B6]at b;obtain⟨w,l,rfl⟩:=Sn.mp b;exact d i a w f l
def KW(h:At K H v (fY wh)):∃q,v= .ref q/\d_ H q wh:=by
 cases wh with
 |leaf a b=>exact kA h
 |lined k g al sd=>
  obtain⟨p,xs,rfl,e,m⟩:=At.tupS (l:=[.int g,.str al,.str sd]) h;obtain⟨B,T,rfl,f,a1⟩:=m.bL;obtain⟨x2,y2,rfl,d,a0⟩:=a1.bL;obtain⟨x3,y3,rfl,P,a2⟩:=a0.bL;rw[fP f,fk d,fk P,a2.iz]at e;exact⟨p,U,e⟩
 |table c g sd Q=>
  obtain⟨p,xs,rfl,e,m⟩:=At.tupS (l:=[.int c,.int g,.str sd,.tup (Q.map λp=> .tup [.int p.1,.int p.2])]) h;obtain⟨B,T,rfl,f,I⟩:=m.bL;obtain⟨x2,y2,rfl,d,F⟩:=I.bL;obtain⟨x3,y3,rfl,P,y⟩:=F.bL;obtain⟨x4,y4,rfl,h4,o⟩:=y.bL;obtain⟨s,J,rfl,N,z⟩:=h4.tupS;obtain⟨as,rfl,e2,e3⟩:=mM (R:=λa q=>H a=O (.tup (jv q))) Q J z λq _ v W=>kA W;rw[fP f,fP d,fk P,o.iz]at e;refine⟨p,U,s,as,e,N,by rw[AC,e2],λi a r f d=>?_⟩;rw[B6]at d;obtain⟨w,hw,rfl⟩:=Sn.mp d;exact e3 i a w f hw
 |words ws j=>
  obtain⟨p,xs,rfl,e,m⟩:=At.tupS (l:=[eM ws,.int j]) h;obtain⟨B,T,rfl,f,M⟩:=m.bL;obtain⟨x2,y2,rfl,d,u⟩:=M.bL;obtain⟨s,rfl,N⟩:=words_of f;rw[fP d,u.iz]at e;exact⟨p,U,s,e,N⟩
 |flow A ws j=>
  obtain⟨p,xs,rfl,e,m⟩:=At.tupS (l:=[.tup (A.map D.str),eM ws,.int j]) h;obtain⟨B,T,rfl,f,X⟩:=m.bL;obtain⟨x2,y2,rfl,d,G⟩:=X.bL;obtain⟨x3,y3,rfl,P,C⟩:=G.bL;obtain⟨t,J,rfl,ht,z⟩:=f.tupS;obtain⟨s,rfl,N⟩:=words_of d;rw[p_ A J z]at ht;rw[fP P,C.iz]at e;exact⟨p,U,t,s,e,ht,N⟩
 |over ps=>
  obtain⟨p,xs,rfl,e,m⟩:=At.tupS (l:=ps.map Ae) h
  obtain⟨as,rfl,e2,e3⟩:=mM (R:=λa p=>∃b c,H a=O (.tup [.ref b,.ref c])/\H b=O (.tup [.str p.1.1,.int p.1.2])/\H c=O (.tup [.str p.2.1,.int p.2.2])) ps xs m λq _ v W=>by
   obtain⟨a,J,rfl,ha,z⟩:=At.tupS (l:=[.tup [.str q.1.1,.int q.1.2],.tup [.str q.2.1,.int q.2.2]]) W;obtain⟨B,T,rfl,f,n⟩:=z.bL;obtain⟨x2,y2,rfl,d,S⟩:=n.bL
   have two:∀{v:V}{s:Z}{i:J'},At K H v (.tup [.str s,.int i])->∃b,v= .ref b/\H b=O (.tup [.str s,.int i]):=λ{v s i} W=>by
    obtain⟨b,J,rfl,hb,hC⟩:=W.tupS;obtain⟨B,T,rfl,f,E⟩:=hC.bL;obtain⟨x2,y2,rfl,d,x⟩:=E.bL;rw[fk f,fP d,x.iz]at hb;exact⟨b,U,hb⟩
   obtain⟨b,rfl,hb⟩:=two f;obtain⟨c,rfl,hc⟩:=two d;rw[S.iz]at ha;exact⟨a,U,b,c,ha,hb,hc⟩
  exact⟨p,U,as,e,e2,e3⟩
inductive Lk:Fo->Fo->Prop
 |nil:Lk .nil .nil
 |cons {a a':B4} {d:dV} {cs cs' as as':Fo} (h:Lk cs cs') (g:Lk as as'):Lk (.cons a d cs as) (.cons a' d cs' as')
def Lk.bD(h:Lk F G):F.bD.length=G.bD.length:=by
 induction h with
 |nil=>rfl
 |cons _ _ _ a=>exact Tb (· +1) a
def Lk.cnt(h:Lk F G):F.cnt=G.cnt:=by
 induction h with
 |nil=>rfl
 | @cons a i d g b as c _ _ f e=>
  show g.cnt+as.cnt+1=b.cnt+c.cnt+1;rw[f,e]
def Lk.fq(h:Lk F G):F.fq=G.fq:=by
 induction h with
 |nil=>rfl
 | @cons a i d g b as c _ _ f e=>
  show max (g.fq+1) as.fq=max (b.fq+1) c.fq;rw[f,e]
theorem Lk.good(h:Lk F G)(g:F.Good):G.Good:=by
 induction h with
 |nil=>trivial
 | @cons a n d o c as e l m j f=>
  obtain⟨⟨g1,g2,g3,b⟩,k,i⟩:=g;rw[l.bD]at b;exact⟨⟨g1,g2,g3,b⟩,j k,f i⟩
theorem Lk.rows(h:Lk F G):∀(n:M')(eh:aX)(i:M'),a_ F n eh i=a_ G n eh i:=by
 induction h with
 |nil=>exactλ_ _ _=>U
 | @cons a k d g b as c l j f e=>
  intro n eh i;show B10P.bR d n eh i::(a_ g (n+1) d.wh 0++a_ as n eh (i+1))=B10P.bR d n eh i::(a_ b (n+1) d.wh 0++a_ c n eh (i+1));rw[f,e]
theorem xH:∀(F:Fo)(xs:L V),bJ K H xs (fD F)->∃G:Fo,Lk F G/\xs=G.bD.map V.ref/\G.Ok H
 | .nil,xs,h=>⟨.nil,.nil,h.iz,trivial⟩
 | .cons a d k as,xs,h=>by
  obtain⟨x,t,rfl,B,v⟩:=bJ.bL (d:=Kc d.wh.kd d.nm d.own d.wh (fD k)) (ds:=fD as) h;obtain⟨b,zs,rfl,n,A⟩:=At.tupS (l:=[.str d.wh.kd,.str d.nm,u_ d.own,fY d.wh,.tup (fD k)]) B;obtain⟨W,T,rfl,y,e⟩:=A.bL;obtain⟨x2,X,rfl,k2,c⟩:=e.bL;obtain⟨P,R,rfl,C,f⟩:=c.bL;obtain⟨x4,S,rfl,I,g⟩:=f.bL;obtain⟨Q,N,rfl,E,i⟩:=g.bL;obtain⟨o,rfl,J⟩:=NT C;obtain⟨q,rfl,M⟩:=KW I;obtain⟨p,ts,rfl,s,w⟩:=E.tupS;obtain⟨D,z,rfl,j⟩:=xH k ts w;obtain⟨u,r,rfl,m⟩:=xH as t v;rw[fk y,fk k2,i.iz]at n;exact⟨.cons b d D u,.cons z r,U,⟨o,q,p,n,J,M,s⟩,j,m⟩
def bJ.two{x y:V}{e:D}(h:At K H x d)(g:At K H y e):bJ K H [x,y] [d,e]:=bJ.cons h (bJ.cons g bJ.nil)
def F3(h:kr H a o):At K H (.ref a) (u_ o):=by
 obtain⟨u,v,d,c,b⟩:=h;exact bJ.tup (bJ.cons (bJ.tup (bJ.two (.int _) (.int _)) c) (bJ.cons (bJ.tup (bJ.two (.int _) (.int _)) b) (bJ.cons (.int _) (bJ.cons (.int _) (bJ.two (.int _) (.int _)))))) d
def iX{α:Type}{f:α->D}{R:B4->α->Prop}{l:L α}(g:as.length=l.length)(h:∀(i:M')(a:B4)(x:α),as[i]? =O a->l[i]? =O x->R a x)(k:∀x∈l,∀a,R a x->At K H (.ref a) (f x)):bJ K H (as.map V.ref) (l.map f):=by
 refine⟨by rw[AC,AC,g],λj v d e b=>?_⟩;rw[B6]at e b;obtain⟨a,m,rfl⟩:=Sn.mp e;obtain⟨x,c,rfl⟩:=Sn.mp b;exact k x (Do c) a (h j a x m c)
theorem AQ{w:L Z}(h:∀x∈w,x.length<=1000):bJ K H (dC w) (w.map D.str):=by
 unfold dC;refine⟨by rw[AC,AC],λj v d e c=>?_⟩;rw[B6]at e c;obtain⟨a,f,rfl⟩:=Sn.mp e;obtain⟨x,b,rfl⟩:=Sn.mp c;rw[f]at b
 injection b with b
 subst b;exact .str _ (az (by have :=h a (Do f);lia))
theorem qU{s:B4}(h:rT H s ws)(g:gf ws):At K H (.ref s) (eM ws):=by
 obtain⟨as,j,b,d⟩:=h;rw[AC]at b;refine bJ.tup (iX (R:=λa w=>H a=O (.tup (dC w))) b (λi a x f c=>d i a _ f (by rw[B6,c];rfl)) λw e a k=>bJ.tup (AQ λx l=>?_) k) j;have :=((g.2 w e).2.2 x l).2
 lia
theorem JA{q:B4}(h:d_ H q wh)(g:wh.Good):At K H (.ref q) (fY wh):=by
 cases wh with
 |leaf a b=>exact bJ.tup (bJ.two (.int _) (.int _)) h
 |lined k w D z=>exact bJ.tup (bJ.cons (.int _) (bJ.two (.str _ (az (by have :=g.2.1;lia))) (.str _ (az (by have :=g.2.2;lia))))) h
 |table c w z u=>
  obtain⟨s,as,e,d,f,r⟩:=h;rw[AC]at f;exact bJ.tup (bJ.cons (.int _) (bJ.cons (.int _) (bJ.two (.str _ (az (by have :=g.2.2.1;lia))) (bJ.tup (iX (R:=λa p=>H a=O (.tup (jv p))) f (λi a x n m=>r i a _ n (by rw[B6,m];rfl)) λp l a B=>bJ.tup (bJ.two (.int _) (.int _)) B) d)))) e
 |words ws j=>
  obtain⟨s,e,d⟩:=h;exact bJ.tup (bJ.two (qU d g.1) (.int _)) e
 |flow v ws j=>
  obtain⟨t,s,e,d,f⟩:=h;exact bJ.tup (bJ.cons (bJ.tup (AQ λx C=>by rcases g.1 x C with rfl|rfl<;>decide +kernel) d) (bJ.two (qU f g.2.1) (.int _))) e
 |over ps=>
  obtain⟨as,e,d,f⟩:=h;refine bJ.tup (iX d f λp l a ⟨b,c,y,A,o⟩=>?_) e;obtain⟨⟨_,g1,_⟩,_,g2,_⟩:=g p l;exact bJ.tup (bJ.two (bJ.tup (bJ.two (.str _ (az aB)) (.int _)) A) (bJ.tup (bJ.two (.str _ (az aB)) (.int _)) o)) y
end
def Jv(a:dV)(n:M')(b:J')(c:Tq)(bb:L Z):Prop:=Cb a n/\(a.nm∉bb/\bb.length<60/\b<=8)/\(0<a.own.al->c=F'/\DR a.wh.kd)
def xi:aX->Prop
 | .table _ _ _ a=>vt (a.map λp=>(p.1.toNat,p.2.toNat))<=60
 |_=>WJ
def iG:Tq->J'->Fo->L Z->Prop
 |_,_,.nil,_=>WJ
 |it,a,.cons _ d b as,bb=>Jv d b.bD.length a it bb/\iG (it||decide (V.str d.wh.kd=V.str "table")) (a+1) b (bb++[d.nm])/\iG it a as (bb++(d.nm::bH b))
def bV:Fo->Prop
 | .nil=>WJ
 | .cons _ d a as=>xi d.wh/\bV a/\bV as
def eI:Fo->Prop
 | .nil=>WJ
 | .cons _ d a as=>(Sz d.wh/\d.nm.length<=100000/\a.bD.length<=100000)/\eI a/\eI as
theorem iG.app:∀{F:Fo}{c:Tq}{b:J'}{bb:L Z},iG c b (F.app G) bb↔iG c b F bb/\iG c b G (bb++bH F)
 | .nil,c,b,bb=>by show iG c b G bb↔WJ/\iG c b G (bb++[]);rw[Ni,true_and]
 | .cons a d f as,c,b,bb=>by
  show(Jv d f.bD.length b c bb/\iG _ _ f _/\iG c b (as.app G) _)↔(Jv d f.bD.length b c bb/\iG _ _ f _/\iG c b as _)/\iG c b G (bb++(d.nm::(bH f++bH as)));rw[iG.app (F:=as)]
  have e:bb++(d.nm::(bH f++bH as))=(bb++(d.nm::bH f))++bH as:=by simp
  rw[e];exact⟨λ⟨j,i,g,h⟩=>⟨⟨j,i,g⟩,h⟩,λ⟨⟨j,i,g⟩,h⟩=>⟨j,i,g,h⟩⟩
theorem iG.len:∀{F:Fo}{g:Tq}{b:J'}{bb:L Z},iG g b F bb->bb.length<=60->(bb++bH F).length<=60
 | .nil,_,_,bb,_,h=>by show(bb++[]).length<=60;rw[Ni];exact h
 | .cons a d c as,g,b,bb,⟨m,k,j⟩,h=>by
  have f:=iG.len k (by rw[B3];have :=m.2.1.2.1;show bb.length+1<=60;lia)
  have l:(bb++[d.nm])++bH c=bb++(d.nm::bH c):=by simp
  rw[l]at f;have e:=iG.len j f
  have i:(bb++(d.nm::bH c))++bH as=bb++(d.nm::(bH c++bH as)):=by simp
  rw[i]at e;exact e
theorem bV.app:∀{F:Fo},bV (F.app G)↔bV F/\bV G
 | .nil=>by show bV G↔WJ/\bV G;rw[true_and]
 | .cons a d g as=>by
  show(xi d.wh/\bV g/\bV (as.app G))↔(xi d.wh/\bV g/\bV as)/\bV G;rw[bV.app (F:=as)];exact⟨λ⟨f,e,b,c⟩=>⟨⟨f,e,b⟩,c⟩,λ⟨⟨f,e,b⟩,c⟩=>⟨f,e,b,c⟩⟩
theorem eI.app:∀{F:Fo},eI (F.app G)↔eI F/\eI G
 | .nil=>by show eI G↔WJ/\eI G;rw[true_and]
 | .cons a d b as=>by
  show((Sz d.wh/\d.nm.length<=100000/\b.bD.length<=100000)/\eI b/\eI (as.app G))↔((Sz d.wh/\d.nm.length<=100000/\b.bD.length<=100000)/\eI b/\eI as)/\eI G;rw[eI.app (F:=as)];exact⟨λ⟨g,f,c,e⟩=>⟨⟨g,f,c⟩,e⟩,λ⟨⟨g,f,c⟩,e⟩=>⟨g,f,c,e⟩⟩
section
variable{K:B0}
def qi{w:L Z}(h:∀x∈w,x.length<=100000):bJ K H (dC w) (w.map D.str):=by
 unfold dC;refine⟨by rw[AC,AC],λj v d e c=>?_⟩;rw[B6]at e c;obtain⟨a,f,rfl⟩:=Sn.mp e;obtain⟨x,b,rfl⟩:=Sn.mp c;rw[f]at b
 injection b with b
 subst b;exact .str _ (az (h a (Do f)))
def tf{s:B4}(h:rT H s ws)(g:Qz ws):At K H (.ref s) (eM ws):=by
 obtain⟨as,j,b,d⟩:=h;rw[AC]at b;exact bJ.tup (iX (R:=λa w=>H a=O (.tup (dC w))) b (λi a x f c=>d i a _ f (by rw[B6,c];rfl)) λw e a k=>bJ.tup (qi λx l=>(g.2 w e).2 x l) k) j
def Ik{q:B4}(h:d_ H q wh)(g:Sz wh):At K H (.ref q) (fY wh):=by
 cases wh with
 |leaf a b=>exact bJ.tup (bJ.two (.int _) (.int _)) h
 |lined k w C z=>exact bJ.tup (bJ.cons (.int _) (bJ.two (.str _ (az g.1)) (.str _ (az g.2)))) h
 |table c w z u=>
  obtain⟨s,as,e,d,f,r⟩:=h;rw[AC]at f;exact bJ.tup (bJ.cons (.int _) (bJ.cons (.int _) (bJ.two (.str _ (az g.2)) (bJ.tup (iX (R:=λa p=>H a=O (.tup (jv p))) f (λi a x n m=>r i a _ n (by rw[B6,m];rfl)) λp l a B=>bJ.tup (bJ.two (.int _) (.int _)) B) d)))) e
 |words ws j=>
  obtain⟨s,e,d⟩:=h;exact bJ.tup (bJ.two (tf d g) (.int _)) e
 |flow v ws j=>
  obtain⟨t,s,e,d,f⟩:=h;exact bJ.tup (bJ.cons (bJ.tup (qi g.2) d) (bJ.two (tf f g.1.2) (.int _))) e
 |over ps=>
  obtain⟨as,e,d,f⟩:=h;refine bJ.tup (iX d f λp l a ⟨b,c,y,A,o⟩=>?_) e;obtain⟨g1,g2⟩:=g.2 p l;exact bJ.tup (bJ.two (bJ.tup (bJ.two (.str _ (az g1)) (.int _)) A) (bJ.tup (bJ.two (.str _ (az g2)) (.int _)) o)) y
theorem Aq:∀(F:Fo),F.Ok H->eI F->bJ K H (F.bD.map V.ref) (fD F)
 | .nil,_,_=>bJ.nil
 | .cons a d j as,⟨⟨o,q,p,k,g,e,i⟩,b,c⟩,⟨⟨g1,g2,_⟩,h,f⟩=>by
  refine bJ.cons ?_ (Aq as c f);exact bJ.tup (bJ.cons (.str _ (az (by have :=B10P.kd_len d.wh;lia))) (bJ.cons (.str _ (az g2)) (bJ.cons (F3 g) (bJ.two (Ik e g1) (bJ.tup (Aq j b h) i))))) k
end
inductive P0(vs:L V)(H:Hp)(Q:VK):Prop
 |mk (a:B4) (bd:dV) (ts:L B4) (c0:vs=[.ref a]) (c1:Fo.lh H a bd ts) (c2:Q (.int bd.own.al) H)
def OP:Sp:=λa H Q _=>P0 a H Q
def Qs(v u:V)(H:Hp)(p:Prop):Prop:=∃(a:B4)(b:dV)(ts:L B4)(c:Tq),v= .ref a/\u= .bl c/\Fo.lh H a b ts/\p=(DR b.wh.kd/\c=F')
inductive Ph(vs:L V)(H:Hp)(Q:VK):Prop
 |mk (a:B4) (bd:dV) (ts:L B4) (c0:vs=[.ref a]) (c1:Fo.lh H a bd ts) (c2:bd.nm.length<=100000) (c3:∀v H',aa H H'->Q v H')
def PZ:Sp:=λa H Q _=>Ph a H Q
inductive OQ(vs:L V)(H:Hp)(Q:VK):Prop
 |mk (a:B4) (bd:dV) (cs:Fo) (dep:J') (it:Tq) (dN:B4) (bb:L Z) (c0:vs=[.ref a,.int dep,.bl it,.ref dN]) (c1:(Fo.cons a bd cs .nil).Ok H) (c2:eI (.cons a bd cs .nil)) (c3:H dN=O (.dK (yh bb))) (c4:bb.length<=60) (c5:(Jv bd cs.bD.length dep it bb->∀H',aa H H'->Q (.bl F') H')) (c6:(¬(Jv bd cs.bD.length dep it bb/\xi bd.wh)->∀H',aa H H'->Q (.bl T') H'))
def Qq(K:B0):Sp:=λa H Q _=>OQ a H Q
section
variable{K:B0}
noncomputable abbrev Kw:L Z:=Zb
def GL:ay Kw Zb (aj rD):=dH
def DO(F:c_ K "alike_of" "alike_of" rD f fd)(N:aQ mg)(g:Cl P w K mg B' 1 (B10P.gQ 2) "own_of"):aS P w K mg B' dz 2 f fd Zb OP:=by
 refine F.fb GL λl A j s H n Q E d h=>?_
 ·obtain⟨a,m,ts,e,b,k⟩:=h;subst e;refine⟨_,ai (ar (cy (pq g d (aN (pv 0))) af)),?_⟩
  try rw[cA]
  obtain⟨o,q,p,i,⟨u,t,c,_⟩,_⟩:=b;exact⟨_,U,a,_,_,U,i,U,o,_,_,_,U,U,bq.of c,U,k⟩
abbrev PR:L Z:=["box","in_table"]
def MH:ay PR ["box","in_table"] (aj jZ):=dH
def Je(d:pH K mg tk ad)(F:c_ K "may_be_alike" "may_be_alike" jZ f fd)(N:aQ mg)(j:Cl P w K mg B' 1 (B10P.gQ 0) "kind_of"):aS P w K mg B' dz 2 f fd ["box","in_table"] (fc Qs):=by
 refine F.fb MH λC A x s H G Q E t h=>?_
 ·obtain⟨v,u,p,e,m,n,i⟩:=h;subst e;refine⟨_,ai (ar (bC (dA (r:=yL K F') dj (pq j t (aN (pv 0))) (aV (v:= .ref (ad 4)) (by rfl) d.tALIKE_KINDS U) (by rfl)) (cI (GX (pv 1))))),?_⟩
  try rw[cA]
  obtain⟨a,D,ts,k,rfl,rfl,⟨o,q,p,g,_⟩,rfl⟩:=m;refine((cJ (cO (sQ (ws:=["leaf","row","column","wrap"]) (yv (v_var U) g U) eK d.sALIKE_KINDS) λ_=>λH1 y B l n1=>?_)).iff ⟨λ⟨c,b⟩=>⟨by simpa[DR]using c,b⟩,λ⟨c,b⟩=>⟨by simpa[DR]using c,b⟩⟩).go n i;refine⟨_,U,_,U,?_⟩
  cases k with
  |false=>exact l U H1 (aa.refl _)
  |true=>exact n1 (λz=>nomatch z) H1 (aa.refl _)
noncomputable abbrev zK:L Z:=Za
def xB:ay zK Za (aj nP):=dH
def uQ(F:c_ K "name_told" "name_told" nP f fd)(N:aQ mg)(n:Cl P w K mg B' 1 (fc lP) "is_tuple_of")(j:Cl P w K mg B' 1 (dO RH) "is_name")(i:Cl P w K mg B' 1 (B10P.gQ 1) "name_of"):aS P w K mg B' dz 2 f fd Za PZ:=by
 refine F.fb xB λu A t s H x Q E b h=>?_
 ·obtain⟨a,v,ts,e,m,r,k⟩:=h;subst e
  refine⟨_,ah (aO (cn (b_ (pq n b (bO (pv 0) af))) (bU (b_ (pq j b (aN (pq i b (aN (pv 0)))))))).pt (ai (ar (pq i b (aN (pv 0))))) aD)
   (ai (ar zB)),?_⟩
  try rw[cA]
  obtain⟨o,q,p,d,_⟩:=m;refine aq λl g=>?_;refine(gB (dy (oZ (v_var U) eK λ_ z=>⟨a,_,_,U,U,z _ _ d,U⟩)) λ_=>dy (nu (yv (v_var U) d U) λ_ _=>⟨_,U,r,U⟩)) H _ (aa.refl _) (λ_ H1 c=>dJ ⟨_,U,a,_,_,U,c _ _ d,U,k _ H1 c⟩) λ_ H1 c=>bW ?_;refine g _ _ ?_;clear g l;exact k _ H1 c
noncomputable abbrev KL:L Z:=Zh
def Iv:ay KL Zh (aj nh):=dH
theorem EJ(CC:pH K mg tk ad)(F:c_ K "is_amiss" "is_amiss" nh f fd)(N:aQ mg)(C1:Cl P w K mg B' 7 (dO Qr) "is_box")(C2:Cl P w K mg B' 1 (B10P.gQ 1) "name_of")(C3:Cl P w K mg B' 2 OP "alike_of")(C4:Cl P w K mg B' 2 (fc Qs) "may_be_alike")(C5:Cl P w K mg B' 1 (B10P.gQ 0) "kind_of")(C6:Cl P w K mg B' 5 (tW K) "table_rows"):aS P w K mg B' dz 8 f fd Zh (Qq K):=by
 refine F.fb Iv λC' A U' s H vs Q E r h=>?_
 ·obtain⟨a,b,m,l,B,dN,bb,e,ok,sz,a4,hl,ys,no⟩:=h;subst e
  have hu:(A.deeper (SY "is_amiss" (aj nh) s.heap.objs.size f C')).units+1<Uy:=by have :=r.units;lia
  refine⟨_,ah (aO (fL (b_ (pq C1 r (aN (pv 0))))) (ai (ar fj)) aD)
   (ah (aO (yy (GD (Fc hu (pq C2 r (aN (pv 0))) (pv 3))) (yy (bh Qw (aI EI (by rfl) N.len Tc (aN (pv 3))) (aV (v:= .int 60) (by rfl) CC.cBOXES_MOST ⟨_,U⟩) (bB _)) (vq (bh oK (pv 1) (aV (v:= .int 8) (by rfl) CC.cDEEPEST ⟨_,U⟩) (bB _))))).pt (ai (ar fj)) aD)
   (ah (aO (cn (bh oK (pq C3 r (aN (pv 0))) af (bB _)) (bU (fL (b_ (pq C4 r (bO (pv 0) (pv 2))))))).pt (ai (ar fj)) aD)
   (ai (ar (bC (dA lT (pq C5 r (aN (pv 0))) ak (bB _)) (cI (dA oK (pq C6 r (aN (pv 0))) (aV (v:= .int 60) (by rfl) CC.cTABLE_ROWS ⟨_,U⟩) (bB _)))))))),?_⟩
  try rw[cA]
  have S:=ok.1;have hz:=sz.1;have a1:=S;obtain⟨o,q,p,ha,ho,hq,I⟩:=a1;refine aq λx n=>?_;refine dy (nu (p:=Cb b m.bD.length) (v_var U) λ_ z=>⟨a,b,m.bD,U,S.keep (KT.same z),hz.1,hz.2.1,U⟩) H _ (aa.refl _) (λJ H1 i=>bW ?_) λJ H1 i=>dJ (no (λz=>J z.1.1) H1 i);refine n _ _ ?_;clear n x;have a5:=i _ _ ha;have C:=i _ _ a4;refine aq λx n=>?_;refine⟨_,U,a,_,_,U,a5,U,_,U,dN,_,U,.inl ⟨_,.inr b.nm,.inl C,U,U⟩,?_⟩;rw[vA];refine⟨_,U,fJ (λz=>dJ (no (λu=>u.1.2.1.1 (Pv z)) H1 i)) λz1=>?_⟩;refine⟨_,U,dN,_,U,.inl C,_,_,U,U,_,U,?_⟩;rw[A0];refine fJ (λz=>dJ (no (λu=>by have :=Pv z;have :=u.1.2.1.2.1;lia) H1 i)) λz2=>?_;refine⟨_,U,_,_,U,U,_,U,fJ (λz=>no (λu=>by have :=Pv z;have :=u.1.2.1.2.2;lia) H1 i) λz3=>?_⟩;refine n _ _ ?_;clear n x;have n1:b.nm∉bb:=λu=>z1 (FB u)
  have n2:bb.length<60:=by
   rcases Z3 bb.length 60 with u|u
   ·exact u
   ·exact KB (FB aB) z2
  have n3:l<=8:=by
   rcases Int.lt_or_le 8 l with u|u
   ·exact KB (FB u) z3
   ·exact u
  refine aq λx n=>?_
  have rest:(0<b.own.al->B=F'/\DR b.wh.kd)->∀k,aa H1 k->x [O (.ref a),O (.int l),O (.bl B),O (.ref dN)] k:=λa3 k G=>n _ _ (by
   have g:=aa.trans i G;have y:Jv b m.bD.length l B bb:=⟨J,⟨n1,n2,n3⟩,a3⟩;refine⟨_,U,a,_,_,U,g _ _ ha,U,U,_,U,fJ (λd=>?_) (λd=>ys y k g)⟩;have d:V.str b.wh.kd=V.str "table":=Pv d
   injection d with d
   have X:At K k (.ref a) (Kc b.wh.kd b.nm b.own b.wh (fD m)):=(Aq (K:=K) (.cons a b m .nil) (ok.keep (KT.same g)) sz).2 0 _ _ U U;obtain⟨nm,own,wh⟩:=b
   cases wh with
   |table c W R j=>
    obtain⟨h1,⟨h2,h3⟩,⟨h4,h5⟩,h6,h7,h8⟩:=J.2.2
    have e1:((c.toNat:M'):J')=c:=by lia
    have e2:(j.map λp=>(p.1.toNat,p.2.toNat)).map dS=j.map λp=>D.tup [.int p.1,.int p.2]:=by
     rw[SN];refine TM λp I=>?_;obtain⟨⟨q1,q2⟩,q3,d⟩:=h8 p I;show D.tup [.int ((p.1.toNat:M'):J'),.int ((p.2.toNat:M'):J')]=_;rw[show((p.1.toNat:M'):J')=p.1 by lia,show((p.2.toNat:M'):J')=p.2 by lia]
    have a0:At K k (.ref a) (.tup [.str "table",.str nm,u_ own,.tup [.int ((c.toNat:M'):J'),.int W,.str R,.tup ((j.map λp=>(p.1.toNat,p.2.toNat)).map dS)],.tup (fD m)]):=by
     rw[e1,e2];exact X
    refine⟨_,U,.ref a,_,_,_,_,_,_,c.toNat,j.map λp=>(p.1.toNat,p.2.toNat),U,a0,⟨λsp a2=>?_,aB,by rw[AC];lia⟩,λM H3 hM s3=>⟨_,_,U,U,qC (λz=>no (λu=>?_) H3 (aa.trans g s3)) λz=>ys y H3 (aa.trans g s3)⟩⟩
    ·obtain⟨p,I,rfl⟩:=Su.mp a2;obtain⟨⟨q1,q2⟩,q3,d⟩:=h8 p I;dsimp only
     lia
    ·have hS:vt (j.map λp=>(p.1.toNat,p.2.toNat))<=60:=u.2
     lia
   |lined k0 W al R=>
    exfalso;have z:=LY k0 W al R;rw[show(aX.lined k0 W al R).kd="table"from d]at z
    revert z
    decide +kernel
   |leaf=>exact KB d (by show¬("leaf":Z)="table";decide +kernel)
   |words=>exact KB d (by show¬("words":Z)="table";decide +kernel)
   |flow=>exact KB d (by show¬("flow":Z)="table";decide +kernel)
   |over=>exact KB d (by show¬("over":Z)="table";decide +kernel))
  refine⟨_,U,a,b,m.bD,U,S.keep (KT.same i),_,_,U,U,_,U,fJ (λt=>?_) (λt=>bW (rest (λz=>KB (FB z) t) H1 (aa.refl _)))⟩;have t:=Pv t;exact(dy (oZ (p:=DR b.wh.kd/\B=F') (v_var U) (v_var U) λ_ z=>⟨a,b,m.bD,B,U,U,(S.keep (KT.same i)).keep (KT.same z),U⟩)) H1 _ (aa.refl _) (λT k G=>bW (rest (λ_=>⟨T.2,T.1⟩) k G)) λT k G=>dJ (no (λu=>T ⟨(u.1.2.2 t).2,(u.1.2.2 t).1⟩) k (aa.trans i G))
end
noncomputable def cD{α β:Type}(f:α->O' β):L α->O' (L β)
 |[]=>O []
 |x::l=>(f x).bind λd=>(cD f l).map (d::·)
theorem jc{α β:Type}(f:α->O' β)(r:L α):∀l:L α,cD f (l++r)=(cD f l).bind λds=>(cD f r).map (ds++·)
 |[]=>by
  show cD f r=(cD f r).map ([]++·)
  cases cD f r<;>rfl
 |x::l=>by
  show((f x).bind λd=>(cD f (l++r)).map (d::·))=((f x).bind λd=>(cD f l).map (d::·)).bind λds=>(cD f r).map (ds++·);rw[jc f r l]
  cases f x with
  |none=>rfl
  |some d=>
   cases cD f l with
   |none=>rfl
   |some ds=>cases cD f r<;>rfl
theorem jS{α β:Type}{f:α->O' β}:∀{l:L α}{ds:L β},cD f l=O ds->ds.length=l.length
 |[],ds,h=>by cases h;rfl
 |x::l,ds,h=>by
  have h:((f x).bind λd=>(cD f l).map (d::·))=O ds:=h
  cases e:f x with
  |none=>rw[e]at h;cases h
  |some d=>
   rw[e]at h
   cases a:cD f l with
   |none=>rw[Uw,a]at h;cases h
   |some b=>
    rw[Uw,a]at h
    cases h
    show b.length+1=l.length+1;rw[jS a]
def oA(K:B0)(CN:B4)(E:XK)(σ:St)(H0:Hp)(te:TE)(o:O' D):Prop:=∀(H:Hp)(Q:VK),aa H0 H->(∀d,o=O d->∀v H',aa H H'->At K H' v d->Q v H')->(o=Y->∀H',aa H H'->E (.ref CN) Y H')->te σ H Q
def KH(K:B0)(CN:B4)(E:XK)(σ:St)(H0:Hp)(ta:TA)(o:O' (L D)):Prop:=∀(H:Hp)(Q:L V->Hp->Prop),aa H0 H->(∀ds,o=O ds->∀xs H',aa H H'->bJ K H' xs ds->Q xs H')->(o=Y->∀H',aa H H'->E (.ref CN) Y H')->ta σ H Q
def OE(K:B0)(CN:B4)(E:XK)(σ:St)(H0:Hp)(te:TE)(o:O' (L D)):Prop:=∀(H:Hp)(Q:VK),aa H0 H->(∀ds,o=O ds->∀l xs H',aa H H'->H' l=O (.lst xs)->bJ K H' xs ds->Q (.ref l) H')->(o=Y->∀H',aa H H'->E (.ref CN) Y H')->te σ H Q
section
variable{K:B0}{tl:TA}{o:O' D}
def f_(h:Ev K σ H0 te d):oA K CN E σ H0 te (O d):=λH Q s y _=>h H Q s λv H' a b=>y d U v H' a b
def gu:KH K CN E σ H0 dc (O []):=λH Q s y _=>y [] U [] H (aa.refl _) bJ.nil
def bg(h:oA K CN E σ H0 te o)(g:KH K CN E σ H0 tl os):KH K CN E σ H0 (aY te tl) (o.bind λd=>os.map (d::·)):=λH Q s y n=>h H _ s (λd i v H1 a j=>g H1 _ (aa.trans s a) (λds f xs c b k=>y (d::ds) (by rw[i,f];rfl) _ c (aa.trans a b) (bJ.cons (j.same b) k)) λe c b=>n (by rw[i,e];rfl) c (aa.trans a b)) λe H1 a=>n (by rw[e];rfl) H1 a
def g_(h:KH K CN E σ H0 tl os)(e:∀ds,os=O ds->ds.length<=100000):oA K CN E σ H0 (Jq tl) (os.map D.tup):=λH Q s y n=>h H _ s (λds a xs H1 b c=>⟨az (by rw[c.1];exact e ds a),λp d=>y _ (by rw[a];rfl) _ _ (aa.trans b (aa.put (aa.refl _) d)) (bJ.tup (c.same (aa.put (aa.refl _) d)) ag)⟩) λf H1 b=>n (by rw[f];rfl) H1 b
def uj(h:OE K CN E σ H0 te os):oA K CN E σ H0 (wN (λxs H Q=>∃p a,xs=[.ref p]/\((bu K H p a/\∀l,H l=Y->Q (.ref l) (upd H l (.tup a)))\/(bq K H p a/\Q (.ref p) H))) (aY te dc)) (os.map D.tup):=λH Q s y n=>h H _ s (λds c l xs H1 b e g=>⟨l,xs,U,.inl ⟨bu.of e,λt d=>y _ (by rw[c];rfl) _ _ (aa.trans b (aa.put (aa.refl _) d)) (bJ.tup (g.same (aa.put (aa.refl _) d)) ag)⟩⟩) λf H1 b=>n (by rw[f];rfl) H1 b
def hU(h:yr K σ H0 te z)(d:z.length<=100000):oA K CN E σ H0 (eS (nJ CN) [] E (aY te dc)) ((aU z).map D.int):=λH Q s y n=>h H _ s ⟨z,U,d,λm c H' a=>y _ (by rw[c];rfl) _ H' a (.int m),λb H' a=>n (by rw[b];rfl) H' a⟩
def oA.ret(h:oA K CN E σ H te o)(y:∀d,o=O d->∀v H',aa H H'->At K H' v d->D0.rt v H')(n:o=Y->∀H',aa H H'->E (.ref CN) Y H'):sf te D0 σ H:=h H _ (aa.refl _) y n
theorem zT{α:Type}{l:L α}(inj:α->V)(f:α->O' D)(G:iJ J H (l.map inj))(hn:l.length<sizeLine)(W:∀x∈l,∀H',aa H H'->oA K CN E (O (inj x)::σ) H' te (f x))(I:∀ds,cD f l=O ds->∀(k:B4)(xs:L V)(H':Hp),aa H H'->H' k=O (.lst xs)->bJ K H' xs ds->Q (.ref k) H')(F:cD f l=Y->∀H',aa H H'->E (.ref CN) Y H'):fQ J H σ gn te Q:=by
 intro k R;refine⟨λi m H'=>m=l.length-i/\i<=l.length/\aa H H'/\∃(xs:L V)(ds:L D),H' k=O (.lst xs)/\xs.length=i/\bJ K H' xs ds/\cD f (l.take i)=O ds,⟨_,U,Sm _,aa.qh (aa.refl _) R,[],[],ag,U,bJ.nil,U⟩,?_⟩;rintro i m H' ⟨rfl,hi,b,xs,ds,P,A,p,r⟩;by_cases a:i<l.length
 ·refine .inr ⟨G.1 i H' b (by rw[AC];exact a),λx T y=>?_⟩;obtain⟨e,M⟩:=G.2.2 i x H' T b y;subst e;have ex:l[i]? =O l[i]:=B2 a;rw[B6,ex]at M
  cases M
  have s:=Do ex
  have C:l.take (i+1)=l.take i++[l[i]]:=by rw[UA,ex];rfl
  have w:l=l.take (i+1)++l.drop (i+1):=(Ve _ _).symm;generalize l[i]=x at *;unfold gn;refine dJ (W x s _ b _ _ (aa.refl _) (λd hd v t B hv=>?_) λn t B=>F ?_ t (aa.trans b B))
  ·have g:=B _ _ P
   have nD:t k≠Y:=by rw[g];exactλz=>nomatch z
   refine⟨_,g,?_,_,Uz _ _ a,U,a,aa.qh (aa.trans b B) R,xs++[v],ds++[d],ag,by rw[B3,A];rfl,?_,?_⟩
   ·rw[A];lia
   ·have N:∀(u:V)(e:D),At K t u e->At K (upd t k (.lst (xs++[v]))) u e:=λu e h=>h.we Kp.store g ag;refine⟨by rw[B3,B3,p.1];rfl,λj u e o q=>?_⟩;by_cases c:j<xs.length
    ·rw[Sv c]at o;rw[Sv (by rw[<-p.1];exact c)]at q;exact N _ _ ((p.2 j u e o q).same B)
    ·rw[Re aB]at o;rw[Re (by rw[<-p.1];lia),<-p.1]at q
     have X:j-xs.length=0:=by
      have :=cQ o;simp at this
      lia
     rw[X]at o q
     cases o
     cases q
     exact N _ _ hv
   ·rw[C,jc,r];show((f x).bind λd=>O [d]).map (ds++·)=_;rw[hd];rfl
  ·rw[w,C,Sx,jc,r];show(((f x).bind λd=>(cD f (l.drop (i+1))).map (d::·))).map (ds++·)=Y;rw[n];rfl
 ·have e:i=l.length:=by lia
  have S:=G.2.1 H' b;rw[AC]at S;rw[e]at r⊢;rw[UO]at r;exact .inl ⟨S,I ds r k xs H' b P p⟩
end
noncomputable def pairF(z y:Z):O' (L D):=if(So z y).length=2 then cD (λx=>(aU x).map D.int) (So z y)else Y
noncomputable def Av(z:Z):O' D:=match So z ","with
 |[d,a,c,b]=>(aU a).bind λm=>(aU b).map λn=> .tup [.tup [.str d,.int m],.tup [.str c,.int n]]
 |_=>Y
noncomputable def eB(z:Z):L (L Z):=if z=""then[]else(So z " ").map λw=>So w "|"
inductive FQ(K:B0)(CN:B4)(vs:L V)(H:Hp)(Q:VK)(E:XK):Prop
 |mk (z y:Z) (c0:vs=[.str z,.str y]) (c1:(y.length==0)=F') (c2:z.length<=99000) (c3:(∀ds,pairF z y=O ds->∀v H',aa H H'->At K H' v (.tup ds)->Q v H')) (c4:(pairF z y=Y->∀H',aa H H'->E (.ref CN) Y H'))
def pJ(K:B0)(CN:B4):Sp:=λa H Q E=>FQ K CN a H Q E
inductive Gg(K:B0)(CN:B4)(vs:L V)(H:Hp)(Q:VK)(E:XK):Prop
 |mk (z:Z) (c0:vs=[.str z]) (c1:z.length<=99000) (c2:(∀d,Av z=O d->∀v H',aa H H'->At K H' v d->Q v H')) (c3:(Av z=Y->∀H',aa H H'->E (.ref CN) Y H'))
def uY(K:B0)(CN:B4):Sp:=λa H Q E=>Gg K CN a H Q E
inductive EL(K:B0)(vs:L V)(H:Hp)(Q:VK):Prop
 |mk (z:Z) (c0:vs=[.str z]) (c1:z.length<=90000) (c2:∀v H',aa H H'->At K H' v (eM (eB z))->Q v H')
def mO(K:B0):Sp:=λa H Q _=>EL K a H Q
section
variable{K:B0}
abbrev qL:L Z:=["text","sign"]
def yb:ay qL ["text","sign"] (aj kM):=dH
theorem vm(ON:T4 K CN gM "ValueError.__new__"=T')(mN:mg "NoTree"=O (.ref CN))(kN:Td K (.ref CN)=T')(F:c_ K "pair_read" "pair_read" kM f fd)(N:aQ mg)(I:uN P w K mg B' 1 (nJ CN) "number_read")(r:uN P w K mg B' 1 (rJ CN) "fields_read"):aS P w K mg B' (cu P w) 2 f fd ["text","sign"] (pJ K CN):=by
 refine F.rb (k:=1) yb λC' A V s H vs Q E p h=>?_
 ·obtain⟨z,y,e,c,S,M,a⟩:=h;subst e;refine⟨_,ai (ar (aM bw (by rfl) N.tuple SD (aN (mY (br (fs:=aj kM) (N:=qL) U U bf) (ff (oR r p (cN λ_ _ _ z=>z) (gh (pv 0) (pv 1) af))) (λ_ _ _ _ _ _ q=>(oR I p q (aN (pv 0)))))))),?_⟩
  try rw[cA]
  refine⟨_,U,_,U,z,y,2,U,c,S,λj l H1 b n=>?_,λj H1 b=>a ?_ H1 b⟩
  ·have v:(So z y).length=2:=by lia
   have o:pairF z y=cD (λx=>(aU x).map D.int) (So z y):=by unfold pairF;rw[KF v]
   refine⟨l,U,⟨_,bu.of n⟩,zT (K:=K) (CN:=CN) (E:=E) (λx=> .str x) (λx=>(aU x).map D.int) (iJ.list (bu.of n)) (small aB) (λx T H' X=>hU (z:=x) (λH3 Q3 s3 J=>⟨_,U,J⟩) (by have :=eL T;lia)) (λds d R xs i g B C=>?_) λG i g=>a (by rw[o];exact G) i (aa.trans b g)⟩;refine⟨R,xs,U,.inl ⟨bu.of B,λt m=>M ds (by rw[o];exact d) _ _ (aa.trans b (aa.trans g (aa.put (aa.refl _) m))) (bJ.tup (C.same (aa.put (aa.refl _) m)) ag)⟩⟩
  ·unfold pairF;rw[GM (λu=>j (by rw[u];rfl))]
abbrev sR:L Z:=["text","fields"]
def jQ:ay sR ["text"] (aj jt):=dH
theorem oW(ON:T4 K CN gM "ValueError.__new__"=T')(mN:mg "NoTree"=O (.ref CN))(kN:Td K (.ref CN)=T')(F:c_ K "anchors_read" "anchors_read" jt f fd)(N:aQ mg)(G:uN P w K mg B' 1 (nJ CN) "number_read")(S:uN P w K mg B' 1 (rJ CN) "fields_read"):aS P w K mg B' (cu P w) 2 f fd ["text"] (uY K CN):=by
 refine F.rb (k:=1) jQ λC' A U' s H vs Q E B h=>?_
 ·obtain⟨z,e,M,J,c⟩:=h;subst e
  refine⟨_,ah (pz 1 jQ.nd (oR S B (cN λ_ _ _ z=>z) (gh (pv 0) ak af)))
   (ai (ar (aR (bO (aR (bO (ny (pv 1) af) (oR G B (cN λ_ _ _ z=>z) (aN (ny (pv 1) af))))) (aR (bO (ny (pv 1) af) (oR G B (cN λ_ _ _ z=>z) (aN (ny (pv 1) af))))))))),?_⟩
  try rw[cA]
  refine aq λT I=>?_;refine⟨_,U,z,",",4,U,bf,M,λC l H1 r q=>?_,λC H1 o=>c ?_ H1 o⟩
  ·skip
   refine I _ _ ?_;clear I T
   match t:So z ",",(show(So z ",").length=4 by lia)with
   |[o,a,y,b],_=>
    have i:∀p∈So z ",",p.length<=99000:=λp R=>Tf (eL R) M;rw[t]at i q;have l1:=i o (by simp);have l2:=i a (by simp);have l3:=i y (by simp);have l4:=i b (by simp)
    have X:Av z=((((O (D.str o)).bind λd=>(((aU a).map D.int).bind λd=>(O []).map (d::·)).map (d::·)).map D.tup).bind λd=>(((((O (D.str y)).bind λd=>(((aU b).map D.int).bind λd=>(O []).map (d::·)).map (d::·)).map D.tup).bind λd=>(O []).map (d::·))).map (d::·)).map D.tup:=by
     unfold Av;rw[t];show((aU a).bind λm=>(aU b).map λn=>D.tup [.tup [.str o,.int m],.tup [.str y,.int n]])=_;generalize aU a=g;generalize aU b=x
     cases g<;>cases x<;>rfl
    rw[X]at J c;refine oA.ret (H:=H1) (g_ (bg (g_ (bg (f_ (kJ (pw (j:=0) U q U) aB)) (bg (hU (pw (j:=1) U q U) aB) gu)) ?_) (bg (g_ (bg (f_ (kJ (pw (j:=2) U q U) aB)) (bg (hU (pw (j:=3) U q U) aB) gu)) ?_) gu)) ?_) (λd hd v H' u hv=>J d hd v H' (aa.trans r u) hv) λV H' u=>c V H' (aa.trans r u)
    ·intro ds e;generalize aU a=g at e
     cases g with
     |none=>cases e
     |some m=>cases e;show 2<=100000;decide
    ·intro ds e;generalize aU b=g at e
     cases g with
     |none=>cases e
     |some m=>cases e;show 2<=100000;decide
    ·intro ds e;generalize aU a=g at e;generalize aU b=x at e
     cases g with
     |none=>cases e
     |some m=>
      cases x with
      |none=>cases e
      |some n=>cases e;show 2<=100000;decide
  ·unfold Av
   split
   ·rename_i t
    exact KB (by rw[t];rfl) C
   ·rfl
abbrev oD:L Z:=["text"]
def vc:ay oD ["text"] (aj jj):=dH
theorem sk(F:c_ K "words_read" "words_read" jj f fd)(N:aQ mg):aS P w K mg B' dz 1 f fd ["text"] (mO K):=by
 refine F.fb vc λX A T s H vs Q E hr h=>?_
 ·obtain⟨z,e,hl,k⟩:=h;subst e
  refine⟨_,ah (aO (jC (pv 0) ak) (ai (ar (aR eO))) aD)
   (ai (ar (aM bw (by rfl) N.tuple SD (aN (dQ (br (fs:=aj jj) (N:=oD) U U bf) U (ff (bY Pi UL UK iS (pv 0) (aN ak))) (λ_ _ _ _ _=>cv) (λ_ _ _ _ _=>(aM (yG (K:=K) U) (by rfl) N.tuple SD (aN (uJ (K:=K) (r:=GV) Pi UL UK (λ_=>iS) (pv 0) (aN ak)))))))))),?_⟩
  try rw[cA]
  refine aq λu q=>?_;by_cases d:z=""
  ·subst d;refine⟨_,U,U,_,U,gm (FB U) ?_⟩;refine⟨(by show 0<=sizeLine;decide),λt a=>?_⟩;exact k (.ref t) _ (aa.put (aa.refl _) a) (bJ.tup bJ.nil ag)
  ·refine⟨_,U,U,_,U,bT (GT λe=>d (by injection e)) ?_⟩;refine q _ _ ?_;clear q u
   have y:eB z=(So z " ").map λw=>So w "|":=by unfold eB;rw[GM d]
   rw[y]at k;refine⟨_,U,U,_,_,U,U,bf,az aB,λl c=>?_⟩;generalize i:upd H l _=H1
   have B:aa H H1:=by rw[<-i];exact aa.put (aa.refl _) c
   have p:H1 l=O (.lst ((So z " ").map V.str)):=by rw[<-i];exact ag
   clear i;have I:(So z " ").length<=z.length+2:=V3 z " ";refine⟨l,U,⟨_,bu.of p⟩,AM (K:=K) (α:=Z) (l:=So z " ") (λw=> .str w) (λw=> .tup ((So w "|").map D.str)) (iJ.list (bu.of p)) (small aB) (λx H' G _ _ m=>m _ (aa.refl _)) (λw H' G g W m=>?_) λR xs o hD M v C=>?_⟩
   ·have J:=eL g;refine⟨_,U,U,_,_,U,U,bf,az aB,λn j=>?_⟩;have b:aa H' (upd H' n (.lst ((So w "|").map V.str))):=aa.put (aa.refl _) j;refine⟨n,_,U,.inl ⟨bu.of ag,λt a=>?_⟩⟩;refine m (.ref t) _ (aa.trans b (aa.put (aa.refl _) a)) (bJ.tup (xs:=(So w "|").map V.str) (qi λx S=>?_) ag);have :=eL S
    lia
   ·refine⟨R,_,U,.inl ⟨bu.of v,λt a=>?_⟩⟩;have b:aa o (upd o t (.tup xs)):=aa.put (aa.refl _) a;refine k (.ref t) _ (aa.trans B (aa.trans M b)) ?_;unfold eM;rw[SN];exact bJ.tup (C.same b) ag
end
noncomputable def tv(ps:L (Z×Z))(k:Z):Z:=(lk ps k).getD ""
def Full(ps:L (Z×Z)):Prop:=∀k∈bo.map (·.1),lk ps k=O (tv ps k)/\(tv ps k).length<=90000
noncomputable def dZ(z y:Z):O' (J'×J'):=match So z y with
 |[a,b]=>(aU a).bind λm=>(aU b).map λn=>(m,n)
 |_=>Y
noncomputable def om(z:Z):O' ((Z×J')×(Z×J')):=match So z ","with
 |[d,a,c,b]=>(aU a).bind λm=>(aU b).map λn=>((d,m),(c,n))
 |_=>Y
theorem A4(z y:Z):(pairF z y).map D.tup=(dZ z y).map λp=> .tup [.int p.1,.int p.2]:=by
 unfold pairF dZ
 match So z y with
 |[]=>rfl
 |[a]=>rfl
 |[a,b]=>
  show(((aU a).map D.int).bind λd=>(((aU b).map D.int).bind λd=>(O []).map (d::·)).map (d::·)).map D.tup=_;show _=((aU a).bind λm=>(aU b).map λn=>(m,n)).map _
  cases aU a with
  |none=>rfl
  |some m=>cases aU b<;>rfl
 |a::b::c::r=>
  rw[GM (by show¬(r.length+1+1+1=2);lia)];rfl
def H_(z:Z):Av z=(om z).map Ae:=by
 unfold Av om
 match So z ","with
 |[]=>rfl
 |[a]=>rfl
 |[a,b]=>rfl
 |[a,b,c]=>rfl
 |[g,a,f,b]=>
  show((aU a).bind λm=>(aU b).map λn=>D.tup [.tup [.str g,.int m],.tup [.str f,.int n]])=((aU a).bind λm=>(aU b).map λn=>((g,m),(f,n))).map Ae
  cases aU a with
  |none=>rfl
  |some m=>cases aU b<;>rfl
 |a::b::c::d::e::r=>rfl
theorem nk{α β γ:Type}(f:α->O' β)(g:β->γ):∀l:L α,cD (λx=>(f x).map g) l=(cD f l).map (List.map g)
 |[]=>rfl
 |x::l=>by
  show(((f x).map g).bind λd=>(cD (λx=>(f x).map g) l).map (d::·))=((f x).bind λd=>(cD f l).map (d::·)).map (List.map g);rw[nk f g l]
  cases f x with
  |none=>rfl
  |some d=>cases cD f l<;>rfl
section
variable{K:B0}{tl:TA}{o:O' D}{os2:O' (L D)}
def ee{ps:L (Z×Z)}{k:Z}(e:σ[i]? =O (O (.ref a)))(b:Told H0 a ps)(c:Full ps)(d:k∈bo.map (·.1)):yr K σ H0 (BQ (eA i) (tC (.str k))) (tv ps k):=Eh e b (c k d).1
theorem lY(h:yr K σ H0 te z)(e:(y.length==0)=F')(f:z.length<=90000):oA K CN E σ H0 (eS (pJ K CN) [] E (aY te (aY (tC (.str y)) dc))) ((dZ z y).map λp=> .tup [.int p.1,.int p.2]):=λH Q s k n=>h H _ s ⟨z,y,U,e,aB,λds b v H' a c=>k _ (by rw[<-A4,b];rfl) v H' a c,λd H' a=>n (by rw[<-A4,d];rfl) H' a⟩
theorem FJ(h:yr K σ H0 te z)(f:z.length<=90000):oA K CN E σ H0 (eS (uY K CN) [] E (aY te dc)) ((om z).map Ae):=λH Q s k n=>h H _ s ⟨z,U,aB,λd e v H' a b=>k d (by rw[<-H_];exact e) v H' a b,λc H' a=>n (by rw[<-H_];exact c) H' a⟩
def Dt(h:yr K σ H0 te z)(c:z.length<=90000):Ev K σ H0 (eS (mO K) [] E (aY te dc)) (eM (eB z)):=λH Q s k=>h H _ s ⟨z,U,c,λv H' a b=>k v H' a b⟩
def Lb(h:oA K CN E σ H0 ta (os.map D.tup))(g:oA K CN E σ H0 tb (os2.map D.tup))(q:∀ds c,os=O ds->os2=O c->ds.length+c.length<=100000):oA K CN E σ H0 (ix (LN K) ta tb) (os.bind λds=>os2.map λc=> .tup (ds++c)):=λH Q s k n=>h H _ s (λd x v H1 f w=>g H1 _ (aa.trans s f) (λe t u j i y=>by
 cases os with
 |none=>cases x
 |some ds=>
  cases os2 with
  |none=>cases t
  |some c=>
   cases x
   cases t
   have q:=q ds c U U;have k:∀v H',aa H H'->At K H' v (.tup (ds++c))->Q v H':=k _ U;obtain⟨a,xs,rfl,A,m⟩:=(w.same i).tupS;obtain⟨b,z,rfl,B,o⟩:=y.tupS;refine⟨a,b,xs,z,U,U,bq.of A,bq.of B,az (by rw[m.1,o.1];exact q),λe=>?_,λ_ e=>?_,λp r=>k _ _ (aa.trans f (aa.trans i (aa.put (aa.refl _) r))) (bJ.tup ((m.app o).same (aa.put (aa.refl _) r)) ag)⟩
   ·subst e;have :ds=[]:=S0 m.1.symm;subst this;exact k _ j (aa.trans f i) y
   ·subst e;have :c=[]:=S0 o.1.symm;subst this;rw[Ni]at k
    exact k _ j (aa.trans f i) (w.same i)) λl j i=>n (by
     cases os2 with
     |none=>cases os<;>rfl
     |some e=>cases l) j (aa.trans f i)) λl H1 f=>n (by
     cases os with
     |none=>rfl
     |some e=>cases l) H1 f
def oA.set(h:oA K CN E σ H te o)(y:∀d,o=O d->∀v H',aa H H'->At K H' v d->D0.nx (σ.set i (O v)) H')(n:o=Y->∀H',aa H H'->E (.ref CN) Y H'):lO te (eY i) D0 σ H:=h H _ (aa.refl _) y n
def HX{c e:O' D}(h:(c.bind λd=>(e.bind λd=>(O []).map (d::·)).map (d::·))=O ds):ds.length=2:=by
 cases c with
 |none=>cases h
 |some a=>
  cases e with
  |none=>cases h
  |some b=>cases h;rfl
theorem ro{pts:L (L (Z×Z))}{f:L (Z×Z)->O' D}(y:∀(H:Hp)(Q:VK),aa H0 H->(∀l H',aa H H'->H' l=O (.lst (pd.map V.ref))->Q (.ref l) H')->ta σ H Q)(b:pd.length=pts.length)(J:pd.length<=1000)(z:∀(i:M')(a:B4)(x:L (Z×Z))(H1:Hp),pd[i]? =O a->pts[i]? =O x->aa H0 H1->oA K CN E (O (.ref a)::σ) H1 te (f x)):OE K CN E σ H0 (mx (Bk K ta) gn te) (cD f pts):=λH Q s k n=>y H _ s λl H1 g q=>by
 have w:(pd.zip pts).map (λp=>V.ref p.1)=pd.map V.ref:=by
  rw[show(λp:B4×L (Z×Z)=>V.ref p.1)=V.ref∘X8 from U,<-SN,Yr (by rw[b];exact B9 _)]
 have o:cD (λp=>f p.2) (pd.zip pts)=cD f pts:=by
  have c:∀l:L (B4×L (Z×Z)),cD (λp=>f p.2) l=cD f (l.map Y2):=λl=>by
   induction l with
   |nil=>rfl
   |cons p l B=>
    show((f p.2).bind λd=>(cD (λp=>f p.2) l).map (d::·))=_;rw[B];rfl
  rw[c,aby (by rw[b];exact B9 _)]
 refine⟨l,U,⟨_,bu.of q⟩,zT (K:=K) (CN:=CN) (E:=E) (α:=B4×L (Z×Z)) (l:=pd.zip pts) (λp=> .ref p.1) (λp=>f p.2) (by rw[w];exact iJ.list (bu.of q)) (small (by rw[YF];lia)) (λp t H' r=>?_) (λds h G xs e m v C=>k ds (by rw[<-o];exact h) G xs e (aa.trans g m) v C) λA e m=>n (by rw[<-o];exact A) e (aa.trans g m)⟩;obtain⟨j,I⟩:=Tv t;obtain⟨F,u⟩:=zf I;exact z j p.1 p.2 H' F u (aa.trans s (aa.trans g r))
end
noncomputable def lX(ps:L (Z×Z)):O' Own:=(aU (tv ps "grow")).bind λg=>(aU (tv ps "shrink")).bind λs=>(aU (tv ps "rank")).bind λr=>(aU (tv ps "alike")).bind λa=>(dZ (tv ps "wide") "..").bind λp=>(dZ (tv ps "high") "..").map λq=>⟨p.1,p.2,q.1,q.2,g,s,r,a⟩
noncomputable def vx(k:M')(ps:L (Z×Z)):O' aX:=(aU (tv ps "gap")).map λg=> .lined k g (tv ps "align") (tv ps "side")
noncomputable def ik(kd:Z)(ps:L (Z×Z))(pts:L (L (Z×Z))):O' aX:=
 if kd="row"then vx 0 ps else if kd="column"then vx 1 ps else if kd="wrap"then vx 2 ps
 else if kd="leaf"then(dZ (tv ps "wish") ",").map λp=> .leaf p.1 p.2
 else if kd="table"then(cD (λt=>dZ (tv t "span") ",") pts).bind λa=>(aU (tv ps "columns")).bind λc=>(aU (tv ps "gap")).map λg=> .table c g (tv ps "side") a
 else if kd="words"then(aU (tv ps "joint")).map λj=> .words (eB (tv ps "text")) j
 else if kd="flow"then(aU (tv ps "joint")).map λj=> .flow (pts.map λt=>tv t "float") (eB (tv ps "text")) j
 else if kd="over"then(cD (λt=>om (tv t "at")) (pts.drop 1)).map .over
 else Y
inductive IZ(K:B0)(CN:B4)(vs:L V)(H:Hp)(Q:VK)(E:XK):Prop
 |mk (d:B4) (ps:L (Z×Z)) (c0:vs=[.ref d]) (c1:Told H d ps) (c2:Full ps) (c3:(∀o,lX ps=O o->∀v H',aa H H'->At K H' v (u_ o)->Q v H')) (c4:(lX ps=Y->∀H',aa H H'->E (.ref CN) Y H'))
def E6(K:B0)(CN:B4):Sp:=λa H Q E=>IZ K CN a H Q E
inductive Ht(K:B0)(CN:B4)(vs:L V)(H:Hp)(Q:VK)(E:XK):Prop
 |mk (kd:Z) (d pl:B4) (pd:L B4) (ps:L (Z×Z)) (pts:L (L (Z×Z))) (c0:vs=[.str kd,.ref d,.ref pl]) (c1:Told H d ps) (c2:Full ps) (c3:H pl=O (.lst (pd.map V.ref))) (c4:Px H pd pts) (c5:(∀t∈pts,Full t)) (c6:pd.length<=1000) (c7:(∀wh,ik kd ps pts=O wh->∀v H',aa H H'->At K H' v (fY wh)->Q v H')) (c8:(ik kd ps pts=Y->∀H',aa H H'->E (.ref CN) Y H'))
def Bq(K:B0)(CN:B4):Sp:=λa H Q E=>Ht K CN a H Q E
section
variable{K:B0}
abbrev tX:L Z:=["told","numbers"]
def qB:ay tX ["told"] (aj jR):=dH
theorem xK(ON:T4 K CN gM "ValueError.__new__"=T')(mN:mg "NoTree"=O (.ref CN))(kN:Td K (.ref CN)=T')(F:c_ K "own_read" "own_read" jR f fd)(N:aQ mg)(C1:uN P w K mg B' 1 (nJ CN) "number_read")(C2:uN P w K mg B' 2 (pJ K CN) "pair_read"):aS P w K mg B' (cu P w) 3 f fd ["told"] (E6 K CN):=by
 refine F.rb (k:=2) qB λC' A U' s H vs Q E J h=>?_
 ·obtain⟨d,ps,e,ht,q,hy,C⟩:=h;subst e
  have X:(A.deeper (SY "own_read" (aj jR) s.heap.objs.size f C')).units+1<Uy:=by have :=J.units;lia
  refine⟨_,ah (wH (i:=1) (br (fs:=aj jR) (N:=tX) U U bf) qB.nd U (Te U) (gT (aR (bj ak (gh ak ak ak)))) (λ_ _ _ _ _ _ G=>(oR C1 J G (aN (cX X (pv 1) (pv 0) (λ_ _=>U))))) U)
   (ai (ar (aE JY (aR (bO (oR C2 J (cN λ_ _ _ z=>z) (bO (cX X (pv 0) ak (λ_ _=>U)) ak)) (oR C2 J (cN λ_ _ _ z=>z) (bO (cX X (pv 0) ak (λ_ _=>U)) ak)))) (aM bw (by rfl) N.tuple SD (aN (pv 1)))))),?_⟩
  try rw[cA]
  refine aq λN1 hN=>?_;refine⟨(by show 4<=sizeLine;decide),λt V=>?_⟩;generalize R:upd H t _=H1
  have S:aa H H1:=by rw[<-R];exact aa.put (aa.refl _) V
  have h1:H1 t=O (.tup [.str "grow",.str "shrink",.str "rank",.str "alike"]):=by rw[<-R];exact ag
  clear R
  have hk:∀p∈(["grow","shrink","rank","alike"]:L Z),p∈bo.map (·.1):=by decide +kernel
  have es:cD (λp=>(aU (tv ps p)).map D.int) ["grow","shrink","rank","alike"]=(aU (tv ps "grow")).bind λg=>(aU (tv ps "shrink")).bind λs=>(aU (tv ps "rank")).bind λr=>(aU (tv ps "alike")).map λa=>[D.int g,.int s,.int r,.int a]:=by
   show(((aU (tv ps "grow")).map D.int).bind λd=>(((aU (tv ps "shrink")).map D.int).bind λd=>(((aU (tv ps "rank")).map D.int).bind λd=>(((aU (tv ps "alike")).map D.int).bind λd=>(O []).map (d::·)).map (d::·)).map (d::·)).map (d::·))=_;generalize aU (tv ps "grow")=a;generalize aU (tv ps "shrink")=b;generalize aU (tv ps "rank")=c;generalize aU (tv ps "alike")=e
   cases a<;>cases b<;>cases c<;>cases e<;>rfl
  refine⟨t,U,⟨_,bq.of h1⟩,zT (K:=K) (CN:=CN) (E:=E) (α:=Z) (l:=["grow","shrink","rank","alike"]) (λp=> .str p) (λp=>(aU (tv ps p)).map D.int) (iJ.tup h1) (small (by show 4<=100000;decide)) (λp G H' x=>hU (λH3 Q3 s3 k3=>⟨_,U,_,U,d,_,U,(ht.same (aa.trans S (aa.trans x s3))).get (q p (hk p G)).1,k3⟩) (by have :=(q p (hk p G)).2;lia)) (λds j DD xs M T h2 hA=>?_) λB M T=>C ?_ M (aa.trans S T)⟩
  ·skip
   refine hN _ _ ?_;clear hN N1;have n:=aa.trans S T;have u:=ht.same n
   have eo:((((dZ (tv ps "wide") "..").map λp=>D.tup [.int p.1,.int p.2]).bind λd=>(((dZ (tv ps "high") "..").map λp=>D.tup [.int p.1,.int p.2]).bind λd=>(O []).map (d::·)).map (d::·)).bind λa=>(O ds).map λb=>D.tup (a++b))=(lX ps).map u_:=by
    unfold lX;rw[es]at j;generalize aU (tv ps "grow")=a at *;generalize aU (tv ps "shrink")=b at *;generalize aU (tv ps "rank")=c at *;generalize aU (tv ps "alike")=e at *
    cases a with
    |none=>cases j
    |some a=>
    cases b with
    |none=>cases j
    |some b=>
    cases c with
    |none=>cases j
    |some c=>
    cases e with
    |none=>cases j
    |some e=>
    cases j
    cases dZ (tv ps "wide") ".."with
    |none=>rfl
    |some p=>cases dZ (tv ps "high") ".."<;>rfl
   have ev:=Lb (K:=K) (CN:=CN) (E:=E) (H0:=M) (os2:=O ds) (g_ (bg (lY (y:="..") (ee (σ:=[O (.ref d),O (.ref DD)]) (i:=0) U u q (k:="wide") bf) bf (q "wide" bf).2) (bg (lY (y:="..") (ee (i:=0) U u q (k:="high") bf) bf (q "high" bf).2) gu)) ?_) (f_ (qu (Kn (i:=1) (a:=DD) U h2 hA))) ?_
   ·rw[eo]at ev;refine oA.ret ev (λdd I v H' x hv=>?_) λB H' x=>C ?_ H' (aa.trans n x)
    ·cases m:lX ps with
     |none=>rw[m]at I;cases I
     |some o=>rw[m]at I;cases I;exact hy o m v H' (aa.trans n x) hv
    ·cases m:lX ps with
     |none=>rfl
     |some o=>rw[m]at B;cases B
   ·intro ds e;have :=HX e
    lia
   ·intro a0 a1 e1 e2;have :=HX e1
    cases e2
    have :=jS j;have :ds.length=4:=this
    lia
  ·rw[es]at B;unfold lX;generalize aU (tv ps "grow")=a at *;generalize aU (tv ps "shrink")=b at *;generalize aU (tv ps "rank")=c at *;generalize aU (tv ps "alike")=e at *
   cases a with
   |none=>rfl
   |some a=>
   cases b with
   |none=>rfl
   |some b=>
   cases c with
   |none=>rfl
   |some c=>
   cases e with
   |none=>rfl
   |some e=>cases B
end
def og(kd:Z):tR (.str kd) Nc=decide (kd∈(Ze:L Z)):=kO (x:=kd) (xs:=Ze)
def FN{kd:Z}{ps:L (Z×Z)}{pts:L (L (Z×Z))}(h:kd∈(Ze:L Z)):∃k,ik kd ps pts=vx k ps:=by
 simp only[PP,SO,or_false]at h
 rcases h with rfl|rfl|rfl
 ·exact⟨0,U⟩
 ·exact⟨1,U⟩
 ·exact⟨2,U⟩
def cw{α β:Type}{o:O' α}{f:α->β}{d:β}(h:o.map f=O d):∃x,o=O x/\f x=d:=by
 cases o with
 |none=>cases h
 |some x=>exact⟨x,U,by injection h⟩
def ng{α β:Type}{o:O' α}{f:α->β}(h:o.map f=Y):o=Y:=by
 cases o with
 |none=>rfl
 |some x=>cases h
section
variable{K:B0}
noncomputable abbrev jq:L Z:=["kind","told","parts_told","spans","sides"]
def ku:ay jq ["kind","told","parts_told"] (aj gG):=dH
theorem uG(ON:T4 K CN gM "ValueError.__new__"=T')(mN:mg "NoTree"=O (.ref CN))(kN:Td K (.ref CN)=T')(CC:pH K mg tk ad)(F:c_ K "what_read" "what_read" gG f fd)(N:aQ mg)(C1:uN P w K mg B' 1 (nJ CN) "number_read")(C2:uN P w K mg B' 2 (pJ K CN) "pair_read")(C3:Cl P w K mg B' 1 (mO K) "words_read")(C4:uN P w K mg B' 2 (uY K CN) "anchors_read"):aS P w K mg B' (cu P w) 3 f fd ["kind","told","parts_told"] (Bq K CN):=by
 refine F.rb (k:=2) ku λC' A U' s H vs Q E V h=>?_
 ·obtain⟨kd,d,pl,pd,ps,pts,e,ht,M,a1,J,a0,S,hy,a3⟩:=h;subst e
  have I:(A.deeper (SY "what_read" (aj gG) s.heap.objs.size f C')).units+1<Uy:=by have :=V.units;lia
  refine⟨_,ah (aO (bh (r:=yL K F') dj (pv 0) (aV (v:= .ref (ad 2)) (by rfl) CC.tLINED U) (by rfl)) (ai (ar (aR (gh (oR C1 V (cN λ_ _ _ z=>z) (aN (cX I (pv 1) ak (λ_ _=>U)))) (cX I (pv 1) ak (λ_ _=>U)) (cX I (pv 1) ak (λ_ _=>U)))))) aD)
   (ah (aO (jC (pv 0) ak) (ai (ar (oR C2 V (cN λ_ _ _ z=>z) (bO (cX I (pv 1) ak (λ_ _=>U)) ak)))) aD)
   (ah (aO (jC (pv 0) ak) (ah (pz 3 ku.nd (aM bw (by rfl) N.tuple SD (aN (mY (br (fs:=aj gG) (N:=jq) U U bf) (ff (pv 2)) (λ_ _ _ _ _ _ hp=>(oR C2 V hp (bO (cX I (pv 0) ak (λ_ _=>U)) ak)))))))
    (ai (ar (aR (bj (oR C1 V (cN λ_ _ _ z=>z) (aN (cX I (pv 1) ak (λ_ _=>U)))) (gh (oR C1 V (cN λ_ _ _ z=>z) (aN (cX I (pv 1) ak (λ_ _=>U)))) (cX I (pv 1) ak (λ_ _=>U)) (pv 3))))))) aD)
   (ah (aO (jC (pv 0) ak) (ai (ar (aR (bO (pq C3 V (aN (cX I (pv 1) ak (λ_ _=>U)))) (oR C1 V (cN λ_ _ _ z=>z) (aN (cX I (pv 1) ak (λ_ _=>U)))))))) aD)
   (ah (aO (jC (pv 0) ak) (ah (pz 4 ku.nd (aM bw (by rfl) N.tuple SD (aN (dQ (br (fs:=aj gG) (N:=jq) U U bf) U (ff (pv 2)) (λ_ _ _ _ _=>cv) (λ_ _ _ _ _=>(cX I (pv 0) ak (λ_ _=>U)))))))
    (ai (ar (aR (gh (pv 4) (pq C3 V (aN (cX I (pv 1) ak (λ_ _=>U)))) (oR C1 V (cN λ_ _ _ z=>z) (aN (cX I (pv 1) ak (λ_ _=>U))))))))) aD)
   (ah (aO (jC (pv 0) ak) (ai (ar (aM bw (by rfl) N.tuple SD (aN (mY (br (fs:=aj gG) (N:=jq) U U bf) (ff (dn gq (pv 2) (eu af) eH)) (λ_ _ _ _ _ _ hp=>(oR C4 V hp (aN (cX I (pv 0) ak (λ_ _=>U)))))))))) aD)
   (ai (ia ON (by rfl) mN kN))))))),?_⟩
  try rw[cA]
  have q:∀{o:O' D}{H1:Hp},aa H H1->o=(ik kd ps pts).map fY->∀dd,o=O dd->∀v H',aa H1 H'->At K H' v dd->Q v H':=λ{o} {H1} y e dd hd v H' s' hv=>by
   rw[e]at hd;obtain⟨x,hx,rfl⟩:=cw hd;exact hy x hx v H' (aa.trans y s') hv
  have l:∀{o:O' D}{H1:Hp},aa H H1->o=(ik kd ps pts).map fY->o=Y->∀H',aa H1 H'->E (.ref CN) Y H':=λ{o} {H1} y e hn H' s'=>by
   rw[e]at hn;exact a3 (ng hn) H' (aa.trans y s')
  clear hy a3
  have bd:∀k∈bo.map (·.1),(tv ps k).length<=100000:=λk hk=>by have :=(M k hk).2;lia
  by_cases c:kd∈(Ze:L Z)
  ·skip
   refine aq λB u=>?_;refine⟨_,U,_,_,U,.inr (CC.sLINED H),U,bp,_,U,gm (by rw[og];exact FB c) ?_⟩;obtain⟨kk,ek⟩:=FN (ps:=ps) (pts:=pts) c
   have G:((((aU (tv ps "gap")).map D.int).bind λd=>((O (D.str (tv ps "align"))).bind λd=>((O (D.str (tv ps "side"))).bind λd=>(O []).map (d::·)).map (d::·)).map (d::·)).map D.tup)=(ik kd ps pts).map fY:=by
    rw[ek];unfold vx
    cases aU (tv ps "gap")<;>rfl
   exact oA.ret (H:=H) (g_ (bg (hU (ee U ht M (k:="gap") bf) (bd _ bf)) (bg (f_ (kJ (ee U ht M (k:="align") bf) (bd _ bf))) (bg (f_ (kJ (ee U ht M (k:="side") bf) (bd _ bf))) gu))) (λds e=>by
    cases e':aU (tv ps "gap")with
    |none=>rw[e']at e;cases e
    |some m=>rw[e']at e;cases e;show 3<=100000;decide)) (q (aa.refl _) G) (l (aa.refl _) G)
  have c3:kd≠"row"/\kd≠"column"/\kd≠"wrap":=⟨λe=>c (by rw[e];decide +kernel),λe=>c (by rw[e];decide +kernel),λe=>c (by rw[e];decide +kernel)⟩
  have ew:ik kd ps pts=if kd="leaf"then(dZ (tv ps "wish") ",").map λp=> .leaf p.1 p.2
 else if kd="table"then(cD (λt=>dZ (tv t "span") ",") pts).bind λT=>(aU (tv ps "columns")).bind λc=>(aU (tv ps "gap")).map λg=> .table c g (tv ps "side") T
 else if kd="words"then(aU (tv ps "joint")).map λj=> .words (eB (tv ps "text")) j
 else if kd="flow"then(aU (tv ps "joint")).map λj=> .flow (pts.map λt=>tv t "float") (eB (tv ps "text")) j
 else if kd="over"then(cD (λt=>om (tv t "at")) (pts.drop 1)).map .over
 else Y:=by
   unfold ik;rw[GM c3.1,GM c3.2.1,GM c3.2.2]
  clear c3;rw[ew]at q l;clear ew;refine aq λB u=>?_;refine⟨_,U,_,_,U,.inr (CC.sLINED H),U,bp,_,U,bT (by rw[og];exact GT c) ?_⟩;refine u _ _ ?_;clear u B;clear c;by_cases c:kd="leaf"
  ·subst c;refine aq λB u=>?_;refine⟨_,U,U,_,U,gm (FB U) ?_⟩
   have G:((dZ (tv ps "wish") ",").map λp=>D.tup [.int p.1,.int p.2])=((dZ (tv ps "wish") ",").map λp=>aX.leaf p.1 p.2).map fY:=by cases dZ (tv ps "wish") ","<;>rfl
   exact oA.ret (H:=H) (lY (ee U ht M (k:="wish") bf) bf (M "wish" bf).2) (q (aa.refl _) G) (l (aa.refl _) G)
  rw[GM c]at q l;refine aq λB u=>?_;refine⟨_,U,U,_,U,bT (GT λe=>c (by injection e)) ?_⟩;refine u _ _ ?_;clear u B;clear c;by_cases c:kd="table"
  ·subst c;rw[KF U]at q l;refine aq λB u=>?_;refine⟨_,U,U,_,U,gm (FB U) ?_⟩;refine oA.set (K:=K) (CN:=CN) (E:=E) (H:=H) (o:=(cD (λt=>(dZ (tv t "span") ",").map λp=>D.tup [.int p.1,.int p.2]) pts).map D.tup) (uj (ro (pts:=pts) (Bx U a1) J.1 S λi a t H1 ea X y=>?_)) (λdd hd vs H1 y hv=>?_) λhn H1 y=>?_
   ·have C:=a0 t (Do X);exact lY (ee U ((J.2 i a t ea X).same y) C (k:="span") bf) bf (C "span" bf).2
   ·rw[nk]at hd;obtain⟨x,hx,rfl⟩:=cw hd;obtain⟨T,a2,rfl⟩:=cw hx;have R:=ht.same y
    have G:((((aU (tv ps "columns")).map D.int).bind λd=>(((aU (tv ps "gap")).map D.int).bind λd=>((O (D.str (tv ps "side"))).bind λd=>((O (D.tup (T.map λp=>D.tup [.int p.1,.int p.2]))).bind λd=>(O []).map (d::·)).map (d::·)).map (d::·)).map (d::·)).map D.tup)=((cD (λt=>dZ (tv t "span") ",") pts).bind λT=>(aU (tv ps "columns")).bind λc=>(aU (tv ps "gap")).map λg=>aX.table c g (tv ps "side") T).map fY:=by
     rw[a2];generalize aU (tv ps "columns")=a;generalize aU (tv ps "gap")=b
     cases a with
     |none=>rfl
     |some m=>cases b<;>rfl
    exact oA.ret (H:=H1) (g_ (bg (hU (ee U R M (k:="columns") bf) (bd _ bf)) (bg (hU (ee U R M (k:="gap") bf) (bd _ bf)) (bg (f_ (kJ (ee U R M (k:="side") bf) (bd _ bf))) (bg (f_ (zC U hv)) gu)))) (λds e=>by
     generalize aU (tv ps "columns")=a at e;generalize aU (tv ps "gap")=b at e
     cases a with
     |none=>cases e
     |some m=>
      cases b with
      |none=>cases e
      |some n=>cases e;show 4<=100000;decide)) (q y G) (l y G)
   ·rw[nk]at hn;have hn:=ng (ng hn);exact l (o:=Y) (aa.refl _) (by rw[hn];rfl) U H1 y
  rw[GM c]at q l;refine aq λB u=>?_;refine⟨_,U,U,_,U,bT (GT λe=>c (by injection e)) ?_⟩;refine u _ _ ?_;clear u B;clear c;have ew:∀{H1:Hp},aa H H1->∀σ:St,σ[1]? =O (O (.ref d))->Ev K σ H1 (eS (mO K) [] E (aY (BQ (eA 1) (tC (.str "text"))) dc)) (eM (eB (tv ps "text"))):=λ{H1} y σ h=>Dt (ee h (ht.same y) M (k:="text") bf) (M "text" bf).2;by_cases c:kd="words"
  ·subst c;rw[KF U]at q l;refine aq λB u=>?_;refine⟨_,U,U,_,U,gm (FB U) ?_⟩
   have G:(((O (eM (eB (tv ps "text")))).bind λd=>(((aU (tv ps "joint")).map D.int).bind λd=>(O []).map (d::·)).map (d::·)).map D.tup)=((aU (tv ps "joint")).map λj=>aX.words (eB (tv ps "text")) j).map fY:=by cases aU (tv ps "joint")<;>rfl
   exact oA.ret (H:=H) (g_ (bg (f_ (ew (aa.refl _) _ U)) (bg (hU (ee U ht M (k:="joint") bf) (bd _ bf)) gu)) (λds e=>by
    cases e':aU (tv ps "joint")with
    |none=>rw[e']at e;cases e
    |some m=>rw[e']at e;cases e;show 2<=100000;decide)) (q (aa.refl _) G) (l (aa.refl _) G)
  rw[GM c]at q l;refine aq λB u=>?_;refine⟨_,U,U,_,U,bT (GT λe=>c (by injection e)) ?_⟩;refine u _ _ ?_;clear u B;clear c;by_cases c:kd="flow"
  ·subst c;rw[KF U]at q l;refine aq λB u=>?_;refine⟨_,U,U,_,U,gm (FB U) ?_⟩;refine Ev.set (K:=K) (H:=H) (d:= .tup (pts.map λt=>D.str (tv t "float"))) (qu (En (xs:=pts) (Bx U a1) J.1 S λi a t H1 ea X y=>?_)) λvs H1 y hv=>?_
   ·have C:=a0 t (Do X);exact kJ (ee U ((J.2 i a t ea X).same y) C (k:="float") bf) (by have :=(C "float" bf).2;lia)
   ·have R:=ht.same y
    have G:(((O (D.tup (pts.map λt=>D.str (tv t "float")))).bind λd=>((O (eM (eB (tv ps "text")))).bind λd=>(((aU (tv ps "joint")).map D.int).bind λd=>(O []).map (d::·)).map (d::·)).map (d::·)).map D.tup)=((aU (tv ps "joint")).map λj=>aX.flow (pts.map λt=>tv t "float") (eB (tv ps "text")) j).map fY:=by
     cases aU (tv ps "joint")with
     |none=>rfl
     |some j=>
      show O (D.tup [D.tup (pts.map λt=>D.str (tv t "float")),_,_])=O (D.tup [D.tup ((pts.map λt=>tv t "float").map D.str),_,_]);rw[SN];rfl
    exact oA.ret (H:=H1) (g_ (bg (f_ (zC U hv)) (bg (f_ (ew y _ U)) (bg (hU (ee U R M (k:="joint") bf) (bd _ bf)) gu))) (λds e=>by
     cases e':aU (tv ps "joint")with
     |none=>rw[e']at e;cases e
     |some m=>rw[e']at e;cases e;show 3<=100000;decide)) (q y G) (l y G)
  rw[GM c]at q l;refine aq λB u=>?_;refine⟨_,U,U,_,U,bT (GT λe=>c (by injection e)) ?_⟩;refine u _ _ ?_;clear u B;clear c;by_cases c:kd="over"
  ·subst c;rw[KF U]at q l;refine aq λB u=>?_;refine⟨_,U,U,_,U,gm (FB U) ?_⟩;clear u
   have G:(cD (λt=>(om (tv t "at")).map Ae) (pts.drop 1)).map D.tup=((cD (λt=>om (tv t "at")) (pts.drop 1)).map aX.over).map fY:=by
    rw[nk]
    cases cD (λt=>om (tv t "at")) (pts.drop 1)<;>rfl
   refine oA.ret (H:=H) (uj (ro (pd:=pd.drop 1) (pts:=pts.drop 1) (by rw[Zz];exact Co U a1) (by rw[Ta,Ta,J.1]) (by rw[Ta];lia) λi a t H1 ea X y=>?_)) (q (aa.refl _) G) (l (aa.refl _) G);rw[U_]at ea X;have C:=a0 t (Do X);exact FJ (ee U ((J.2 _ a t ea X).same y) C (k:="at") bf) (C "at" bf).2
  rw[GM c]at q l;refine aq λB u=>?_;refine⟨_,U,U,_,U,bT (GT λe=>c (by injection e)) ?_⟩;refine u _ _ ?_;clear u B;exact l (o:=Y) (aa.refl _) U U H (aa.refl _)
end
noncomputable def pA(z y:Z):Z:=(parted z y).getD 0 ""
noncomputable def pB(z y:Z):Z:=(parted z y).getD 2 ""
theorem sub_le(z:Z)(a b:M'):(PySem.Builtin.Str.strSub z a b).length<=z.length:=by
 rw[<-eU,<-eU,PySem.StrLaws.strSub_toList,TJ,Ta]
 lia
def nr(z y:Z):∃m,parted z y=[pA z y,m,pB z y]/\(pA z y).length<=z.length/\(pB z y).length<=z.length:=by
 unfold pA pB parted
 cases Builtin.Str.occurrences z y 0 z.length 1 with
 |nil=>exact⟨_,U,B9 _,Sm _⟩
 |cons i r=>exact⟨_,U,sub_le _ _ _,sub_le _ _ _⟩
def tQ(z y:Z):(ck z y).length<=z.length:=by
 unfold ck
 split
 ·exact B9 _
 ·exact sub_le _ _ _
structure jl where
 dep:M'
 kd:Z
 nm:Z
 ps:PS
noncomputable def wu(w:Z):Z×Z:=(pA w "=",pB w "=")
noncomputable def oP(a:Z):O' jl:=match So (pA (ck a " ") " text=") " "with
 |kd::b::ws=>O ⟨(a.length-(ck a " ").length)/2,kd,b,putAll bo (ws.map wu++[(("text":Z),pB (ck a " ") " text=")])⟩
 |_=>Y
def E8{k v:Z}(h:Full ps)(b:v.length<=90000):Full (qX ps k v):=λj a=>by
 unfold tv;rw[Bj];by_cases e:j=k
 ·rw[KF e];exact⟨U,b⟩
 ·rw[GM e];exact h j a
theorem wm:∀{K' ps:PS},Full ps->(∀p∈K',p.2.length<=90000)->Full (putAll ps K')
 |[],ps,h,_=>h
 |p::K',ps,h,a=>wm (K':=K') (E8 h (a p De)) λq b=>a q (Fk _ b)
def Ab:Full bo:=by
 unfold Full;decide +kernel
theorem Gk{a:Z}{r:jl}(h:oP a=O r)(f:a.length<=90000):Full r.ps/\r.kd.length<=90000/\r.nm.length<=90000:=by
 have j:=tQ a " ";obtain⟨m,_,l,i⟩:=nr (ck a " ") " text=";unfold oP at h
 match d:So (pA (ck a " ") " text=") " ",h with
 |kd::nm::ws,h=>
  have b:∀p∈So (pA (ck a " ") " text=") " ",p.length<=90000:=λp c=>by have :=eL c;lia
  rw[d]at b;have h:O (⟨(a.length-(ck a " ").length)/2,kd,nm,putAll bo (ws.map wu++[(("text":Z),pB (ck a " ") " text=")])⟩:jl)=O r:=h
  cases h
  refine⟨wm Ab λp c=>?_,b kd (by simp),b nm (by simp)⟩
  rcases Os.mp c with z|z
  ·obtain⟨x,e,rfl⟩:=Su.mp z;obtain⟨m,_,g,k⟩:=nr x "=";have :=b x (by simp[e]);show(pB x "=").length<=90000
   lia
  ·rw[Dk.mp z];show(pB (ck a " ") " text=").length<=90000
   lia
inductive Kk(C:B4)(CN:B4)(vs:L V)(H:Hp)(Q:VK)(E:XK):Prop
 |mk (row:Z) (c0:vs=[.str row]) (c1:row.length<=90000) (c2:(∀r,oP row=O r->∀(x d:B4)(H':Hp),aa H H'->E1 C H' x r.dep r.kd r.nm d->Told H' d r.ps->Q (.ref x) H')) (c3:(oP row=Y->∀H',aa H H'->E (.ref CN) Y H'))
def Iq(C CN:B4):Sp:=λa H Q E=>Kk C CN a H Q E
section
variable{K:B0}
noncomputable abbrev Di:L Z:=["row","bare","halves","words","told","word","pair"]
def fK:ay Di ["row"] (aj mS):=dH
theorem wF{f1:B4}{d1:Ud}(ON:T4 K CN gM "ValueError.__new__"=T')(mN:mg "NoTree"=O (.ref CN))(kN:Td K (.ref CN)=T'){C1 aP:B4}{ti:Tok}(GB:NW P w K mg aP ti)(F:c_ K "row_read" "row_read" mS f fd)(N:aQ mg)(G1:aS P w K mg B' dz 1 f1 d1 Zn (n_ K C1))(b1:Binds K d1 Zn [])(m1:mg "TextRow"=O (.ref C1))(M1:Mk K C1 f1):aS P w K mg B' (cu P w) 3 f fd ["row"] (Iq C1 CN):=by
 refine F.rb (k:=2) fK λC' A U' s H vs Q E hr h=>?_
 ·obtain⟨n,e,a7,hy,u⟩:=h;subst e;have a4:=hr.mono (j:=2) bp
  have hu:(A.deeper (SY "row_read" (aj mS) s.heap.objs.size f C')).units+1<Uy:=by have :=hr.units;lia
  refine⟨_,ah (pz 1 fK.nd (bY Pi PySem.F.slot_str_lstrip PySem.F.type_str_lstrip Dm (pv 0) (aN ak)))
   (ah (pz 2 fK.nd (bY Pi Y0 YZ mw (pv 1) (aN ak)))
   (ah (pz 3 fK.nd (bY Pi UL UK iS (cy (pv 2) af) (aN ak)))
   (ah (aO (bh O3 (aI bM (by rfl) N.len Tc (aN (pv 3))) af (bB _)) (ai (ia ON (by rfl) mN kN)) aD)
   (ah (pz 4 fK.nd (aM (Ac GB.dP bp) (by rfl) N.dict PyProof.Rows.boot_dict (aN (aV (v:= .ref aP) (by rfl) GB.mP U))))
   (ah (dq X9 U (ff (dn gq (pv 3) (eu af) eH)) (aZ (i:=5) fK.nd U (Te U))
    (ah (pz 6 fK.nd (bY Pi Y0 YZ mw (pv 5) (aN ak)))
    (ai (pb hu (pv 4) (cy (pv 6) af) (cy (pv 6) af) U))))
   (ah (pb hu (pv 4) ak (cy (pv 2) af) U)
   (ai (ar (JK M1 G1 a4 (by rfl) m1 b1 .nil LJ (bj (aE vW (aE gv (aI dE (by rfl) N.len Tc (aN (pv 0))) (aI dE (by rfl) N.len Tc (aN (pv 1)))) (aI dE (by rfl) N.len Tc (aN (aV (v:= .str "  ") (by rfl) GB.mI ⟨_,U⟩)))) (gh (ny (pv 3) af) (ny (pv 3) af) (pv 4)))))))))))),?_⟩
  try rw[cA]
  have b0:=tQ n " ";unfold oP at hy u;generalize hb:ck n " "=b at *;obtain⟨mm,hp,hA,hB⟩:=nr b " text=";generalize pA b " text="=r at *;generalize pB b " text="=B at *;refine aq λm c=>?_;refine⟨_,U,U,_,_,U,U,by rw[hb];exact az aB,?_⟩;rw[hb];refine c _ _ (aq λm c=>?_);refine⟨_,U,U,_,_,U,U,bf,az aB,λt ht=>?_⟩;rw[hp];generalize g:upd H t _=H1
  have s1:aa H H1:=by rw[<-g];exact aa.put (aa.refl _) ht
  have h1:H1 t=O (.tup ([r,mm,B].map V.str)):=by rw[<-g];exact ag
  clear g;refine c _ _ (aq λm c=>?_);have a2:(So r " ").length<=r.length+2:=V3 r " "
  have lb:∀p∈So r " ",p.length<=90000:=λp hp=>by have :=eL hp;lia
  refine⟨_,U,t,_,_,_,U,U,bq.of h1,aG (j:=0) U,U,_,_,U,U,bf,az aB,λl hl=>?_⟩;generalize So r " "=sp at *;generalize g:upd H1 l _=o
  have s2:aa H1 o:=by rw[<-g];exact aa.put (aa.refl _) hl
  have h2:o l=O (.lst (sp.map V.str)):=by rw[<-g];exact ag
  clear g;refine c _ _ ?_;clear c m;have a6:=s2 _ _ h1;refine aq λm c=>?_;refine⟨_,U,l,_,U,.inl (bu.of h2),_,_,U,U,_,U,?_⟩;rw[AC]
  match sp with
  |[]=>exact gm (FB (by show(0:J')<2;lia)) (u U o (aa.trans s1 s2))
  |[_]=>exact gm (FB (by show(1:J')<2;lia)) (u U o (aa.trans s1 s2))
  |kd::nm::ws=>
  have hy:=hy _ U;refine bT (GT (by rw[Da,Da];lia)) ?_;refine c _ _ (aq λm c=>?_);refine⟨U,λd hd=>?_⟩;generalize g:upd o d _=H3
  have s3:aa o H3:=by rw[<-g];exact aa.put (aa.refl _) hd
  have h3:H3 d=O (.dK (bo.map xM)):=by rw[<-g];exact ag
  clear g;refine c _ _ ?_;clear c m;have b2:=s3;refine aq λm c=>?_;refine⟨_,U,_,U,l,_,U,bu.of (s3 _ _ h2),λC J=>?_⟩
  have M:mE ((kd::nm::ws).map V.str) (O 2) Y=ws.map V.str:=by
   unfold mE;rw[HT.md,show(O 2:O' J')=O ((2:M'):J')from U,HT.pO,Xe (by rw[AC,Da,Da];lia)];exact Tp (by rw[Ta];exact B9 _)
  rw[M];generalize g:upd H3 C _=H4
  have s4:aa H3 H4:=by rw[<-g];exact aa.put (aa.refl _) J
  have h4:H4 C=O (.lst (ws.map V.str)):=by rw[<-g];exact ag
  clear g;have I:o d=Y:=hd;have a5:C≠d:=SZ (aH h3 J)
  have a9:ws.length<=90000:=by
   have :(kd::nm::ws).length<=r.length+2:=a2;rw[Da,Da]at this
   lia
  refine⟨C,U,⟨_,bu.of h4⟩,mV (K:=K) (a:=C) (xs:=ws.map V.str) (λi σ G=>∃u5 u6,σ=[O (.str n),O (.str b),O (.ref t),O (.ref l),O (.ref d),u5,u6]/\aa o G/\Told G d (putAll bo ((ws.map wu).take i))/\G C=O (.lst (ws.map V.str))/\(putAll bo ((ws.map wu).take i)).length<=16+i) ⟨_,_,U,aa.trans s3 s4,s4 _ _ h3,h4,(by rw[List.take_zero];decide +kernel)⟩ (λi σ G _ ⟨_,_,_,_,_,z,_⟩=>bu.of z) ?_ ?_⟩
  ·rintro i x σ G D ⟨u5,u6,rfl,sG,hT,q,y⟩;rw[B6]at D
   cases T:ws[i]? with
   |none=>rw[T]at D;cases D
   |some p=>
    rw[T]at D
    cases D
    have q2:p.length<=90000:=lb p (by simp[Do T]);have hi:=cQ T;refine aq λN2 S=>?_;refine⟨_,U,U,_,_,U,U,bf,az aB,λtp a3=>?_⟩;obtain⟨m',a0,_,_⟩:=nr p "=";rw[a0];generalize g:upd G tp _=G1
    have g1:aa G G1:=by rw[<-g];exact aa.put (aa.refl _) a3
    have qp:G1 tp=O (.tup ([pA p "=",m',pB p "="].map V.str)):=by rw[<-g];exact ag
    clear g;refine S _ _ ?_;clear S N2;refine⟨_,U,tp,_,_,_,U,U,bq.of qp,aG (j:=2) U,_,U,_,U,tp,_,_,_,U,U,bq.of qp,aG (j:=0) U,d,_,U,sm.k (k:= .inr (pA p "=")) (hT.same g1) (small (by rw[AC];lia)),?_⟩;rw[um]
    have et:qX (putAll bo ((ws.map wu).take i)) (pA p "=") (pB p "=")=putAll bo ((ws.map wu).take (i+1)):=by
     rw[UA,B6,T];unfold putAll;rw[Yf];rfl
    rw[et];refine(show∃u5 u6,_ from⟨_,_,U,aa.put (aa.trans sG g1) I,ag,by rw[ax a5];exact g1 _ _ q,?_⟩);have :=Hq (putAll bo ((ws.map wu).take i)) (pA p "=") (pB p "=");rw[et]at this
    lia
  ·rintro σ G ⟨u5,u6,rfl,sG,hT,q,y⟩;refine c _ _ ?_;clear c m;rw[AC,show ws.length=(ws.map wu).length from(AC wu).symm,UO]at hT y;rw[AC]at y;have a8:=sG;have tG:=sG _ _ a6;refine aq λm c=>?_;refine⟨_,U,t,_,_,_,U,U,bq.of tG,aG (j:=2) U,_,U,d,_,U,sm.k (k:= .inr "text") hT (small (by rw[AC];lia)),?_⟩;rw[um]
   have et:qX (putAll bo (ws.map wu)) "text" B=putAll bo (ws.map wu++[(("text":Z),B)]):=by
    unfold putAll;rw[Yf];rfl
   rw[et];have R:aa o (upd G d (.dK ((putAll bo (ws.map wu++[(("text":Z),B)])).map xM))):=aa.put sG I;have a1:Told (upd G d (.dK ((putAll bo (ws.map wu++[(("text":Z),B)])).map xM))) d (putAll bo (ws.map wu++[(("text":Z),B)])):=ag;generalize upd G d (.dK ((putAll bo (ws.map wu++[(("text":Z),B)])).map xM))=G2 at *;refine c _ _ ?_;clear c m;have l2:=R _ _ h2;have s0:aa H G2:=aa.trans s1 (aa.trans s2 R)
   have X:((n.length:J')-(b.length:J'))/((("  ":Z).length:M'):J')=(((n.length-b.length)/2:M'):J'):=by
    rw[show(("  ":Z).length:M')=2 from U]
    lia
   refine⟨_,U,_,U,az aB,_,U,_,U,az aB,_,_,U,U,_,U,az bf,_,_,U,U,⟨bf,bf⟩,_,U,l,_,_,_,U,U,bu.of l2,aG (j:=0) U,_,U,l,_,_,_,U,U,bu.of l2,aG (j:=1) U,_,U,?_⟩;exact Gi λx dx H' D s' hi=>hy x d H' (aa.trans s0 s') ⟨dx,by rw[<-X];exact hi⟩ (a1.same s')
end
def K7{kd:Z}(h:ik kd ps pts=O wh):wh.kd=kd:=by
 have a:∀k,vx k ps=O wh->∃g d b,wh= .lined k g d b:=λk h=>by
  obtain⟨g,_,rfl⟩:=cw h;exact⟨_,_,_,U⟩
 unfold ik at h;by_cases c:kd="row"
 ·rw[KF c]at h;obtain⟨g,d,b,rfl⟩:=a 0 h;exact c.symm
 rw[GM c]at h;clear c;by_cases c:kd="column"
 ·rw[KF c]at h;obtain⟨g,d,b,rfl⟩:=a 1 h;exact c.symm
 rw[GM c]at h;clear c;by_cases c:kd="wrap"
 ·rw[KF c]at h;obtain⟨g,d,b,rfl⟩:=a 2 h;exact c.symm
 rw[GM c]at h;clear c;by_cases c:kd="leaf"
 ·rw[KF c]at h;obtain⟨p,_,rfl⟩:=cw h;exact c.symm
 rw[GM c]at h;clear c;by_cases c:kd="table"
 ·rw[KF c]at h
  cases f:cD (λt=>dZ (tv t "span") ",") pts with
  |none=>rw[f]at h;cases h
  |some i=>
   rw[f]at h
   cases e:aU (tv ps "columns")with
   |none=>rw[e]at h;cases h
   |some n=>
    rw[e]at h;obtain⟨p,_,rfl⟩:=cw h;exact c.symm
 rw[GM c]at h;clear c;by_cases c:kd="words"
 ·rw[KF c]at h;obtain⟨p,_,rfl⟩:=cw h;exact c.symm
 rw[GM c]at h;clear c;by_cases c:kd="flow"
 ·rw[KF c]at h;obtain⟨p,_,rfl⟩:=cw h;exact c.symm
 rw[GM c]at h;clear c;by_cases c:kd="over"
 ·rw[KF c]at h;obtain⟨p,_,rfl⟩:=cw h;exact c.symm
 rw[GM c]at h
 cases h
noncomputable def nZ(kd a:Z)(ps:PS)(pts:L PS):O' dV:=(ik kd ps pts).bind λwh=>(lX ps).map λo=>⟨a,o,wh⟩
noncomputable def Of(b:dV)(ds:L D):D:=Kc b.wh.kd b.nm b.own b.wh ds
inductive Kz(K:B0)(C:B4)(CN:B4)(vs:L V)(H:Hp)(Q:VK)(E:XK):Prop
 |mk (x l d:B4) (dep:M') (kd nm:Z) (ps:PS) (as:L B4) (pt:L (D×PS)) (c0:vs=[.ref x,.ref l]) (c1:(E1 C H x dep kd nm d/\Told H d ps/\H l=O (.lst (as.map V.ref))/\F7 K H as pt)) (c2:(as.length<=1000/\kd.length<=90000/\nm.length<=90000)) (c3:Full ps) (c4:(∀t∈pt,Full t.2)) (c5:(∀b,nZ kd nm ps (pt.map (·.2))=O b->∀(v:V)(H':Hp),aa H H'->At K H' v (Of b (pt.map (·.1)))->Q v H')) (c6:(nZ kd nm ps (pt.map (·.2))=Y->∀H',aa H H'->E (.ref CN) Y H'))
def Fe(K:B0)(C CN:B4):Sp:=λa H Q E=>Kz K C CN a H Q E
section
variable{K:B0}
abbrev nI:L Z:=["row","parts","what"]
def rG:ay nI ["row","parts"] (aj kn):=dH
def mU:(["box","told","row","parts","what"]:L Z).Nodup:=by decide +kernel
theorem xf(ON:T4 K CN gM "ValueError.__new__"=T')(mN:mg "NoTree"=O (.ref CN))(kN:Td K (.ref CN)=T')(B:RowC K C)(F:c_ K "box_read" "box_read" kn f fd)(N:aQ mg)(C1:uN P w K mg B' 3 (E6 K CN) "own_read")(C2:uN P w K mg B' 3 (Bq K CN) "what_read"):aS P w K mg B' (cu P w) 4 f fd ["row","parts"] (Fe K C CN):=by
 refine F.rb (k:=3) rG λC' A U' s H vs Q E hr h=>?_
 ·obtain⟨x,l,d,b2,kd,nm,ps,as,pt,e,⟨⟨dx,hx⟩,ht,hl,a0⟩,⟨hn,a9,b1⟩,hf,a4,hy,a3⟩:=h;subst e
  refine⟨_,ah (pz 2 rG.nd (oR C2 hr (cN λ_ _ _ z=>z) (gh (kb (pv 0) U) (kb (pv 0) U) (qF (k:=2) (N':=["box","told","row","parts","what"]) (lD (fs:=aj kn) (N:=nI) U U bf) U (ff (pv 1)) (λ_ _ _ _ _=>uZ (K:=K) U U mU U U U U) (λ_ _ _ _ _=>cv) (λ_ _ _ _ _=>(pv 1))))))
   (ai (ar (aR (bj (kb (pv 0) U) (bj (kb (pv 0) U) (gh (oR C1 hr (cN λ_ _ _ z=>z) (aN (kb (pv 0) U))) (pv 2) (aM bw (by rfl) N.tuple SD (aN (qF (k:=2) (N':=["box","told","row","parts","what"]) (lD (fs:=aj kn) (N:=nI) U U bf) U (ff (pv 1)) (λ_ _ _ _ _=>uZ (K:=K) U U mU U U U U) (λ_ _ _ _ _=>cv) (λ_ _ _ _ _=>(pv 0))))))))))),?_⟩
  try rw[cA]
  obtain⟨g,da,hg⟩:=a0.pick;have r:=a0.1
  have a1:∀(i:M')(p:B4),as[i]? =O p->H p=O (.tup [g i,.ref (da i)]):=λi p e=>by
   obtain⟨q,eq⟩:∃q,pt[i]? =O q:=⟨_,B2 (by rw[<-r];exact cQ e)⟩;exact(hg i p q e eq).1
  refine aq λN1 hN=>?_;refine⟨_,U,x,C,dx,_,_,U,hx,B.cl,B.nK,U,_,U,x,C,dx,_,_,U,hx,B.cl,B.nT,U,_,U,l,U,⟨_,bu.of hl⟩,qJ (g1:=g) (g2:=λi=> .ref (da i)) (λi=> .ref (da i)) (bu.of hl) (small aB) a1 (λD i ll Q' hD T q=>⟨_,U,q⟩) λDD hD=>?_⟩;generalize J:upd H DD _=H1
  have s1:aa H H1:=by rw[<-J];exact aa.put (aa.refl _) hD
  have h1:H1 DD=O (.lst ((Tg as.length).map λi=>V.ref (da i))):=by rw[<-J];exact ag
  clear J;refine⟨kd,d,DD,(Tg as.length).map da,ps,pt.map (·.2),U,ht.same s1,hf,by rw[h1,SN];rfl,⟨by rw[AC,Ue,AC,r],λi a b0 u n=>?_⟩,(λt a8=>by obtain⟨q,hq,rfl⟩:=Su.mp a8;exact a4 q hq),by rw[AC,Ue];lia,λwh a2 v H2 s2 hv=>?_,λc H2 s2=>a3 (by unfold nZ;rw[c];rfl) H2 (aa.trans s1 s2)⟩
  ·rw[B6]at u n
   have T:i<as.length:=by
    cases e3:(Tg as.length)[i]? with
    |none=>rw[e3]at u;cases u
    |some j=>have :=cQ e3;rw[Ue]at this;exact this
   rw[aaJ T]at u
   cases u
   cases S:pt[i]? with
   |none=>rw[S]at n;cases n
   |some q=>
    rw[S]at n
    cases n
    exact(hg i _ q (B2 T) S).2.2.same s1
  refine hN _ _ ?_;clear hN N1;have y:=aa.trans s1 s2;have R:=y _ _ hx;have a7:=K7 a2
  have eo:(((O (D.str kd)).bind λd=>((O (D.str nm)).bind λd=>(((lX ps).map u_).bind λd=>((O (fY wh)).bind λd=>((O (D.tup (pt.map (·.1)))).bind λd=>(O []).map (d::·)).map (d::·)).map (d::·)).map (d::·)).map (d::·)).map D.tup)=(nZ kd nm ps (pt.map (·.2))).map λb=>Of b (pt.map (·.1)):=by
   unfold nZ;rw[a2,<-a7]
   cases lX ps<;>rfl
  have a6:∀{o:O' D},o=(nZ kd nm ps (pt.map (·.2))).map (λb=>Of b (pt.map (·.1)))->∀dd,o=O dd->∀v H',aa H2 H'->At K H' v dd->Q v H':=λ{o} e dd hd v H' M hv=>by
   rw[e]at hd;obtain⟨b,hb,rfl⟩:=cw hd;exact hy b hb v H' (aa.trans y M) hv
  have a5:∀{o:O' D},o=(nZ kd nm ps (pt.map (·.2))).map (λb=>Of b (pt.map (·.1)))->o=Y->∀H',aa H2 H'->E (.ref CN) Y H':=λ{o} e c H' M=>by
   rw[e]at c;exact a3 (ng c) H' (aa.trans y M)
  refine oA.ret (H:=H2) (g_ (K:=K) (CN:=CN) (E:=E) (bg (f_ (d:= .str kd) ?_) (bg (f_ (d:= .str nm) ?_) (bg (o:=(lX ps).map u_) ?_ (bg (f_ (zC (i:=2) U hv)) (bg (f_ (qu (l:=pt.map (·.1)) ?_)) gu))))) (λds e=>?_)) (a6 eo) (a5 eo)
  ·exactλX Q3 I k3=>⟨_,U,x,C,dx,_,_,U,I _ _ R,B.cl,B.nK,U,k3 _ X (aa.refl _) (.str _ (az aB))⟩
  ·exactλX Q3 I k3=>⟨_,U,x,C,dx,_,_,U,I _ _ R,B.cl,B.nN,U,k3 _ X (aa.refl _) (.str _ (az aB))⟩
  ·exactλX Q3 I y3 n3=>⟨_,U,x,C,dx,_,_,U,I _ _ R,B.cl,B.nT,U,d,ps,U,ht.same (aa.trans y I),hf,λo ho v H' M hv=>y3 _ (by rw[ho];rfl) v H' M hv,λc H' M=>n3 (by rw[c];rfl) H' M⟩
  ·intro X Q3 I k3;have G:=aa.trans y I;refine⟨_,U,l,U,⟨_,bu.of (G _ _ hl)⟩,qJ (g1:=g) (g2:=λi=> .ref (da i)) g (bu.of (G _ _ hl)) (small aB) (λi p e=>G _ _ (a1 i p e)) (λD i ll Q' hD T q=>⟨_,U,q⟩) λD hD=>?_⟩;generalize J:upd X D _=H4
   have s4:aa X H4:=by rw[<-J];exact aa.put (aa.refl _) hD
   have h4:H4 D=O (.lst ((Tg as.length).map g)):=by rw[<-J];exact ag
   clear J;refine k3 D _ H4 s4 h4 ⟨by rw[AC,Ue,AC,r],λi a dd u n=>?_⟩;rw[B6]at u n
   have T:i<as.length:=by
    cases e3:(Tg as.length)[i]? with
    |none=>rw[e3]at u;cases u
    |some j=>have :=cQ e3;rw[Ue]at this;exact this
   rw[aaJ T]at u
   cases u
   cases S:pt[i]? with
   |none=>rw[S]at n;cases n
   |some q=>
    rw[S]at n
    cases n
    exact(hg i _ q (B2 T) S).2.1.same (aa.trans G s4)
  ·cases e':lX ps with
   |none=>rw[e']at e;cases e
   |some m=>rw[e']at e;cases e;show 5<=100000;decide
end
abbrev TB:Type:=dV×Fo
noncomputable def lK:L TB->Fo
 |[]=> .nil
 |p::l=> .cons 0 p.1 p.2 (lK l)
noncomputable def dB(p:TB):D:=Of p.1 (fD p.2)
theorem AF:∀l:L TB,fD (lK l)=l.map dB
 |[]=>rfl
 |p::l=>by
  show _::fD (lK l)=dB p::l.map dB;rw[AF l];rfl
abbrev WF:Type:=L (M'×L (TB×PS))
noncomputable def jN(W:WF)(n:M'):L (TB×PS):=((W.find? λp=>decide (p.1=n)).map (·.2)).getD []
def mZ(W:WF)(n:M'):WF:=W.filter λp=>decide (p.1≠n)
noncomputable def iZ(W:WF)(n:M')(x:TB×PS):WF:=if(W.any λp=>decide (p.1=n))=T' then W.map (λp=>if p.1=n then(p.1,p.2++[x])else p)else W++[(n,[x])]
noncomputable def qD(q:TB×PS):D×PS:=(dB q.1,q.2)
noncomputable def wD(p:M'×L (TB×PS)):M'×L (D×PS):=(p.1,p.2.map qD)
noncomputable def yZ(W:WF):WT:=W.map wD
def Li(W:WF)(n:M'):kids (yZ W) n=(jN W n).map qD:=by
 unfold kids jN yZ;rw[Wr];show((W.find? λp=>decide (p.1=n)).map wD |>.map (·.2)).getD []=_
 cases W.find? λp=>decide (p.1=n)<;>rfl
def Kx(W:WF)(n:M'):wz (yZ W) n=yZ (mZ W n):=by
 unfold wz mZ yZ;rw[YG];rfl
def MJ(W:WF)(n:M')(x:TB×PS):addW (yZ W) n (qD x)=yZ (iZ W n x):=by
 unfold addW iZ
 have e:((yZ W).any λp=>decide (p.1=n))=W.any λp=>decide (p.1=n):=by
  unfold yZ;rw[Xa];rfl
 rw[e]
 split
 ·unfold yZ;rw[SN,SN];refine TM λp _=>?_;show(if p.1=n then(p.1,p.2.map qD++[qD x])else wD p)=wD (if p.1=n then(p.1,p.2++[x])else p)
  split
  ·show _=(p.1,(p.2++[x]).map qD);rw[KM];rfl
  ·rfl
 ·unfold yZ;rw[KM];rfl
noncomputable def v_(W:WF)(r:jl):L (TB×PS):=(jN W (r.dep+1)).reverse
noncomputable def ly(W:WF)(r:jl):O' WF:=(nZ r.kd r.nm r.ps ((v_ W r).map (·.2))).map λb=>iZ (mZ W (r.dep+1)) r.dep ((b,lK ((v_ W r).map (·.1))),r.ps)
noncomputable def pY:WF->L jl->O' WF
 |W,[]=>O W
 |W,r::a=>(ly W r).bind λb=>pY b a
def qc:WF->O' TB
 |[(0,[(p,_)])]=>O p
 |_=>Y
noncomputable def outF(a:L jl):O' TB:=(pY [] a.reverse).bind qc
def tM(W:WF):Prop:=∀p∈W,∀q∈p.2,Full q.2
variable{W:WF}
def Dz(h:tM W)(n:M'):∀q∈jN W n,Full q.2:=λq a=>by
 unfold jN at a
 cases e:W.find? λp=>decide (p.1=n)with
 |none=>rw[e]at a;cases a
 |some p=>rw[e]at a;exact h p (UX e) q a
def F_(h:tM W)(n:M')(x:TB×PS)(e:Full x.2):tM (iZ W n x):=λp b q a=>by
 unfold iZ at b
 split at b
 ·obtain⟨d,c,rfl⟩:=Su.mp b
  split at a
  ·rcases Os.mp a with z|z
   ·exact h d c q z
   ·rw[Dk.mp z];exact e
  ·exact h d c q a
 ·rcases Os.mp b with z|z
  ·exact h p z q a
  ·rw[Dk.mp z]at a;rw[Dk.mp a];exact e
def DK(h:tM W)(n:M'):tM (mZ W n):=λp a=>h p (UH.mp a).1
def Qt(C:B4)(H:Hp)(xs:L B4)(a:L jl):Prop:=xs.length=a.length/\∀(i:M')(x:B4)(r:jl),xs[i]? =O x->a[i]? =O r->∃d,E1 C H x r.dep r.kd r.nm d/\Told H d r.ps
def AZ(a:L jl):Prop:=∀r∈a,Full r.ps/\r.kd.length<=90000/\r.nm.length<=90000
inductive JI(K:B0)(C:B4)(CN:B4)(vs:L V)(H:Hp)(Q:VK)(E:XK):Prop
 |mk (lr:B4) (xs:L B4) (Lq:L jl) (c0:vs=[.ref lr]) (c1:H lr=O (.lst (xs.map V.ref))) (c2:Qt C H xs Lq) (c3:Lq.length<=1000) (c4:AZ Lq) (c5:(∀p,outF Lq=O p->∀(v:V)(H':Hp),aa H H'->At K H' v (dB p)->Q v H')) (c6:(outF Lq=Y->∀H',aa H H'->E (.ref CN) Y H'))
def F1(K:B0)(C CN:B4):Sp:=λa H Q E=>JI K C CN a H Q E
def GR(h:qc W=Y):¬∃q,yZ W=[(0,[q])]:=λ⟨q,e⟩=>by
 cases W with
 |nil=>cases e
 |cons x W=>
  cases W with
  |cons y W=>exact KB (Tb Wf e) (by simp[yZ])
  |nil=>
   obtain⟨n,l⟩:=x;have e:(n,l.map qD)=(0,[q]):=(ZD e).1;have d:n=0:=Tb X8 e;have c:l.map qD=[q]:=Tb Y2 e;subst d
   cases l with
   |nil=>cases c
   |cons a l=>
    cases l with
    |cons b l=>exact KB (Tb Wf c) (by simp)
    |nil=>cases h
def Ij{p:TB}(h:qc W=O p):∃ps,yZ W=[(0,[(dB p,ps)])]:=by
 unfold qc at h
 split at h
 ·injection h with h
  subst h;exact⟨_,U⟩
 ·cases h
section
variable{K:B0}
abbrev oY:L Z:=["rows","waiting","row","parts"]
def fg:ay oY ["rows"] (aj eZ):=dH
theorem mr(ON:T4 K CN gM "ValueError.__new__"=T')(mN:mg "NoTree"=O (.ref CN))(kN:Td K (.ref CN)=T')(TC:RowC K C)(F:c_ K "outermost_read" "outermost_read" eZ f fd)(N:aQ mg)(C1:uN P w K mg B' 4 (Fe K C CN) "box_read"):aS P w K mg B' (cu P w) 5 f fd ["rows"] (F1 K C CN):=by
 refine F.rb (k:=4) fg λC' A U' s H vs Q E hr h=>?_
 ·obtain⟨lr,xs,d,e,b7,hR,hL,hF,hy,a7⟩:=h;subst e
  have hu:(A.deeper (SY "outermost_read" (aj eZ) s.heap.objs.size f C')).units+1<Uy:=by have :=hr.units;lia
  have a6:(A.deeper (SY "outermost_read" (aj eZ) s.heap.objs.size f C')).units<Uy:=by have :=hr.units;lia
  refine⟨_,ah (pz 1 fg.nd kg)
   (ah (dq X9 U (Nx U N.rev Y1 (aN (pv 0))) (aZ (i:=2) fg.nd U (Te U))
    (ah (pz 3 fg.nd (xJ U (by rfl) N.list VT (by rfl) N.rev Y1 (aN (bY UE Xi PySem.F.type_dict_pop JQ (pv 1) (bO (aE bS (kb (pv 2) U) af) (bt eO))))))
    (ai (cK (bY SH SK SJ cC (bY UE YC PySem.F.type_dict_setdefault sg (pv 1) (bO (kb (pv 2) U) (bt eO))) (aN (aR (bO (oR C1 hr (cN λ_ _ _ z=>z) (bO (pv 2) (pv 3))) (kb (pv 2) U)))))))))
   (ah (aO (yy (bh (JN a6) (aM (Ah U) (by rfl) N.list VT (aN (pv 1))) (bt (aN af)) (bB _)) (vq (HU (aI bM (by rfl) N.len Tc (aN (cX hu (pv 1) af (λ_ _=>U)))) af))).pt (ai (ia ON (by rfl) mN kN)) aD)
   (ai (ar (cy (ny (cX hu (pv 1) af (λ_ _=>U)) af) af))))),?_⟩
  try rw[cA]
  refine aq λN1 hN=>?_;intro dw b0;generalize m:upd H dw _=H1
  have s1:aa H H1:=by rw[<-m];exact aa.put (aa.refl _) b0
  have h1:H1 dw=O (.dK []):=by rw[<-m];exact ag
  clear m;refine hN _ _ (aq λN1 hN=>?_);refine⟨_,U,lr,_,U,bu.of (s1 _ _ b7),Kt (K:=K) (a:=lr) (xs:=xs.map V.ref) (λi σ G=>∃(u2 u3:O' V)(T:L Wt)(W:WF),σ=[O (.ref lr),O (.ref dw),u2,u3]/\aa H G/\yg K H G dw T/\(eJ T=yZ W/\tM W/\outF d=(pY W (d.reverse.drop i)).bind qc)/\T.length<=i/\∀t∈T,t.as.length<=i) ⟨_,_,[],[],U,s1,⟨h1,(λt J=>nomatch J),(λt J=>nomatch J),(λt J=>nomatch J)⟩,⟨U,(λp hp=>nomatch hp),U⟩,Sm _,(λt J=>nomatch J)⟩ (λi σ G _ ⟨_,_,_,_,_,z,_⟩=>bu.of (z _ _ b7)) ?_ ?_⟩
  ·rintro i x σ G hi hx ⟨u2,u3,T,W,rfl,sG,hW,⟨I,a9,g⟩,b5,b8⟩;rw[AC]at hi hx
   have c5:i<d.length:=by rw[<-hR.1];exact hi
   rw[B6]at hx
   cases ex:xs[xs.length-1-i]? with
   |none=>rw[ex]at hx;cases hx
   |some xr=>
    rw[ex]at hx
    cases hx
    have er:d[d.length-1-i]? =O d[d.length-1-i]:=B2 aB
    have a0:d.reverse.drop i=d[d.length-1-i]::d.reverse.drop (i+1):=by
     rw[List.drop_eq_getElem_cons (by rw[T7];exact c5),List.getElem_reverse]
    obtain⟨dt,⟨dx,a2⟩,c2⟩:=hR.2 _ xr _ ex (by rw[hR.1];exact er);obtain⟨b9,c8,e5⟩:=hF _ (Do er);generalize d[d.length-1-i]=r at *;rw[a0]at g;have g:outF d=((ly W r).bind λW'=>pY W' (d.reverse.drop (i+1))).bind qc:=g;clear a0 er ex;have d2:=sG _ _ a2;refine aq λN2 c3=>?_;refine⟨_,U,.inr (.inr (.inl ⟨U,.inl ⟨_,hW.dict⟩⟩)),_,U,xr,C,dx,_,_,U,d2,TC.cl,TC.nD,U,_,_,U,U,(by show 0<=sizeLine;decide),λp0 e4=>?_⟩;generalize m:upd G p0 _=S
    have g1:aa G S:=by rw[<-m];exact aa.put (aa.refl _) e4
    have q1:S p0=O (.lst []):=by rw[<-m];exact ag
    clear m;refine⟨dw,_,Tu ((r.dep+1:M'):J'),.ref p0,U,U,g1 _ _ hW.dict,NF (hW.same g1) (aa.trans sG g1) b0 q1 b5 b8 λpl a3 D T2 d5 e8 d0 s2 c1 ep b6 b2=>⟨pl,_,U,bu.of d5,λl hl=>?_⟩⟩;refine c3 _ _ ?_;clear c3 N2;generalize m:upd D l _=G3
    have g3:aa D G3:=by rw[<-m];exact aa.put (aa.refl _) hl
    have h3:G3 l=O (.lst (a3.map V.ref).reverse):=by rw[<-m];exact ag
    clear m;have s3:=aa.trans s2 g3;have a1:=c1.same g3;clear c1;refine⟨_,U,.inr (.inr (.inl ⟨U,.inl ⟨_,a1.dict⟩⟩)),_,U,xr,C,dx,_,_,U,s3 _ _ a2,TC.cl,TC.nD,U,(by show 0<=sizeLine;decide),λp1 a4=>?_⟩;generalize m:upd G3 p1 _=G4
    have g4:aa G3 G4:=by rw[<-m];exact aa.put (aa.refl _) a4
    have h4:G4 p1=O (.lst []):=by rw[<-m];exact ag
    clear m;have s4:=aa.trans s3 g4;have d1:=a1.same g4;have hf:∀t∈T2,t.l≠p1:=λt J=>aH (a1.lst t J).1 a4;have e0:H p1=Y:=s3.free a4;dsimp only[dc];refine K3 (n:=r.dep) (i:=i) d1 s4 b0 e0 h4 hf aB b6 b2 λG5 T5 t J et s5 k5 e6 c0 e7 d6 b3=>?_
    have d9:l≠dw:=λz=>by rw[z]at h3;have :=a1.dict;rw[h3]at this;cases this
    have l5:G5 l=O (.lst (a3.reverse.map V.ref)):=by
     rw[abz];exact k5 _ _ d9 (g4 _ _ h3)
    have d3:(kids (eJ T) (r.dep+1)).reverse=(v_ W r).map qD:=by
     unfold v_;rw[I,Li,abz]
    have d4:F7 K G5 a3.reverse ((v_ W r).map qD):=by
     rw[<-d3];exact(d0.keep (KA.trans (KA.same (aa.trans g3 g4)) e6)).rev s5
    obtain⟨lt,_,_⟩:=c0.lst t J
    have e2:((v_ W r).map qD).map (·.2)=(v_ W r).map (·.2):=by rw[SN];rfl
    have e1:((v_ W r).map qD).map (·.1)=fD (lK ((v_ W r).map (·.1))):=by rw[AF,SN,SN];rfl
    refine⟨.inl ⟨U,_,bu.of lt⟩,_,U,_,U,xr,l,dt,r.dep,r.kd,r.nm,r.ps,a3.reverse,(v_ W r).map qD,U,⟨⟨dx,s5 _ _ a2⟩,c2.same s5,l5,d4⟩,⟨by rw[T7];lia,c8,e5⟩,b9,(λq hq=>by obtain⟨q0,h0,rfl⟩:=Su.mp hq;exact Dz a9 (r.dep+1) q0 (YK.mp h0)),λb hb v G6 g6 hv=>?_,λX G6 g6=>a7 ?_ G6 (aa.trans s5 g6)⟩
    ·rw[e2]at hb;rw[e1]at hv;have s6:=aa.trans s5 g6;have c6:=c0.same g6;refine⟨_,U,xr,C,dx,_,_,U,s6 _ _ a2,TC.cl,TC.nT,U,(by show 2<=sizeLine;decide),λtp c9=>?_⟩;generalize m:upd G6 tp _=G7
     have g7:aa G6 G7:=by rw[<-m];exact aa.put (aa.refl _) c9
     have h7:G7 tp=O (.tup [v,.ref dt]):=by rw[<-m];exact ag
     clear m;have s7:=aa.trans s6 g7;have b4:=c6.same g7;obtain⟨d7,_,l0⟩:=b4.lst t J;refine⟨t.l,_,.ref tp,U,U,d7,small (by rw[AC];have :=b3 t J;lia),?_⟩;refine(show∃u2 u3 T W,_ from⟨_,_,T5.map (lA t.dep tp (qD ((b,lK ((v_ W r).map (·.1))),r.ps))),iZ (mZ W (r.dep+1)) r.dep ((b,lK ((v_ W r).map (·.1))),r.ps),U,aa.put s7 l0,b4.add J h7 (hv.same g7) c2,⟨?_,F_ (DK a9 _) _ _ b9,?_⟩,by rw[AC];exact d6,λu hu=>?_⟩)
     ·rw[et,e7,ep,I,Kx,MJ]
     ·rw[g];unfold ly;rw[hb];rfl
     ·obtain⟨u0,a6,rfl⟩:=Su.mp hu;have :=K8 t.dep tp (qD ((b,lK ((v_ W r).map (·.1))),r.ps)) u0;have :=b3 u0 a6
      lia
    ·rw[e2]at X;rw[g];unfold ly;rw[X];rfl
  ·rintro σ G ⟨u2,u3,T,W,rfl,sG,hW,⟨I,a9,g⟩,b5,b8⟩;refine hN _ _ ?_;clear hN N1;rw[AC,hR.1,VZ (by rw[T7];exact B9 _)]at g;have g:outF d=qc W:=g;rw[g]at hy a7
   cases eW:qc W with
   |some p=>
    have k:=hy p eW;obtain⟨ps,eW⟩:=Ij eW;rw[eW]at I;obtain⟨t,rfl⟩:=HN I;have e1:(t.dep,t.pt)=(0,[(dB p,ps)]):=(ZD I).1;have ed:t.dep=0:=Tb X8 e1;have c7:t.pt=[(dB p,ps)]:=Tb Y2 e1;obtain⟨a,b,c⟩:=hW.lst t De;rw[c7]at b;obtain⟨tp,e3⟩:=Na (l:=t.as) b.1;rw[e3]at a b;obtain⟨v,da,z1,z2,z3⟩:=b.2 0 tp (dB p,ps) U U
    have b1:[t].map ib=[((Tu ((0:M'):J'):Key),V.ref t.l)]:=by
     show[ib t]=_;unfold ib;rw[ed]
    have o:=hW.dict;rw[b1]at o;refine aq λN1 hN=>?_;refine⟨_,U,dw,_,U,.inl o,λq hq=>?_⟩;generalize m:upd G q _=S
    have g1:aa G S:=by rw[<-m];exact aa.put (aa.refl _) hq
    have R:S q=O (.lst [.int 0]):=by rw[<-m];exact ag
    clear m;refine⟨(by show 1<=sizeLine;decide),λq2 a8=>?_⟩;generalize m:upd S q2 _=D
    have g2:aa S D:=by rw[<-m];exact aa.put (aa.refl _) a8
    have h2:D q2=O (.lst [.int 0]):=by rw[<-m];exact ag
    clear m;have B:=aa.trans g1 g2;have a5:=B _ _ o;refine .inl ⟨q,q2,_,_,U,U,bu.of (g2 _ _ R),bu.of h2,U,U,U,_,U,bT bf ?_⟩;have M:iP D dw (.int 0) (O (.ref t.l)):=iP.k (k:=Tu 0) a5;refine⟨_,U,dw,_,U,M,t.l,_,U,.inl (bu.of (B _ _ a)),U,_,U,bT (by rw[AC];show(!decide (V.int 1=V.int 1))=F';decide) ?_⟩;refine hN _ _ ?_;clear hN N1;exact⟨_,U,dw,_,U,M,t.l,_,_,_,U,U,bu.of (B _ _ a),aG (j:=0) U,tp,_,_,_,U,U,bq.of (B _ _ z1),aG (j:=0) U,k v D (aa.trans sG B) (z2.same B)⟩
   |none=>
    have k:=a7 eW;have c4:=GR eW;rw[<-I]at c4;have o:=hW.dict;refine aq λN1 hN=>?_;refine⟨_,U,dw,_,U,.inl o,λq hq=>?_⟩;generalize m:upd G q _=S
    have g1:aa G S:=by rw[<-m];exact aa.put (aa.refl _) hq
    have R:S q=O (.lst ((T.map ib).map λp=>kV p.1)):=by rw[<-m];exact ag
    clear m;refine⟨(by show 1<=sizeLine;decide),λq2 a8=>?_⟩;generalize m:upd S q2 _=D
    have g2:aa S D:=by rw[<-m];exact aa.put (aa.refl _) a8
    have h2:D q2=O (.lst [.int 0]):=by rw[<-m];exact ag
    clear m;have B:=aa.trans g1 g2;have a5:=B _ _ o
    have d8:(T.map ib).map (λp=>kV p.1)=T.map λt=>V.int (t.dep:J'):=by rw[SN];rfl
    rw[d8]at R;have sE:=aa.trans sG B
    cases T with
    |nil=>exact .inr ⟨q,q2,_,_,U,U,bu.of (g2 _ _ R),bu.of h2,(by show¬(0=1);decide),_,U,dJ (k D sE)⟩
    |cons t T=>
    cases T with
    |cons t2 T=>exact .inr ⟨q,q2,_,_,U,U,bu.of (g2 _ _ R),bu.of h2,(by show¬((T.map _).length+1+1=1);lia),_,U,dJ (k D sE)⟩
    |nil=>
     refine .inl ⟨q,q2,_,_,U,U,bu.of (g2 _ _ R),bu.of h2,U,U,U,_,U,?_⟩;by_cases c:t.dep=0
     ·obtain⟨a,b,_⟩:=hW.lst t De
      have M:iP D dw (.int 0) (O (.ref t.l)):=by
       have z:iP D dw (kV (Tu 0)) (du [ib t] (Tu 0)):=iP.k a5
       have e2:du [ib t] (Tu 0:Key)=O (.ref t.l):=by
        unfold ib;rw[c];rfl
       rw[e2]at z;exact z
      have n1:t.as.length≠1:=λe=>by
       obtain⟨x,ex⟩:∃x,t.pt=[x]:=by
        have :=b.1
        match t.pt,this with
        |[x],_=>exact⟨x,U⟩
        |[],e'=>rw[e]at e';cases e'
        |x::y::l,e'=>rw[e,Da,Da]at e';lia
       exact c4 ⟨x,by show[(t.dep,t.pt)]=_;rw[c,ex]⟩
      refine bT (by show(!(tq (V.int (t.dep:J')) (V.int 0)&&T'))=F';rw[c];decide +kernel) ⟨_,U,dw,_,U,M,t.l,_,U,.inl (bu.of (B _ _ a)),U,_,U,gm (by rw[AC,GT (λe=>n1 (by injection e with e;lia))];rfl) (k D sE)⟩
     ·exact gm (by
       show(!(((t.dep:J')==0)&&T'))=T'
       rw[beq_false_of_ne (λe=>c aB)];rfl) (k D sE)
end
inductive Qe(CB:B4)(h:M')(vs:L V)(H:Hp)(Q:VK)(E:XK):Prop
 |mk (a:B4) (bd:dV) (cs:Fo) (dep:J') (it:Tq) (dN:B4) (bb:L Z) (c0:vs=[.ref a,.int dep,.bl it,.ref dN]) (c1:cs.fq<h) (c2:(Fo.cons a bd cs .nil).Ok H) (c3:eI (.cons a bd cs .nil)) (c4:H dN=O (.dK (yh bb))) (c5:bb.length<=60) (c6:(iG it dep (.cons a bd cs .nil) bb->∀H',Kp dN H H'->H' dN=O (.dK (yh (bb++(bd.nm::bH cs))))->Q .non H')) (c7:(¬(iG it dep (.cons a bd cs .nil) bb/\bV (.cons a bd cs .nil))->∀(dx:B4)(H':Hp),Kp dN H H'->E (.ref CB) (O dx) H'))
def Qx(a:B4)(h:M'):Sp:=λb H Q E=>Qe a h b H Q E
inductive Ew(CB:B4)(vs:L V)(H:Hp)(Q:VK)(E:XK):Prop
 |mk (a:B4) (bd:dV) (cs:Fo) (c0:vs=[.ref a]) (c1:cs.fq<40) (c2:(Fo.cons a bd cs .nil).Ok H) (c3:eI (.cons a bd cs .nil)) (c4:(iG F' 1 (.cons a bd cs .nil) []->∀H',aa H H'->Q .non H')) (c5:(¬(iG F' 1 (.cons a bd cs .nil) []/\bV (.cons a bd cs .nil))->∀(dx:B4)(H':Hp),aa H H'->E (.ref CB) (O dx) H'))
def rL(a:B4):Sp:=λb H Q E=>Ew a b H Q E
section
variable{K:B0}
theorem yf{fI:B4}{dI:Ud}(F:c_ K "look_through" "look_through" hI f fd)(N:aQ mg)(JS:Cq K mg fd f Zh "look_through")(d:ownIn K CT fI=T')(a3:W4 K (.ref fI)=T')(kT:Td K (.ref CT)=T')(mT:mg "BadBox"=O (.ref CT))(GI:aS P w K mg B' dz 1 fI dI Zl (LH CT))(bI:Binds K dI Zl [])(C1:Cl P w K mg B' 8 (Qq K) "is_amiss")(C2:Cl P w K mg B' 2 PZ "name_told")(C3:Cl P w K mg B' 1 (B10P.gQ 1) "name_of")(C4:Cl P w K mg B' 1 (B10P.gQ 4) "parts_of")(C5:Cl P w K mg B' 1 (B10P.gQ 0) "kind_of"):∀h:M',aS P w K mg B' (cu P w) (9+h) f fd Zh (Qx CT h)
 |0=>by
  refine F.Rn (k:=8) zS (λvs H Q E h=>?_) (λC' A U' s H vs Q E B h=>?_)
  ·obtain⟨a,l,y,r,M,n,bb,e,_⟩:=h;rw[e];rfl
  ·obtain⟨a,l,y,r,M,n,bb,e,T,_⟩:=h;exact KB T (U0 _)
 |h+1=>by
  have GS:=yf F N JS d a3 kT mT GI bI C1 C2 C3 C4 C5 h;refine F.Rn (k:=9+h) zS (λvs H Q E h=>?_) (λC' A U' s H vs Q E B b3=>?_)
  ·obtain⟨a,l,y,r,M,n,bb,e,_⟩:=h;rw[e];rfl
  ·obtain⟨a,l,y,r,M,n,bb,e,T,ok,sz,S,hl,ys,no⟩:=b3;subst e;have b5:=B.mono (j:=2) aB
   have hu:(A.deeper (SY "look_through" (aj hI) s.heap.objs.size f C')).units+1<Uy:=by have :=B.units;lia
   refine⟨_,ah (aO (b_ (pq C1 B (bj (pv 0) (gh (pv 1) (pv 2) (pv 3))))) (ai (Ei d a3 kT GI b5 U mT bI (aN (pq C2 B (aN (pv 0)))))) aD)
    (ah (pb hu (pv 3) (pq C3 B (aN (pv 0))) fj U)
    (ai (dq X9 U (gT (pq C4 B (aN (pv 0)))) (aZ (i:=4) zS.nd U (Te U))
     (ai (cK (oR (CD GS JS) B (cN λ_ _ _ z=>z) (bj (pv 4) (gh (aE bS (pv 1) af) (A8 (pv 2) (cI (dA lT (pq C5 B (aN (pv 0))) ak (bB _)))) (pv 3))))))))),?_⟩
   have a9:=ok;obtain⟨hb,c2,-⟩:=a9;have b2:=hb;obtain⟨o,q,p,e1,e2,X,e4⟩:=b2;have t:∀{H':Hp},Kp n H H'->KT H H':=λkk b xs e=>kk b _ (λz=>by rw[z,S]at e;cases e) e;refine⟨_,U,_,U,_,U,_,U,a,l,y,r,M,n,bb,U,ok,sz,S,hl,λJ H1 s1=>⟨_,U,bW ?_⟩,λnb H1 s1=>⟨_,U,dJ ?_⟩⟩
   ·have b0:=s1 _ _ S;have c0:=J.2.1.1;refine⟨_,U,_,U,a,_,_,U,s1 _ _ e1,U,n,_,U,sm.k (k:= .inr l.nm) b0 (small (by rw[A0];lia)),?_⟩;rw[QV c0];have b9:Kp n H1 (upd H1 n (.dK (yh (bb++[l.nm])))):=Kp.store;have c3:(upd H1 n (.dK (yh (bb++[l.nm])))) n=O (.dK (yh (bb++[l.nm]))):=ag;generalize upd H1 n (.dK (yh (bb++[l.nm])))=H2 at *;have R:Kp n H H2:=(Kp.of s1).trans b9;refine⟨_,U,a,_,_,U,t R _ _ e1,U,p,U,⟨_,bq.of (t R _ _ e4)⟩,Lc (K:=K) (a:=p) (xs:=y.bD.map V.ref) (λi σ G=>∃(u4:O' V)(u C:Fo),σ=[O (.ref a),O (.int r),O (.bl M),O (.ref n),u4]/\Kp n H G/\y=u.app C/\u.bD.length=i/\G n=O (.dK (yh ((bb++[l.nm])++bH u)))/\iG (M||decide (V.str l.wh.kd=V.str "table")) (r+1) u (bb++[l.nm])) ⟨Y,.nil,y,U,R,U,U,by rw[c3];show _=O (HO.dK (yh ((bb++[l.nm])++[])));rw[Ni],trivial⟩ ?_ ?_ ?_⟩
    ·rintro i σ G hi ⟨u4,u,C,rfl,D,_⟩;exact bq.of (t D _ _ e4)
    ·rintro i x σ G ex ⟨u4,u,C,rfl,D,g,m,hG,v⟩
     cases C with
     |nil=>
      exfalso;have :=cQ ex;rw[AC,g,Fo.dm,B3,m]at this;simp[Fo.bD]at this
     |cons a1 b1 I r1=>
      have b4:x= .ref a1:=by
       rw[g,Fo.dm,KM,Re (by rw[AC];lia),AC,m,Yb]at ex;exact(SV ex).symm
      subst b4;have a2:=c2.keep (t D);have a4:=sz.2.1;rw[g]at a2 a4 T;obtain⟨_,a8,a0,_⟩:=Fo.uH.mp a2;obtain⟨_,a6,a7,_⟩:=eI.app.mp a4;rw[Fo.mf]at T;have T:max u.fq (max (I.fq+1) r1.fq)<h+1:=T;have b8:=iG.len v (by rw[B3];have :=J.2.1.2.1;show bb.length+1<=60;lia)
      have a5:bH (.cons a1 b1 I .nil)=b1.nm::bH I:=by
       show b1.nm::(bH I++[])=_;rw[Ni]
      refine⟨_,U,_,U,_,_,U,U,F8 (c:=decide (V.str l.wh.kd=V.str "table")) U (λQ' kq=>⟨_,U,a,_,_,U,t D _ _ e1,U,U,kq⟩) ?_⟩;refine⟨_,U,a1,b1,I,r+1,M||decide (V.str l.wh.kd=V.str "table"),n,(bb++[l.nm])++bH u,U,aB,⟨a8,a0,trivial⟩,⟨a6,a7,trivial⟩,hG,b8,λlk H' kk hk=>⟨_,u.app (.cons a1 b1 I .nil),r1,U,D.trans kk,?_,?_,?_,iG.app.mpr ⟨v,lk⟩⟩,λnl dx H' kk=>no (λz=>nl ?_) dx H' (D.trans kk)⟩
      ·rw[g,Fo.pQ];rfl
      ·rw[Fo.dm,B3,m];rfl
      ·rw[hk,qs,a5,Sx]
      ·have z1:=z.1.2.1;have z2:=z.2.2.1;rw[g]at z1 z2;have z3:=(iG.app.mp z1).2;have z4:=(bV.app.mp z2).2;exact⟨⟨z3.1,z3.2.1,trivial⟩,z4.1,z4.2.1,trivial⟩
    ·rintro σ G ⟨u4,u,C,rfl,D,g,m,hG,v⟩
     have eF:C= .nil:=by
      have e:y.bD.length=(u.app C).bD.length:=by rw[g]
      rw[Fo.dm,B3,m,AC]at e
      cases C with
      |nil=>rfl
      |cons a1 b1 I r1=>exact KB e (by show¬_=_+(r1.bD.length+1);lia)
     rw[eF,Fo.pI]at g;subst g;refine ys ⟨J,v,trivial⟩ G D ?_;rw[hG,Sx];rfl
   ·refine⟨_,U,a,l,y.bD,U,hb.keep (KT.same s1),sz.1.2.1,λx H2 s2=>⟨by show 1<=1000;decide,λae hA=>?_⟩⟩;refine⟨ae,_,U,ag,λdd hd=>⟨U,dd,ag,?_⟩⟩
    have b6:dd≠ae:=λz=>by rw[z,ag]at hd;cases hd
    have b7:H2 dd=Y:=by rw[ax b6]at hd;exact hd
    refine no (λz=>nb ⟨z.1.1,z.2.1⟩) dd _ λb o _ e=>?_;have X:=aa.trans s1 s2 b o e;rw[jw (aH X hA),ax (aH X hA),ax (aH X b7),ax (aH X hA)];exact X
def E5:ay Za Za (aj lM):=dH
theorem Em(F:c_ K "check_tree" "check_tree" lM f fd)(q:uN P w K mg B' 49 (Qx CT 40) "look_through"):aS P w K mg B' (cu P w) 50 f fd Za (rL CT):=by
 refine F.rb (k:=49) E5 λx A v s H y Q E u h=>?_
 ·obtain⟨a,r,p,e,B,ok,sz,m,no⟩:=h;subst e;refine⟨_,ai (cK (oR q u (cN λ_ _ _ z=>z) (bj (pv 0) (gh af fj kg)))),?_⟩;have l:∀{d:B4}{H':Hp},H d=Y->Kp d (upd H d (.dK [])) H'->aa H H':=λj g b o i=>g b o (λz=>by rw[z,j]at i;cases i) ((ax (λz=>by rw[z,j]at i;cases i)).trans i);exact⟨_,U,λd c=>⟨a,r,p,1,F',d,[],U,aB,ok.keep (KT.put c),sz,ag,bp,λlk H' g _=>m lk H' (l c g),λt n H' g=>no t n H' (l c g)⟩⟩
end
end B10
namespace B10P
open PySem L2 S2 DW
section
variable{X:Cx}
def Qj(K:B0):R2:=λx y H Q=>∃(a b:B4)(c:L V),x= .ref a/\y= .ref b/\bq K H a c/\bq K H b []/\Q (.bl (!c.isEmpty)) H
theorem AR(D:X.A.units<Uy):je X (compareOp .NotEq) (Qj X.K):=by
 intro F s σ H x y v u Q I w n h;obtain⟨a,b,m,i,g,B,C,q⟩:=h;subst i g;obtain rfl:v=Kf a:=w;obtain rfl:u=Kf b:=n;obtain⟨d,r,E,M⟩:=I.tuple B;obtain⟨c,z,k,t⟩:=I.tuple C;have f:=r.length;have l:=z.length;rw[Vd]at l;refine aaE (e:=λ_=>T') E k D (λj J o=>by rw[B8]at o;lia) _ _ _ _ ⟨.bl _,H,I,U,?_⟩
 have i:min d.toArray.size c.toArray.size=0:=by rw[B8,B8];lia
 have g:(d.toArray.size==c.toArray.size)=m.isEmpty:=by
  rw[B8,B8,<-l]
  cases m with
  |nil=>rw[Vd]at f;rw[<-f];rfl
  |cons G p=>rw[Da]at f;rw[<-f];rfl
 rw[i,g];exact q
end
def Lm(x y:J'×J'):((Tg [V.int x.1,.int x.2].length).all λj=>tq ([V.int x.1,.int x.2].getD j .non) ([V.int y.1,.int y.2].getD j .non))=decide (x=y):=by
 obtain⟨a,b⟩:=x;obtain⟨c,d⟩:=y;show((a==c)&&((b==d)&&T'))=_;rw[Uu];simp
def JW(x y:Z×J'):((Tg [V.str x.1,.int x.2].length).all λj=>tq ([V.str x.1,.int x.2].getD j .non) ([V.str y.1,.int y.2].getD j .non))=decide (x=y):=by
 obtain⟨a,b⟩:=x;obtain⟨c,d⟩:=y;show((a==c)&&((b==d)&&T'))=_;rw[Uu];simp
variable{H:Hp}{K:B0}{Q:VK}{a b f:B4}{ws:L (L Z)}{P:To}{B':T9}{fd:Ud}{mg:Z->O' B5}{w:TV}
def BR{x y:J'×J'}(f:H a=O (.tup [.int x.1,.int x.2]))(e:H b=O (.tup [.int y.1,.int y.2]))(k:Q (.bl (!decide (x=y))) H):yk K T' (.ref a) (.ref b) H Q:=by
 refine⟨a,b,_,_,λj=>tq ([V.int x.1,.int x.2].getD j .non) ([V.int y.1,.int y.2].getD j .non),U,U,.inr ⟨bq.of f,bq.of e⟩,U,?_,?_⟩
 ·intro j u v d c
  match j,d,c with
  |0,d,c=>cases d;cases c;exact .flat U U
  |1,d,c=>cases d;cases c;exact .flat U U
 ·rw[KF U,Lm];exact k
def xj{n:M'}{x y:Z×J'}(g:H a=O (.tup [.str x.1,.int x.2]))(f:H b=O (.tup [.str y.1,.int y.2]))(e:a≠b):IG K H (n+1) (.ref a) (.ref b) (decide (x=y)):=by
 rw[<-JW];refine .tup e (bq.of g) (bq.of f) U _ λj u v d c=>?_
 match j,d,c with
 |0,d,c=>cases d;cases c;exact .flat U U
 |1,d,c=>cases d;cases c;exact .flat U U
def KZ{g f m l:B4}{x y:(Z×J')×(Z×J')}(z:H a=O (.tup [.ref g,.ref f]))(h:H g=O (.tup [.str x.1.1,.int x.1.2]))(i:H f=O (.tup [.str x.2.1,.int x.2.2]))(w:H b=O (.tup [.ref m,.ref l]))(o:H m=O (.tup [.str y.1.1,.int y.1.2]))(n:H l=O (.tup [.str y.2.1,.int y.2.2]))(n1:g≠m)(t:f≠l)(k:Q (.bl (!decide (x=y))) H):yk K T' (.ref a) (.ref b) H Q:=by
 refine⟨a,b,_,_,λj=>if j=0 then decide (x.1=y.1)else decide (x.2=y.2),U,U,.inr ⟨bq.of z,bq.of w⟩,U,?_,?_⟩
 ·intro j u v d c
  match j,d,c with
  |0,d,c=>cases d;cases c;exact xj h o n1
  |1,d,c=>cases d;cases c;exact xj i n t
 ·have e:((Tg [V.ref g,.ref f].length).all λj=>if j=0 then decide (x.1=y.1)else decide (x.2=y.2))=decide (x=y):=by
   obtain⟨q,s⟩:=x;obtain⟨p,r⟩:=y;show(decide (q=p)&&(decide (s=r)&&T'))=_;rw[Uu];simp
  rw[KF U,e];exact k
inductive FO(vs:L V)(H:Hp)(Q:VK):Prop
 |mk (a:B4) (o:Own) (c0:vs=[.ref a]) (c1:kr H a o) (c2:o.Good) (c3:∀(l:B4)(H':Hp),H l=Y->aa H H'->H' l=O (.lst ((ic o).map V.str))->Q (.ref l) H')
def BK:Sp:=λa H Q _=>FO a H Q
inductive Dr(vs:L V)(H:Hp)(Q:VK):Prop
 |mk (q:B4) (wh:aX) (c0:vs=[.str wh.kd,.ref q]) (c1:d_ H q wh) (c2:wh.Good) (c3:∀(l:B4)(H':Hp),H l=Y->aa H H'->H' l=O (.lst ((Il wh).map V.str))->Q (.ref l) H')
def xb:Sp:=λa H Q _=>Dr a H Q
inductive C0(vs:L V)(H:Hp)(Q:VK):Prop
 |mk (q:B4) (wh:aX) (c0:vs=[.str wh.kd,.ref q]) (c1:d_ H q wh) (c2:wh.Good) (c3:∀(l:B4)(H':Hp),H l=Y->aa H H'->H' l=O (.lst ((dR wh).map V.str))->Q (.ref l) H')
def xD:Sp:=λa H Q _=>C0 a H Q
inductive Dq(vs:L V)(H:Hp)(Q:VK):Prop
 |mk (q:B4) (wh:aX) (n i:M') (c0:vs=[.str wh.kd,.ref q,.int (i:J')]) (c1:d_ H q wh) (c2:wh.Good) (c3:Fo.fits wh n) (c4:i<n) (c5:∀(l:B4)(H':Hp),H l=Y->aa H H'->H' l=O (.lst ((pS wh i).map V.str))->Q (.ref l) H')
def xc:Sp:=λa H Q _=>Dq a H Q
def jP:(",":Z).length=1:=by decide +kernel
theorem GC(o:Own):(ic o).length<=6:=by
 unfold ic;simp only[B3];have h1:(rW "wide" o.w0 o.w1).length<=1:=oX;have c:(rW "high" o.h0 o.h1).length<=1:=oX;have a:(nW "grow" o.gr 0).length<=1:=oX;have b:(nW "shrink" o.sh 1).length<=1:=oX;have e:(nW "rank" o.rk 0).length<=1:=oX;have d:(nW "alike" o.al 0).length<=1:=oX
 lia
theorem qr{l:B4}{as:L B4}{σ:St}(n:H l=O (.tup (as.map V.ref)))(b:bQ H as (ws.map dC))(j:gf ws)(q:∀D a,H D=Y->aa H a->a D=O (.lst ((ws.map (Sr "|")).map V.str))->Q (.ref D) a):fQ (L7 K l) H σ gn (Pf K "str" (nV K) (tC (.str "|")) (aY (eA 0) dc)) Q:=by
 have m:as.length=ws.length:=by rw[b.1,AC]
 have g1:=j.1;refine nY (wordAt H) n (small (by rw[AC];lia)) (λi x a s ex f h=>?_) λD a o f c=>?_
 ·rw[B6]at ex;obtain⟨p,g,rfl⟩:=Sn.mp ex
  have k:i<ws.length:=by rw[<-m];exact cQ g
  have d:=b.2 i p _ g (by rw[B6,B2 k];rfl);obtain⟨w1,w2,w3⟩:=j.2 _ (TQ k);rw[nG d]at h;refine⟨U,_,U,"|",p,ws[i],U,U,bq.of (f _ _ d),?_,h a (aa.refl _)⟩;have r:=ig ws[i] (B:=12) λy d=>(w3 y d).2
  have e:("|":Z).length=1:=by decide +kernel
  rw[e]
  lia
 ·rw[tr b]at c;exact q D a o f c
theorem Gu(a:gf ws):((ws.map (Sr "|")).map (·.length)).sum+(ws.map (Sr "|")).length*(" ":Z).length<=16777216:=by
 have g1:=a.1
 have g:=ig (ws.map (Sr "|")) (B:=78) λy f=>by
  obtain⟨v,c,rfl⟩:=Su.mp f;obtain⟨_,h,d⟩:=a.2 v c;have :=fu "|" v (B:=12) λx b=>(d x b).2
  have e:("|":Z).length=1:=by decide +kernel
  rw[e]at this
  lia
 have e:(" ":Z).length=1:=by decide +kernel
 rw[e];rw[AC]at g⊢
 lia
def Sa{k:M'}{g:J'}{a b:Z}:(aX.lined k g a b).kd≠"words":=Od.2.2.2.2
def R9:("table":Z)≠"words":=by decide +kernel
def RW:("table":Z)≠"flow":=by decide +kernel
def RZ:("leaf":Z)≠"words":=by decide +kernel
def R6:("flow":Z)≠"over":=by decide +kernel
def R7:("table":Z)≠"over":=by decide +kernel
def Hn:ay Zg Zg (aj mJ):=dH
theorem Ec(F:c_ K "_law_text_words" "_law_text_words" mJ f fd):aS P w K mg B' dz 1 f fd Zg xb:=by
 refine F.fb Hn λC' A U' s H vs Q E hr h=>?_
 ·obtain⟨q,T,e,W,y,k⟩:=h;subst e
  have X:(A.deeper (SY "_law_text_words" (aj mJ) s.heap.objs.size f C')).units<Uy:=by have :=hr.units;lia
  refine⟨_,ah (aO (cn (jC (pv 0) ak) (bU (bh (AR X) (cy (pv 1) af) (aR eO) (bB _)))).pt
    (ai (ar (bt (aN (aE aJ ak (bY Pi S_ S1 fH ak (aN (dQ (br (fs:=aj mJ) (N:=Zg) U U bf) U (gT (cy (pv 1) af)) (λ_ _ _ _ _=>cv)
     (λ_ _ _ _ _=>uJ (K:=K) (r:=nV K) Pi S_ S1 nX ak (aN (pv 0))))))))))) aD)
   (ah (aO (cn (jC (pv 0) ak) (bU (bh (AR X) (cy (pv 1) af) (aR eO) (bB _)))).pt
    (ai (ar (bt (aN (aE aJ ak (bY Pi S_ S1 fH ak (aN (dQ (br (fs:=aj mJ) (N:=Zg) U U bf) U (gT (cy (pv 1) af)) (λ_ _ _ _ _=>cv)
     (λ_ _ _ _ _=>uJ (K:=K) (r:=nV K) Pi S_ S1 nX ak (aN (pv 0))))))))))) aD)
   (ai (ar (bt eO)))),?_⟩
  have i:∀{C:Hp},aa H C->Il T=[]->∀l,C l=Y->Q (.ref l) (upd C l (.lst [])):=λm e l d=>k l _ (m.free d) (aa.put m (m.free d)) (by rw[ag,e];rfl)
  have B:("text=":Z).length=5:=by decide +kernel
  cases T with
  |leaf a b=>exact⟨_,U,U,_,U,bT (hV RZ) (bW ⟨_,U,U,_,U,bT (hV RE) (bW ⟨az (by simp),λl d=>i (aa.refl _) U l d⟩)⟩)⟩
  |lined n g al sd=>exact⟨_,U,U,_,U,bT (hV Sa) (bW ⟨_,U,U,_,U,bT (hV Od.2.1) (bW ⟨az (by simp),λl d=>i (aa.refl _) U l d⟩)⟩)⟩
  |table c g sd a1=>exact⟨_,U,U,_,U,bT (hV R9) (bW ⟨_,U,U,_,U,bT (hV RW) (bW ⟨az (by simp),λl d=>i (aa.refl _) U l d⟩)⟩)⟩
  |over ps=>exact⟨_,U,U,_,U,bT (hV ow) (bW ⟨_,U,U,_,U,bT (hV QS) (bW ⟨az (by simp),λl d=>i (aa.refl _) U l d⟩)⟩)⟩
  |words ws j=>
   obtain⟨z,G,as,t,p⟩:=W
   have d:as.length=ws.length:=by rw[p.1,AC]
   refine⟨_,U,U,_,U,gm Ca ?_⟩;refine⟨_,U,q,_,_,_,U,U,bq.of G,aG (j:=0) U,az (by simp),λo x=>?_⟩;have m:aa H (upd H o (.tup [])):=aa.put (aa.refl _) x;have R:(upd H o (.tup [])) o=O (.tup []):=ag;generalize upd H o (.tup [])=C at *;refine⟨z,o,_,U,U,bq.of (m _ _ t),bq.of R,_,U,?_⟩
   cases ws with
   |nil=>
    have u:as=[]:=S0 d;subst u;exact bW ⟨_,U,U,_,U,bT (hV Rr) (bW ⟨az (by simp),λl d=>i m U l d⟩)⟩
   |cons M J=>
    have u:((as.map V.ref).isEmpty)=F':=by
     cases as with
     |nil=>cases d
     |cons=>rfl
    rw[u];refine dJ ⟨U,_,U,q,_,_,_,U,U,bq.of (m _ _ G),aG (j:=0) U,z,U,⟨_,bq.of (m _ _ t)⟩,qr (m _ _ t) (lH p (KT.same m)) y.1 λD H2 hD S I=>?_⟩;have wl:=kL y.1;refine⟨" ",D,_,U,U,bu.of I,Gu y.1,_,_,U,U,az (by rw[B];show 5+(pU (M::J)).length<=_;lia),(by show 1<=sizeLine;decide),λl d=>?_⟩;have v:=m.trans S;exact k l _ (v.free d) (aa.put v (v.free d)) ag
  |flow a0 ws j=>
   obtain⟨tp,z,G,ht,as,t,p⟩:=W
   have d:as.length=ws.length:=by rw[p.1,AC]
   refine⟨_,U,U,_,U,bT (hV fw) (bW ⟨_,U,U,_,U,gm Ca ?_⟩)⟩;refine⟨_,U,q,_,_,_,U,U,bq.of G,aG (j:=1) U,az (by simp),λo x=>?_⟩;have m:aa H (upd H o (.tup [])):=aa.put (aa.refl _) x;have R:(upd H o (.tup [])) o=O (.tup []):=ag;generalize upd H o (.tup [])=C at *;refine⟨z,o,_,U,U,bq.of (m _ _ t),bq.of R,_,U,?_⟩
   cases ws with
   |nil=>
    have u:as=[]:=S0 d;subst u;exact bW ⟨az (by simp),λl d=>i m U l d⟩
   |cons M J=>
    have u:((as.map V.ref).isEmpty)=F':=by
     cases as with
     |nil=>cases d
     |cons=>rfl
    rw[u];refine dJ ⟨U,_,U,q,_,_,_,U,U,bq.of (m _ _ G),aG (j:=1) U,z,U,⟨_,bq.of (m _ _ t)⟩,qr (m _ _ t) (lH p (KT.same m)) y.2.1 λD H2 hD S I=>?_⟩;have wl:=kL y.2.1;refine⟨" ",D,_,U,U,bu.of I,Gu y.2.1,_,_,U,U,az (by rw[B];show 5+(pU (M::J)).length<=_;lia),(by show 1<=sizeLine;decide),λl d=>?_⟩;have v:=m.trans S;exact k l _ (v.free d) (aa.put v (v.free d)) ag
def qo:ay ["_law_kind","_law_what_here","_law_at","_law_one","_law_other"] ["_law_kind","_law_what_here","_law_at"] (aj vG):=dH
theorem Cg(F:c_ K "_law_part_words" "_law_part_words" vG f fd)(N:aQ mg):aS P w K mg B' dz 1 f fd ["_law_kind","_law_what_here","_law_at"] xc:=by
 refine F.fb qo λC' A U' s H vs Q E hr h=>?_
 ·obtain⟨q,wh,n,i,e,hw,hg,hf,hi,k⟩:=h;subst e
  have hu:(A.deeper (SY "_law_part_words" (aj vG) s.heap.objs.size f C')).units+20<Uy:=by have :=hr.units;lia
  refine⟨_,ah (aO (cn (jC (pv 0) ak) (bU (bh (h_ hu) (cy (cy (pv 1) af) (pv 2)) (aR (bO af af)) (bB _)))).pt
    (ai (ar (bt (aN (aE aJ (aE aJ (aE aJ ak (aM bz (by rfl) N.str On (aN (cy (cy (cy (pv 1) af) (pv 2)) af)))) ak) (aM bz (by rfl) N.str On (aN (cy (cy (cy (pv 1) af) (pv 2)) af)))))))) aD)
   (ah (aO (cn (jC (pv 0) ak) (bU (HU (cy (cy (pv 1) af) (pv 2)) ak))).pt (ai (ar (bt (aN ak)))) aD)
   (ah (aO (cn (jC (pv 0) ak) (cn (bh oK (pv 2) af (bB _)) (bU (bh (h_ hu) (cy (pv 1) (aE gv (pv 2) af)) (aR (bO (aR (bO ak af)) (aR (bO ak af)))) (bB _))))).pt
    (ah (vg (cy (pv 1) (aE gv (pv 2) af)) (kl U (cj (aZ (i:=3) qo.nd U (Te U)) (cj (aZ (i:=4) qo.nd U (Te U)) iF))))
    (ai (ar (bt (aN (aE aJ (aE aJ (aE aJ (aE aJ (aE aJ (aE aJ (aE aJ ak (cy (pv 3) af)) ak) (aM bz (by rfl) N.str On (aN (cy (pv 3) af)))) ak) (cy (pv 4) af)) ak) (aM bz (by rfl) N.str On (aN (cy (pv 4) af))))))))) aD)
   (ai (ar (bt eO))))),?_⟩
  have p:∀{T:Hp},aa H T->pS wh i=[]->∀l,T l=Y->Q (.ref l) (upd T l (.lst [])):=λz e l o=>k l _ (z.free o) (aa.put z (z.free o)) (by rw[ag,e];rfl)
  cases wh with
  |leaf a b=>exact⟨_,U,U,_,U,bT (hV lt') (bW ⟨_,U,U,_,U,bT (hV RE) (bW ⟨_,U,U,_,U,bT (hV RQ) (bW ⟨az (by simp),λl o=>p (aa.refl _) U l o⟩)⟩)⟩)⟩
  |lined m g al sd=>exact⟨_,U,U,_,U,bT (hV Od.1) (bW ⟨_,U,U,_,U,bT (hV Od.2.1) (bW ⟨_,U,U,_,U,bT (hV Od.2.2.1) (bW ⟨az (by simp),λl o=>p (aa.refl _) U l o⟩)⟩)⟩)⟩
  |words ws j=>exact⟨_,U,U,_,U,bT (hV wt) (bW ⟨_,U,U,_,U,bT (hV Rr) (bW ⟨_,U,U,_,U,bT (hV RK) (bW ⟨az (by simp),λl o=>p (aa.refl _) U l o⟩)⟩)⟩)⟩
  |table c g sd d=>
   obtain⟨sp,as,W,hs,R⟩:=hw
   have o:as.length=d.length:=by rw[R.1,AC]
   have a2:d.length=n:=hf
   have I:i<as.length:=by lia
   have r:i<d.length:=by lia
   have X:H as[i]=O (.tup [.int d[i].1,.int d[i].2]):=R.2 i as[i] _ (B2 I) (by rw[B6,B2 r];rfl);obtain⟨g1,g2⟩:=hg.2.2.2 _ (TQ r);have D:oE (as.map V.ref) (i:J')=O (.ref as[i]):=aG (by rw[B6,B2 I];rfl)
   have G:d.getD i (1,1)=d[i]:=by rw[Sk,B2 r];rfl
   have B:pS (.table c g sd d) i=if d[i]=(1,1)then[]else[(("span="++nS d[i].1)++",")++nS d[i].2]:=by
    show(if d.getD i (1,1)=(1,1)then[]else[(("span="++nS (d.getD i (1,1)).1)++",")++nS (d.getD i (1,1)).2])=_;rw[G]
   refine⟨_,U,U,_,U,gm Ca ?_⟩;refine⟨_,U,q,_,_,_,U,U,bq.of W,aG (j:=3) U,_,U,sp,_,_,_,U,U,bq.of hs,D,(by show 2<=sizeLine;decide),λt ht=>?_⟩;have z:aa H (upd H t (.tup [.int 1,.int 1])):=aa.put (aa.refl _) ht;have t1:(upd H t (.tup [.int 1,.int 1])) t=O (.tup [.int ((1,1):J'×J').1,.int ((1,1):J'×J').2]):=ag;generalize upd H t (.tup [.int 1,.int 1])=T at *;refine BR (x:=d[i]) (z _ _ X) t1 ⟨_,U,?_⟩;by_cases C:d[i]=(1,1)
   ·rw[FB C];refine bW ⟨_,U,U,_,U,bT (hV RW) (bW ⟨_,U,U,_,U,bT (hV R7) (bW ⟨az (by simp),λl o=>p z (by rw[B,KF C]) l o⟩)⟩)⟩
   ·rw[GT C];have n1:=ir g1;have n2:=ir g2
    have e5:("span=":Z).length=5:=by decide +kernel
    refine dJ ⟨_,U,q,_,_,_,U,U,bq.of (z _ _ W),aG (j:=3) U,_,U,sp,_,_,_,U,U,bq.of (z _ _ hs),D,as[i],_,_,_,U,U,bq.of (z _ _ X),aG (j:=0) U,_,U,g1,_,_,U,U,az (by rw[e5];show 5+(nS d[i].1).length<=_;lia),_,_,U,U,az (by rw[FS,e5,jP];show 5+(nS d[i].1).length+1<=_;lia),_,U,q,_,_,_,U,U,bq.of (z _ _ W),aG (j:=3) U,_,U,sp,_,_,_,U,U,bq.of (z _ _ hs),D,as[i],_,_,_,U,U,bq.of (z _ _ X),aG (j:=1) U,_,U,g2,_,_,U,U,az (by rw[FS,FS,e5,jP];show 5+(nS d[i].1).length+1+(nS d[i].2).length<=_;lia),(by show 1<=sizeLine;decide),λl o=>?_⟩;exact k l _ (z.free o) (aa.put z (z.free o)) (by rw[ag,B,GM C];rfl)
  |flow u ws j=>
   obtain⟨tp,sp,W,ht,_⟩:=hw;have a2:u.length=n:=hf
   have r:i<u.length:=by lia
   have G:u.getD i "left"=u[i]:=by rw[Sk,B2 r];rfl
   have B:pS (.flow u ws j) i=if u[i]="left"then[]else(["float=right"]:L Z):=by
    show(if u.getD i "left"="left"then[]else(["float=right"]:L Z))=_;rw[G]
   refine⟨_,U,U,_,U,bT (hV ft) (bW ⟨_,U,U,_,U,gm Ca ?_⟩)⟩;refine⟨_,U,q,_,_,_,U,U,bq.of W,aG (j:=0) U,_,U,tp,_,_,_,U,U,bq.of ht,aG (j:=i) (by unfold dC;rw[B6,B2 r];rfl),U,_,U,?_⟩;by_cases C:u[i]="left"
   ·rw[FB (show V.str u[i]=V.str "left"by rw[C])];refine bW ⟨_,U,U,_,U,bT (hV R6) (bW ⟨az (by simp),λl o=>p (aa.refl _) (by rw[B,KF C]) l o⟩)⟩
   ·rw[hV C];refine dJ ⟨(by show 1<=sizeLine;decide),λl o=>?_⟩;exact k l _ o (aa.put (aa.refl _) o) (by rw[ag,B,GM C];rfl)
  |over v=>
   obtain⟨as,W,o,R⟩:=hw;have a2:n<=v.length+1:=hf;refine⟨_,U,U,_,U,bT (hV ot) (bW ⟨_,U,U,_,U,bT (hV QS) (bW ⟨_,U,U,_,U,gm Ca ⟨_,U,_,_,U,U,_,U,?_⟩⟩)⟩)⟩
   cases i with
   |zero=>exact bT (GT bp) (bW ⟨az (by simp),λl o=>p (aa.refl _) U l o⟩)
   |succ i=>
    have r:i<v.length:=by lia
    have I:i<as.length:=by lia
    obtain⟨b,c,x1,x2,x3⟩:=R i as[i] v[i] (B2 I) (B2 r);obtain⟨g1,g2⟩:=hg _ (TQ r);have D:oE (as.map V.ref) (((i+1:M'):J')-1)=O (.ref as[i]):=Hg (j:=i) aB (by rw[B6,B2 I];rfl)
    have G:v.getD i (("",0),("",0))=v[i]:=by rw[Sk,B2 r];rfl
    have B:pS (.over v) (i+1)=if v[i]=(((("start":Z),(0:J')),(("start":Z),(0:J'))):(Z×J')×(Z×J'))then[]else[(((((("at="++v[i].1.1)++",")++nS v[i].1.2)++",")++v[i].2.1)++",")++nS v[i].2.2]:=by
     rw[<-G];rfl
    refine gm (FB aB) ⟨_,U,_,U,_,_,U,U,q,_,_,_,U,U,bq.of W,D,(by show 2<=sizeLine;decide),λS a0=>?_⟩;have z:aa H (upd H S (.tup [.str "start",.int 0])):=aa.put (aa.refl _) a0;have a1:(upd H S (.tup [.str "start",.int 0])) S=O (.tup [.str "start",.int 0]):=ag;have nb:b≠S:=aH x2 a0;generalize upd H S (.tup [.str "start",.int 0])=T at *;refine⟨(by show 2<=sizeLine;decide),λM a3=>?_⟩;have s2:aa T (upd T M (.tup [.str "start",.int 0])):=aa.put (aa.refl _) a3;have b2:(upd T M (.tup [.str "start",.int 0])) M=O (.tup [.str "start",.int 0]):=ag;have nc:c≠M:=aH (z _ _ x3) a3;generalize upd T M (.tup [.str "start",.int 0])=H2 at *;refine⟨(by show 2<=sizeLine;decide),λtc a4=>?_⟩;have s3:aa H2 (upd H2 tc (.tup [.ref S,.ref M])):=aa.put (aa.refl _) a4;have c3:(upd H2 tc (.tup [.ref S,.ref M])) tc=O (.tup [.ref S,.ref M]):=ag;generalize upd H2 tc (.tup [.ref S,.ref M])=H3 at *;have J:=z.trans (s2.trans s3);refine KZ (x:=v[i]) (y:=(("start",0),("start",0))) (J _ _ x1) (J _ _ x2) (J _ _ x3) c3 ((s2.trans s3) _ _ a1) (s3 _ _ b2) nb nc ⟨_,U,?_⟩;by_cases C:v[i]=(((("start":Z),(0:J')),(("start":Z),(0:J'))):(Z×J')×(Z×J'))
    ·rw[FB C];refine bW ⟨az (by simp),λl o=>p J (by rw[B,KF C]) l o⟩
    ·rw[GT C];have n1:=ir g1.2.2;have n2:=ir g2.2.2;have m1:=g1.2.1;have m2:=g2.2.1
     have e3:("at=":Z).length=3:=by decide +kernel
     have X1:=bq.of (K:=K) (J _ _ x1);have X2:=bq.of (K:=K) (J _ _ x2);have X3:=bq.of (K:=K) (J _ _ x3);refine dJ ⟨_,U,_,U,_,_,U,U,q,_,_,_,U,U,bq.of (J _ _ W),D,as[i],_,U,X1,U,_,_,U,_,_,U,U,?_⟩;refine⟨_,U,b,_,_,_,U,U,X2,aG (j:=0) U,_,_,U,U,az (by rw[e3];lia),_,_,U,U,az (by simp only[FS,e3,jP];lia),_,U,b,_,_,_,U,U,X2,aG (j:=1) U,_,U,g1.2.2,_,_,U,U,az (by simp only[FS,e3,jP];show _+(nS v[i].1.2).length<=_;lia),_,_,U,U,az (by simp only[FS,e3,jP];show _+(nS v[i].1.2).length+_<=_;lia),_,U,c,_,_,_,U,U,X3,aG (j:=0) U,_,_,U,U,az (by simp only[FS,e3,jP];show _+(nS v[i].1.2).length+_+_<=_;lia),_,_,U,U,az (by simp only[FS,e3,jP];show _+(nS v[i].1.2).length+_+_+_<=_;lia),_,U,c,_,_,_,U,U,X3,aG (j:=1) U,_,U,g2.2.2,_,_,U,U,az (by simp only[FS,e3,jP];show _+(nS v[i].1.2).length+_+_+_+(nS v[i].2.2).length<=_;lia),(by show 1<=sizeLine;decide),λl o=>?_⟩;exact k l _ (J.free o) (aa.put J (J.free o)) (by rw[ag,B,GM C];rfl)
inductive EX(m:M')(vs:L V)(H:Hp)(Q:VK):Prop
 |mk (a le:B4) (d:dV) (cs:Fo) (n:M') (eh:aX) (i:M') (c0:vs=[.ref a,.int (n:J'),.ref le]) (c1:(Fo.cons a d cs .nil).Ok H) (c2:(Fo.cons a d cs .nil).Good) (c3:cs.fq<m) (c4:cs.cnt<=100) (c5:n+m<=100) (c6:eh.Good) (c7:H le=O (.lst ((pS eh i).map V.str))) (c8:∀(l:B4)(H':Hp),H l=Y->aa H H'->H' l=O (.lst ((bR d n eh i::a_ cs (n+1) d.wh 0).map V.str))->Q (.ref l) H')
def BW(m:M'):Sp:=λa H Q _=>EX m a H Q
def fC:ay ["_law_box_here","_law_deep","_law_extra","_law_kind","_law_name","_law_own","_law_what_here","_law_parts","_law_words_here","_law_rows_here","_law_at","_law_part"] ["_law_box_here","_law_deep","_law_extra"] (aj Fh):=dH
theorem ID(F:c_ K "_law_rows" "_law_rows" Fh f fd)(N:aQ mg)(C1:Cl P w K mg B' 1 BK "_law_own_words")(C2:Cl P w K mg B' 1 xD "_law_what_words")(C3:Cl P w K mg B' 1 xc "_law_part_words")(C4:Cl P w K mg B' 1 xb "_law_text_words")(JF:Cq K mg fd f ["_law_box_here","_law_deep","_law_extra"] "_law_rows"):∀m:M',aS P w K mg B' dz (m+2) f fd ["_law_box_here","_law_deep","_law_extra"] (BW m):=by
 intro m
 induction m with
 |zero=>
  refine F.ok fC (λvs H Q E h=>?_) (λC' A U' s H vs Q E hr h=>?_)
  ·obtain⟨a,p,d,C,n,b,i,e,_⟩:=h;rw[e];rfl
  ·obtain⟨a,p,d,C,n,b,i,e,_,_,hh,_⟩:=h;exact KB hh (U0 _)
 |succ m ih=>
  refine F.ok fC (λvs H Q E h=>?_) (λC' A U' s H vs Q E hr h=>?_)
  ·obtain⟨a,p,d,C,n,b,i,e,_⟩:=h;rw[e];rfl
  ·obtain⟨a,lx,d,C,n,b,i,e,⟨b2,b7,_⟩,⟨⟨g1,g2,g3,g4⟩,gc,_⟩,hh,hc,hn,b9,d8,k⟩:=h;subst e
   refine⟨_,ah (vg (pv 0) (kl U (cj (aZ (i:=3) fC.nd U (Te U)) (cj (aZ (i:=4) fC.nd U (Te U)) (cj (aZ (i:=5) fC.nd U (Te U)) (cj (aZ (i:=6) fC.nd U (Te U)) (cj (aZ (i:=7) fC.nd U (Te U)) iF)))))))
    (ah (pz 8 fC.nd (aE cx (aE cx (aE cx (aE cx (bt (bO (pv 3) (pv 4))) (pq C1 hr (aN (pv 5)))) (pq C2 hr (bO (pv 3) (pv 6)))) (pv 2)) (pq C4 hr (bO (pv 3) (pv 6)))))
    (ah (pz 9 fC.nd (bt (aN (aE aJ (aE Ba ak (pv 1)) (bY Pi S_ S1 fH ak (aN (pv 8)))))))
    (ah (dq SU U (HZ (by rfl) N.enum (aN (pv 7))) (kl U (cj (aZ (i:=10) fC.nd U (Te U)) (cj (aZ (i:=11) fC.nd U (Te U)) iF)))
     (ai (pz 9 fC.nd (aE cx (pv 9) (pq (eR ih JF) hr (gh (pv 11) (aE bS (pv 1) af) (pq C3 hr (gh (pv 3) (pv 6) (pv 10)))))))))
    (ai (ar (pv 9)))))),?_⟩
   obtain⟨ao,q,ap,ha,b6,hw,b0⟩:=id b2;refine aq λN1 a9=>?_;refine⟨_,U,a,_,U,bq.of ha,U,_,_,U,_,_,U,_,_,U,_,_,U,_,_,U,U,a9 _ _ ?_⟩;clear a9 N1;have v:=my (i:=i) g1 g2 g3 b9;refine aq λN2 b1=>?_;refine⟨_,U,_,U,(by show 2<=sizeLine;decide),λl0 b3=>?_⟩;have s1:aa H (upd H l0 (.lst [.str d.wh.kd,.str d.nm])):=aa.put (aa.refl _) b3;have c1:(upd H l0 (.lst [.str d.wh.kd,.str d.nm])) l0=O (.lst ([d.wh.kd,d.nm].map V.str)):=ag;generalize upd H l0 (.lst [.str d.wh.kd,.str d.nm])=H1 at *;refine⟨_,U,ao,d.own,U,b6.keep (KT.same s1),g2,λl2 H2 b4 s2 c2=>?_⟩;have o6:=GC d.own;refine⟨l0,l2,_,_,U,U,s2 _ _ c1,c2,az (by rw[AC,AC];show 2+_<=_;lia),λl3 b8=>?_⟩;have S2:=s1.trans s2;have s3:aa H2 (upd H2 l3 (.lst ([d.wh.kd,d.nm].map V.str++(ic d.own).map V.str))):=aa.put (aa.refl _) b8;have c3:(upd H2 l3 (.lst ([d.wh.kd,d.nm].map V.str++(ic d.own).map V.str))) l3=O (.lst ((d.wh.kd::d.nm::ic d.own).map V.str)):=ag;generalize upd H2 l3 (.lst ([d.wh.kd,d.nm].map V.str++(ic d.own).map V.str))=H3 at *;have S3:=S2.trans s3;refine⟨_,U,_,U,q,d.wh,U,hw.keep (KT.same S3),g1,λl4 H4 e5 s4 c4=>?_⟩;have G:=v.2;unfold fM at G;simp only[Da,B3]at G;refine⟨l3,l4,_,_,U,U,s4 _ _ c3,c4,az (by rw[AC,AC,Da,Da];lia),λl5 d1=>?_⟩;have S4:=S3.trans s4;have s5:aa H4 (upd H4 l5 (.lst ((d.wh.kd::d.nm::ic d.own).map V.str++(dR d.wh).map V.str))):=aa.put (aa.refl _) d1
   have c5:(upd H4 l5 (.lst ((d.wh.kd::d.nm::ic d.own).map V.str++(dR d.wh).map V.str))) l5=O (.lst ((d.wh.kd::d.nm::(ic d.own++dR d.wh)).map V.str)):=by rw[ag,<-KM];rfl
   generalize upd H4 l5 (.lst ((d.wh.kd::d.nm::ic d.own).map V.str++(dR d.wh).map V.str))=H5 at *;have S5:=S4.trans s5;refine⟨_,U,l5,lx,_,_,U,U,c5,S5 _ _ d8,az (by rw[AC,AC,Da,Da,B3];lia),λl6 d2=>?_⟩;have s6:aa H5 (upd H5 l6 (.lst ((d.wh.kd::d.nm::(ic d.own++dR d.wh)).map V.str++(pS b i).map V.str))):=aa.put (aa.refl _) d2
   have c6:(upd H5 l6 (.lst ((d.wh.kd::d.nm::(ic d.own++dR d.wh)).map V.str++(pS b i).map V.str))) l6=O (.lst ((d.wh.kd::d.nm::(ic d.own++(dR d.wh++pS b i))).map V.str)):=by rw[ag,<-KM,Uc,Uc,Sx]
   generalize upd H5 l6 (.lst ((d.wh.kd::d.nm::(ic d.own++dR d.wh)).map V.str++(pS b i).map V.str))=H6 at *;have S6:=S5.trans s6;refine⟨_,U,_,U,q,d.wh,U,hw.keep (KT.same S6),g1,λl7 H7 e8 s7 c7=>?_⟩;refine⟨l6,l7,_,_,U,U,s7 _ _ c6,c7,az (by rw[AC,AC,Da,Da,B3,B3];lia),λl8 d7=>b1 _ _ ?_⟩;clear b1 N2;have S7:=S6.trans s7;have s8:aa H7 (upd H7 l8 (.lst ((d.wh.kd::d.nm::(ic d.own++(dR d.wh++pS b i))).map V.str++(Il d.wh).map V.str))):=aa.put (aa.refl _) d7
   have c8:(upd H7 l8 (.lst ((d.wh.kd::d.nm::(ic d.own++(dR d.wh++pS b i))).map V.str++(Il d.wh).map V.str))) l8=O (.lst ((fM d b i).map V.str)):=by
    rw[ag,<-KM,Uc,Uc,Sx,Sx];rfl
   generalize upd H7 l8 (.lst ((d.wh.kd::d.nm::(ic d.own++(dR d.wh++pS b i))).map V.str++(Il d.wh).map V.str))=H8 at *;have S8:=S7.trans s8;clear c1 c2 c3 c4 c5 c6 c7 s1 s2 s3 s4 s5 s6 s7 s8 S2 S3 S4 S5 S6 S7;refine aq λN3 a8=>?_;have rg:=fu " " (fM d b i) v.1
   have e1:(" ":Z).length=1:=by decide +kernel
   rw[e1]at rg;have f2:(fM d b i).length*5001<=18*5001:=Uk _ v.2;refine⟨_,U,"  ",n,U,U,aB,by rw[iC];decide,by rw[iC];decide,U,_,U," ",l8,fM d b i,U,U,bu.of c8,?_,_,_,U,U,az (by rw[jM,iC];lia),(by show 1<=sizeLine;decide),λl hl=>a8 _ _ ?_⟩
   ·have :=ig (fM d b i) v.1;have :=v.2;rw[e1]
    lia
   clear a8 N3;have I:H l=Y:=S8.free hl;have s9:aa H (upd H8 l (.lst [.str (oo "  " n++Sr " " (fM d b i))])):=aa.put S8 I;have h9:(upd H8 l (.lst [.str (oo "  " n++Sr " " (fM d b i))])) l=O (.lst ((bR d n b i::a_ .nil (n+1) d.wh 0).map V.str)):=ag;generalize upd H8 l (.lst [.str (oo "  " n++Sr " " (fM d b i))])=H9 at *;refine aq λN4 b5=>?_;refine⟨_,U,ap,U,⟨_,bq.of (s9 _ _ b0)⟩,?_⟩
   refine HP (Sq:=λH xs=>bq K H ap xs) (k:=0) (xs:=C.bD.map V.ref) (λj σ H9=>∃(r T:Fo)(J:B4)(S W:O' V),σ=[O (.ref a),O (.int (n:J')),O (.ref lx),O (.str d.wh.kd),O (.str d.nm),O (.ref ao),O (.ref q),O (.ref ap),O (.ref l8),O (.ref J),S,W]/\C=r.app T/\r.bD.length=j/\aa H H9/\H J=Y/\H9 J=O (.lst ((bR d n b i::a_ r (n+1) d.wh 0).map V.str)))
    ⟨.nil,C,l,Y,Y,U,U,U,s9,I,h9⟩ (λj σ H9 _ ⟨_,_,_,_,_,_,_,_,z,_⟩=>bq.of (z _ _ b0)) ?_ ?_
   ·rintro j x t σ o hx ht ⟨r,T,J,S,W,rfl,g,hj,M,a7,X⟩;rw[B6,g,Fo.dm,Re aB,hj,Yb]at hx
    cases T with
    |nil=>cases hx
    |cons c y B as=>
     have ex:V.ref c=x:=SV hx;subst ex;have d6:(upd o t (.tup [.int (0+(j:J')),.ref c])) t=O (.tup [.int (0+(j:J')),.ref c]):=ag;have a4:aa o (upd o t (.tup [.int (0+(j:J')),.ref c])):=aa.put (aa.refl _) ht;have c9:=a4 _ _ X;have a1:=M.trans a4;generalize upd o t (.tup [.int (0+(j:J')),.ref c])=e4 at *;have u:=b7.keep (KT.same a1);have a3:=gc;have R:=hc;have a2:=hh;rw[g]at u a3 R a2;rw[Fo.uH]at u;rw[Fo.mQ]at a3;rw[Fo.pF]at R;rw[Fo.mf]at a2;obtain⟨-,bc,d9,-⟩:=u;obtain⟨-,gd,d5,-⟩:=a3;have e6:r.cnt+(B.cnt+as.cnt+1)<=100:=R;have e3:max r.fq (max (B.fq+1) as.fq)<m+1:=a2
     have d4:j<C.bD.length:=by
      rw[g,Fo.dm,B3,hj];show j<j+(as.bD.length+1)
      lia
     refine⟨t,_,U,bq.of d6,U,_,_,U,_,_,U,U,?_⟩;refine⟨_,U,_,U,_,U,_,_,U,U,_,U,_,U,_,U,?_⟩;refine⟨q,d.wh,C.bD.length,j,by rw[show(0:J')+(j:J')=(j:J')from Z7 _];rfl,hw.keep (KT.same a1),g1,g4,d4,λlp e0 f0 D c0=>?_⟩;have d3:=a1.trans D;refine⟨c,lp,y,B,n+1,d.wh,j,U,⟨bc.keep (KT.same D),d9.keep (KT.same D),trivial⟩,⟨gd,d5,trivial⟩,aB,aB,aB,g1,c0,λlz e9 e7 a6 d0=>?_⟩;have f1:=fW 0 eQ r (n+1) d.wh 0;have b4:=fW 0 eQ B (n+1+1) y.wh 0;refine⟨J,lz,_,_,U,U,(D.trans a6) _ _ c9,d0,az (by rw[AC,AC,Da,Da];lia),λln a5=>?_⟩;have a0:=d3.trans a6;refine⟨r.app (.cons c y B .nil),as,ln,_,_,U,by rw[g,Fo.pQ];rfl,by rw[Fo.dm,B3,hj];rfl,aa.put a0 (a0.free a5),a0.free a5,?_⟩;rw[ag,nO,<-KM];rw[hj,X_];show O (HO.lst (((bR d n b i::a_ r (n+1) d.wh 0)++(bR y (n+1) d.wh j::a_ B (n+1+1) y.wh 0)).map V.str))=O (HO.lst ((bR d n b i::(a_ r (n+1) d.wh 0++(bR y (n+1) d.wh j::(a_ B (n+1+1) y.wh 0++[])))).map V.str));rw[Ni];rfl
   ·rintro σ o ⟨r,T,J,S,W,rfl,g,hj,M,a7,X⟩;refine b5 _ _ ?_
    have e2:T= .nil:=by
     have e:=Tb (λF=>F.bD.length) g;have e':C.bD.length=(r.app T).bD.length:=e;rw[Fo.dm,B3,hj,AC]at e'
     cases T with
     |nil=>rfl
     |cons c y B as=>
      have :(Fo.cons c y B as).bD.length=as.bD.length+1:=U
      lia
    subst e2;rw[Fo.pI]at g;subst g;exact⟨_,U,k J o a7 M X⟩
end B10P
namespace B10
open PySem L2 S2
open DW B10P
theorem rZ{α β:Type}{f:α->O' β}:∀{l:L α}{a:L β},cD f l=O a->∀d∈a,∃x∈l,f x=O d
 |[],a,h,d,c=>by cases h;cases c
 |x::l,a,h,d,c=>by
  have h:((f x).bind λd=>(cD f l).map (d::·))=O a:=h
  cases e:f x with
  |none=>rw[e]at h;cases h
  |some k=>
   rw[e]at h
   cases b:cD f l with
   |none=>rw[Uw,b]at h;cases h
   |some j=>
    rw[Uw,b]at h
    cases h
    rcases PP.mp c with rfl|z
    ·exact⟨x,De,e⟩
    ·obtain⟨y,i,g⟩:=rZ b d z;exact⟨y,Fk _ i,g⟩
variable{z s x row y:Z}{p:(Z×J')×(Z×J')}{ps:PS}{pts:L PS}{wh:aX}{m i n j:M'}{W:WF}{F G cs:Fo}{o:Own}{ws:L (L Z)}{b v m2:J'}{CN CB f CG CT l a st:B4}{E:XK}{H H0 H':Hp}{Q:VK}{te ta tb ti:TE}{σ:St}{P:To}{ad:M'->B4}{B':T9}{fd:Ud}{mg:Z->O' B5}{tk:M'->Tok}{w:TV}{R ys:L Z}{D0:Ends}{J:L V->Prop}{d:D}{ds:L D}{g:J'->J'->J'}{ts:TS}{tt tu:TT}{xs:L V}{x0:O' V}{c:Tq}
theorem BB(h:z.length<=90000):Qz (eB z):=by
 unfold eB
 split
 ·exact⟨Sm _,λw a=>nomatch a⟩
 ·have d:(So z " ").length<=z.length+2:=V3 z " ";refine⟨by rw[AC];lia,λw a=>?_⟩;obtain⟨x,c,rfl⟩:=Su.mp a;have f:=eL c;have e:(So x "|").length<=x.length+2:=V3 x "|";exact⟨aB,λy b=>by have :=eL b;lia⟩
theorem Qm(h:om z=O p)(i:z.length<=90000):p.1.1.length<=100000/\p.2.1.length<=100000:=by
 have c:∀q∈So z ",",q.length<=100000:=λq g=>by have :=eL g;lia
 unfold om at h;generalize So z ","=l at h c
 match l,h with
 |[f,a,d,b],h=>
  have h:((aU a).bind λm=>(aU b).map λn=>((f,m),(d,n)))=O p:=h
  cases e:aU a with
  |none=>rw[e]at h;cases h
  |some m=>
   rw[e]at h;obtain⟨n,_,rfl⟩:=cw h;exact⟨c f (by simp),c d (by simp)⟩
theorem IW{kd:Z}(h:ik kd ps pts=O wh)(b:Full ps)(j:∀t∈pts,Full t)(w:pts.length<=1000):Sz wh:=by
 have a:∀k,vx k ps=O wh->Sz wh:=λk h=>by
  obtain⟨g,_,rfl⟩:=cw h;have d:=(b "align" bf).2;have o:=(b "side" bf).2;exact⟨aB,aB⟩
 unfold ik at h;by_cases c:kd="row"
 ·rw[KF c]at h;exact a 0 h
 rw[GM c]at h;clear c;by_cases c:kd="column"
 ·rw[KF c]at h;exact a 1 h
 rw[GM c]at h;clear c;by_cases c:kd="wrap"
 ·rw[KF c]at h;exact a 2 h
 rw[GM c]at h;clear c;by_cases c:kd="leaf"
 ·rw[KF c]at h;obtain⟨p,_,rfl⟩:=cw h;trivial
 rw[GM c]at h;clear c;by_cases c:kd="table"
 ·rw[KF c]at h
  cases f:cD (λt=>dZ (tv t "span") ",") pts with
  |none=>rw[f]at h;cases h
  |some v=>
   rw[f]at h
   cases l:aU (tv ps "columns")with
   |none=>rw[l]at h;cases h
   |some n=>
    rw[l]at h;obtain⟨p,_,rfl⟩:=cw h;have d:=jS f;have o:=(b "side" bf).2;exact⟨aB,aB⟩
 rw[GM c]at h;clear c;by_cases c:kd="words"
 ·rw[KF c]at h;obtain⟨p,_,rfl⟩:=cw h;exact BB (b "text" bf).2
 rw[GM c]at h;clear c;by_cases c:kd="flow"
 ·rw[KF c]at h;obtain⟨p,_,rfl⟩:=cw h;refine⟨⟨by rw[AC];lia,BB (b "text" bf).2⟩,λs m=>?_⟩;obtain⟨t,i,rfl⟩:=Su.mp m;have :=(j t i "float" bf).2
  lia
 rw[GM c]at h;clear c;by_cases c:kd="over"
 ·rw[KF c]at h;obtain⟨p,e,rfl⟩:=cw h;have d:=jS e;rw[Ta]at d;refine⟨aB,λq u=>?_⟩;obtain⟨t,i,r⟩:=rZ e q u;exact Qm r (j t (aax i) "at" bf).2
 rw[GM c]at h
 cases h
theorem yi:∀{l:L TB},(∀p∈l,p.2.fq+1<=m)->(lK l).fq<=m
 |[],_=>Sm _
 |p::l,h=>by
  have b:=h p De;have c:=yi (l:=l) λq a=>h q (Fk _ a);show max (p.2.fq+1) (lK l).fq<=m
  lia
theorem uk:∀l:L TB,(lK l).bD.length=l.length
 |[]=>rfl
 |p::l=>Tb (· +1) (uk l)
theorem BM:∀{l:L TB},(∀p∈l,eI (.cons 0 p.1 p.2 .nil))->eI (lK l)
 |[],_=>trivial
 |p::l,h=>by
  obtain⟨a,c,_⟩:=h p De;exact⟨a,c,BM λq b=>h q (Fk _ b)⟩
def ZQ(i:M')(q:TB×PS):Prop:=q.1.2.fq+1<=i/\eI (.cons 0 q.1.1 q.1.2 .nil)/\Full q.2
def WZ(i:M')(W:WF):Prop:=∀p∈W,p.2.length<=i/\∀q∈p.2,ZQ i q
def ZQ.up{q:TB×PS}(h:ZQ i q):ZQ (i+1) q:=⟨VX h.1,h.2⟩
def Mm(h:WZ i W)(n:M'):(jN W n).length<=i/\∀q∈jN W n,ZQ i q:=by
 unfold jN
 cases e:W.find? λp=>decide (p.1=n)with
 |none=>exact⟨Sm _,λq a=>nomatch a⟩
 |some p=>exact h p (UX e)
def NB(h:WZ i W)(n:M'):WZ i (mZ W n):=λp a=>h p (UH.mp a).1
def OM(h:WZ i W)(n:M')(x:TB×PS)(e:ZQ (i+1) x):WZ (i+1) (iZ W n x):=λp c=>by
 unfold iZ at c
 split at c
 ·obtain⟨g,f,rfl⟩:=Su.mp c;obtain⟨b,d⟩:=h g f
  split
  ·refine⟨by rw[B3];exact V9 b,λq a=>?_⟩
   rcases Os.mp a with z|z
   ·exact(d q z).up
   ·rw[Dk.mp z];exact e
  ·exact⟨VX b,λq a=>(d q a).up⟩
 ·rcases Os.mp c with z|z
  ·obtain⟨b,d⟩:=h p z;exact⟨VX b,λq a=>(d q a).up⟩
  ·rw[Dk.mp z];exact⟨V9 (Sm _),λq a=>by rw[Dk.mp a];exact e⟩
theorem Nq{k:WF}{r:jl}(h:WZ i W)(s:i<=1000)(j:Full r.ps/\r.kd.length<=90000/\r.nm.length<=90000)(e:ly W r=O k):WZ (i+1) k:=by
 obtain⟨b,c,rfl⟩:=cw e;obtain⟨l,k2⟩:=Mm h (r.dep+1)
 have n:(v_ W r).length<=i:=by unfold v_;rw[T7];exact l
 have f:∀q∈v_ W r,ZQ i q:=λq a=>k2 q (YK.mp a)
 cases g:ik r.kd r.ps ((v_ W r).map (·.2))with
 |none=>unfold nZ at c;rw[g]at c;cases c
 |some wh=>
  unfold nZ at c;rw[g]at c;obtain⟨o,_,rfl⟩:=cw c;refine OM (NB h _) _ _ ⟨?_,⟨⟨?_,?_,?_⟩,?_,trivial⟩,j.1⟩
  ·refine V9 (yi λp d=>?_);obtain⟨q,a,rfl⟩:=Su.mp d;exact(f q a).1
  ·refine IW g j.1 (λt m=>?_) (by rw[AC];lia);obtain⟨q,a,rfl⟩:=Su.mp m;exact(f q a).2.2
  ·have :=j.2.2;show r.nm.length<=100000
   lia
  ·rw[uk,AC]
   lia
  ·refine BM λp d=>?_;obtain⟨q,a,rfl⟩:=Su.mp d;exact(f q a).2.1
theorem LP:∀{a:L jl}{i:M'}{W b:WF},WZ i W->AZ a->i+a.length<=1000->pY W a=O b->WZ (i+a.length) b
 |[],i,W,b,h,_,_,e=>by
  cases e
  exact h
 |r::a,i,W,b,h,d,f,e=>by
  have e:(ly W r).bind (λb=>pY b a)=O b:=e;rw[Da]at f⊢
  cases c:ly W r with
  |none=>rw[c]at e;cases e
  |some j=>
   rw[c]at e;have :=LP (Nq h aB (d r De) c) (λx g=>d x (Fk _ g)) aB e;rw[show i+(a.length+1)=i+1+a.length by lia];exact this
theorem PD{a:L jl}{p:TB}(h:outF a=O p)(g:AZ a)(k:a.length<=40):p.2.fq<40/\eI (.cons 0 p.1 p.2 .nil):=by
 unfold outF at h
 cases e:pY [] a.reverse with
 |none=>rw[e]at h;cases h
 |some W=>
  rw[e]at h;have z:=LP (i:=0) (W:=[]) (λp d=>nomatch d) (λr j=>g r (YK.mp j)) (by rw[T7];lia) e;rw[T7]at z;have h:qc W=O p:=h;unfold qc at h
  split at h
  ·injection h with h
   subst h
   rename_i p ps
   obtain⟨_,f⟩:=z _ De;obtain⟨b,c,_⟩:=f (p,ps) De;have b:p.2.fq+1<=0+a.length:=b;exact⟨aB,c⟩
  ·cases h
def Lk.bb(h:Lk F G):bH F=bH G:=by
 induction h with
 |nil=>rfl
 | @cons a g d cs b as c _ _ f e=>
  show d.nm::(bH cs++bH as)=d.nm::(bH b++bH c);rw[f,e]
def Lk.sz(h:Lk F G)(g:eI F):eI G:=by
 induction h with
 |nil=>trivial
 | @cons a m d cs b as c k l i e=>
  obtain⟨⟨g1,g2,g3⟩,j,f⟩:=g;rw[k.bD]at g3;exact⟨⟨g1,g2,g3⟩,i j,e f⟩
def Lk.sure(h:Lk F G):bV F↔bV G:=by
 induction h with
 |nil=>exact WD
 | @cons a j d cs b as c i g f e=>
  show(xi d.wh/\bV cs/\bV as)↔(xi d.wh/\bV b/\bV c);rw[f,e]
def Lk.RO(h:Lk F G):∀{e:Tq}{b:J'}{bb:L Z},iG e b F bb↔iG e b G bb:=by
 induction h with
 |nil=>exact WD
 | @cons a l d cs c as f g k j i=>
  intro e b bb;show(Jv d cs.bD.length b e bb/\iG _ _ cs _/\iG e b as (bb++(d.nm::bH cs)))↔(Jv d c.bD.length b e bb/\iG _ _ c _/\iG e b f (bb++(d.nm::bH c)));rw[j,i,g.bD,g.bb]
theorem cf{i:J'}(h: -1000000<=i)(g:i<=1000000):cZ i:=by
 unfold cZ
 lia
theorem Bt(h:Vo o):o.Good:=by
 obtain⟨⟨b,f,a⟩,⟨e,c,m⟩,⟨i,j⟩,⟨l,d⟩,⟨k,g⟩,f1,f2⟩:=h;exact⟨cf aB aB,cf aB aB,cf aB aB,cf aB aB,cf aB aB,cf aB aB,cf aB aB,cf aB aB⟩
theorem Gw:∀{ws:L (L Z)},(∀w∈ws,1<=w.length)->(ws.length:J')<=(ws.map λw=>(w.length:J')).sum
 |[],_=>by simp
 |w::l,h=>by
  have c:=Gw (ws:=l) λv a=>h v (Fk _ a);have b:=h w De;simp only[SQ,WN,Da]
  lia
theorem w_(h:LK ws):gf ws:=⟨by have :=Gw λw a=>(h.1 w a).1.1;have :=h.2;lia,λw a=>⟨(h.1 w a).1.1,(h.1 w a).1.2,λx b=>((h.1 w a).2 x b).1⟩⟩
def Ho(h:Vs s):s.length<=10:=by
 rcases h with rfl|rfl<;>decide +kernel
def BA{p:Z×J'}(h:Va p):mh p:=by
 obtain⟨a,c,b⟩:=h;refine⟨?_,?_,cf c b⟩
 ·rcases a with e|e|e|e<;>rw[e]<;>decide +kernel
 ·rcases a with e|e|e|e<;>rw[e]<;>decide +kernel
theorem cw_good(h:Cw wh n):wh.Good/\Fo.fits wh n:=by
 cases wh with
 |leaf a b=>
  obtain⟨_,⟨d,i⟩,f,o⟩:=h;exact⟨⟨cf aB i,cf aB o⟩,trivial⟩
 |lined k g z w=>
  obtain⟨_,⟨d,i⟩,f,o⟩:=h;refine⟨⟨cf aB aB,?_,Ho o⟩,trivial⟩
  rcases f with e|e|e|e<;>rw[e]<;>decide +kernel
 |table c g w s=>
  obtain⟨_,⟨d,i⟩,⟨f,o⟩,r,v,u⟩:=h
  exact⟨⟨cf aB aB,cf aB aB,Ho r,λp l=>by
   obtain⟨⟨x,A⟩,y,B⟩:=u p l
   exact⟨cf aB aB,cf aB aB⟩⟩,v⟩
 |words ws j=>
  obtain⟨_,d,i,f⟩:=h;exact⟨⟨w_ d,cf aB aB⟩,trivial⟩
 |flow t ws j=>
  obtain⟨_,q,m,d,i,f⟩:=h;exact⟨⟨m,w_ d,cf aB aB⟩,q⟩
 |over ps=>
  obtain⟨_,q,m⟩:=h;exact⟨λp l=>⟨BA (m p l).1,BA (m p l).2⟩,by show n<=ps.length+1;lia⟩
theorem iG.good:∀{F:Fo}{c:Tq}{b:J'}{bb:L Z},iG c b F bb->F.Good
 | .nil,_,_,_,_=>trivial
 | .cons a d cs as,c,b,bb,⟨⟨⟨i,f,e⟩,_⟩,h,g⟩=>by
  obtain⟨g1,g2⟩:=cw_good e;exact⟨⟨g1,Bt f,by have :=i.2.1;lia,g2⟩,h.good,g.good⟩
theorem iG.deep:∀{F:Fo}{c:Tq}{b:J'}{bb:L Z},iG c b F bb->(F.fq:J')<=max 0 (9-b)
 | .nil,_,_,_,_=>by show((0:M'):J')<=_;lia
 | .cons a d cs as,c,b,bb,⟨⟨_,⟨_,_,i⟩,_⟩,f,e⟩=>by
  have h:=f.deep;have g:=e.deep;show((max (cs.fq+1) as.fq:M'):J')<=_
  lia
theorem mu:∀F:Fo,(bH F).length=F.cnt
 | .nil=>rfl
 | .cons a d cs as=>by
  show(bH cs++bH as).length+1=cs.cnt+as.cnt+1;rw[B3,mu cs,mu as]
noncomputable def fU(p:TB):Z:=Sr "\n" (B10P.bR p.1 0 eQ 0::a_ p.2 1 p.1.wh 0)
noncomputable def iU(z:Z):O' TB:=(cD oP (So z "\n")).bind outF
def ou(p:TB):Prop:=iG F' 1 (.cons 0 p.1 p.2 .nil) []
def wj(p:TB):Prop:=bV (.cons 0 p.1 p.2 .nil)
theorem Hk{p:TB}(h:ou p):(Fo.cons 0 p.1 p.2 .nil).Good/\p.2.fq<12/\p.2.cnt<=60:=by
 have d:=iG.deep h;have a:=iG.len h (by show 0<=60;lia);have c:(Fo.cons 0 p.1 p.2 .nil).fq=max (p.2.fq+1) 0:=U;have e:=mu (.cons 0 p.1 p.2 .nil);have b:(Fo.cons 0 p.1 p.2 .nil).cnt=p.2.cnt+0+1:=U;have a:(bH (Fo.cons 0 p.1 p.2 .nil)).length<=60:=a;exact⟨iG.good h,aB,aB⟩
theorem MX(n:J'):iw (nS n)=nS (n.natAbs:J'):=by
 unfold iw;rw[show Hf (nS n)=decide (n<0)from zu];by_cases h:n<0
 ·rw[FB h,KF U,Lj h]
 ·rw[GT h,GM (λe=>nomatch e),show((n.natAbs:M'):J')=n by lia]
def gE{n:J'}(h:lV n):aU (nS n)=O n:=by
 unfold aU;rw[MX,KF ⟨(nR h).1,(nR h).2,UW.mpr λc a=>NN (nE _ c a)⟩];exact F2 h
def yu{a:J'}(c:So (two s a b) s=[nS a,nS b])(e:lV a)(d:lV b):dZ (two s a b) s=O (a,b):=by
 unfold dZ;rw[c];show((aU (nS a)).bind λm=>(aU (nS b)).map λn=>(m,n))=_;rw[gE e,gE d];rfl
def AS{a:J'}(d:lV a)(c:lV b):dZ (two ".." a b) ".."=O (a,b):=yu (tN dd bf bp a b) d c
def A_{a:J'}(d:lV a)(c:lV b):dZ (two "," a b) ","=O (a,b):=yu (tN cm bf bp a b) d c
def Hv(a:44∉p.1.1.cps.toList)(b:44∉p.2.1.cps.toList)(d:lV p.1.2)(c:lV p.2.2):om (four p)=O p:=by
 unfold om;rw[zI a b];show((aU (nS p.1.2)).bind λm=>(aU (nS p.2.2)).map λn=>((p.1.1,m),(p.2.1,n)))=_;rw[gE d,gE c];rfl
theorem t_(h:Hz ws):eB (pU ws)=ws:=by
 unfold eB
 cases a:ws with
 |nil=>exact KF U
 |cons c n=>
  rw[<-a]
  have f:c∈ws:=by rw[a];exact De
  have b:pU ws≠"":=λe=>by
   have i:=h.2 c f;obtain⟨x,d⟩:=List.exists_mem_of_ne_nil _ i.1;have l:=(i.2.2 x d).1;have m:x.length<=(Sr "|" c).length:=join_le d;have k:(Sr "|" c).length<=(pU ws).length:=join_le (TH f);rw[e]at k;have o:("":Z).length=0:=U
   lia
  rw[GM b,yt h (by rw[a];exact Ub _ _),SN];exact(TM (g:=id) λw j=>zz (h.2 w j).1 λx d=>((h.2 w j).2.2 x d).2.2.2).trans (WB ws)
def fS{k:Z}(h:lk ps k=O x):tv ps k=x:=by
 unfold tv;rw[h];rfl
def Pb(h:Oh ps o):lX ps=O o:=by
 obtain⟨⟨a,e⟩,⟨d,b,p,f⟩,⟨g,l,j,i⟩,n,c,k,m⟩:=h;unfold lX;rw[fS a,fS e,fS d,fS b,fS p,fS f,gE n,gE c,gE k,gE m,AS g l,AS j i];rfl
theorem vZ{α β:Type}{f:α->O' β}:∀{l:L α}{ds:L β},l.length=ds.length->(∀(i:M')(x:α)(d:β),l[i]? =O x->ds[i]? =O d->f x=O d)->cD f l=O ds
 |[],[],_,_=>rfl
 |x::l,d::ds,a,h=>by
  show((f x).bind λd=>(cD f l).map (d::·))=_;rw[h 0 x d U U,vZ (Z1 a) λi y e c b=>h (i+1) y e c b];rfl
 |[],d::ds,a,_=>nomatch a
 |x::l,[],a,_=>nomatch a
def L9{α β:Type}{f:α->β}{l:L α}{ds:L β}(a:l.length=ds.length)(h:∀(i:M')(x:α)(d:β),l[i]? =O x->ds[i]? =O d->f x=d):l.map f=ds:=List.ext_getElem (by rw[AC,a]) λi c b=>by
 rw[List.getElem_map];exact h i _ _ (B2 _) (B2 _)
noncomputable def sq:aX->aX
 | .lined 0 g e d=> .lined 0 g e d
 | .lined 1 g e d=> .lined 1 g e d
 | .lined (_+2) g e d=> .lined 2 g e d
 | .leaf a b=> .leaf a b
 | .table c g d h=> .table c g d h
 | .words ws j=> .words ws j
 | .flow f ws j=> .flow f ws j
 | .over ps=> .over ps
def uS(wh:aX):(sq wh).kd=wh.kd/\dR (sq wh)=dR wh/\Il (sq wh)=Il wh/\(∀i,pS (sq wh) i=pS wh i)/\(∀n,Cw (sq wh) n↔Cw wh n)/\(xi (sq wh)↔xi wh):=by
 cases wh with
 |lined k g b a=>
  match k with
  |0=>exact⟨U,U,U,λ_=>U,λ_=>WD,WD⟩
  |1=>exact⟨U,U,U,λ_=>U,λ_=>WD,WD⟩
  |k+2=>exact⟨U,U,U,λ_=>U,λ_=>WD,WD⟩
 |_=>exact⟨U,U,U,λ_=>U,λ_=>WD,WD⟩
def Mu(h:LF ps pts wh):ik wh.kd ps pts=O (sq wh):=by
 cases wh with
 |leaf a b=>
  obtain⟨e,d,f⟩:=h;show(dZ (tv ps "wish") ",").map (λp=>aX.leaf p.1 p.2)=_;rw[fS e,A_ d f];rfl
 |lined k g A z=>
  obtain⟨e,d,f,l,_⟩:=h
  have n:∀k,vx k ps=O (.lined k g A z):=λk=>by
   unfold vx;rw[fS e,fS d,fS f,gE l];rfl
  match k with
  |0=>exact n 0
  |1=>exact n 1
  |k+2=>exact n 2
 |table c g z m=>
  obtain⟨⟨e,d,f⟩,⟨l,v,_⟩,y,C⟩:=h;show((cD (λt=>dZ (tv t "span") ",") pts).bind λm=>(aU (tv ps "columns")).bind λc=>(aU (tv ps "gap")).map λg=>aX.table c g (tv ps "side") m)=_
  rw[vZ (ds:=m) y λi t p o q=>by
   obtain⟨r,w,u⟩:=C i t p o q
   rw[fS r,A_ w u],fS e,fS d,fS f,gE l,gE v]
  rfl
 |words ws j=>
  obtain⟨⟨e,d⟩,f,l,_⟩:=h;show(aU (tv ps "joint")).map (λj=>aX.words (eB (tv ps "text")) j)=_;rw[fS e,fS d,gE f,t_ l];rfl
 |flow x ws j=>
  obtain⟨⟨e,d⟩,⟨f,l,_⟩,v,y⟩:=h;show(aU (tv ps "joint")).map (λj=>aX.flow (pts.map λt=>tv t "float") (eB (tv ps "text")) j)=_;rw[fS e,fS d,gE f,t_ l,L9 (ds:=x) v λi t s o q=>fS (y i t s o q).1];rfl
 |over as=>
  obtain⟨e,d⟩:=h;show(cD (λt=>om (tv t "at")) (pts.drop 1)).map aX.over=_
  rw[vZ (ds:=as) (by rw[Ta,e];rfl) λi t p o q=>by
   rw[U_,W8]at o;obtain⟨r,⟨w,u⟩,_,D,B⟩:=d i t p o q
   rw[fS r,Hv w u D B]]
  rfl
theorem Ou{a:M'}{kd j:Z}{b:PS}{i:Z}(h:OU row a kd j b i):oP row=O ⟨a,kd,j,putAll bo (b++[(("text":Z),i)])⟩:=by
 obtain⟨_,deep,⟨l,m,f,_,q⟩,d,_⟩:=h
 have o:pA (ck row " ") " text="=l:=by unfold pA;rw[f];rfl
 have n:pB (ck row " ") " text="=i:=by unfold pB;rw[f];rfl
 have k:(b.map kZ).map wu=b:=by
  rw[SN];refine(TM (g:=id) λp f=>?_).trans (WB b);have e:parted (kZ p) "="=[p.1,"=",p.2]:=wx (c:=61) (t:=[]) U (d p f).1;show(pA (kZ p) "=",pB (kZ p) "=")=p;unfold pA pB;rw[e];rfl
 unfold oP;rw[o,n,q];show O (⟨(row.length-(ck row " ").length)/2,kd,j,putAll bo ((b.map kZ).map wu++[(("text":Z),i)])⟩:jl)=_;rw[k,show(row.length-(ck row " ").length)/2=a by lia]
noncomputable def nB(d:dV):dV:=⟨d.nm,d.own,sq d.wh⟩
noncomputable def zF:Fo->Fo
 | .nil=> .nil
 | .cons _ d cs as=> .cons 0 (nB d) (zF cs) (zF as)
noncomputable def Ci(n:M')(d:dV)(a:aX)(i:M'):jl:=⟨n,d.wh.kd,d.nm,toldOf (dk d a i)⟩
noncomputable def IH:Fo->M'->aX->M'->L jl
 | .nil,_,_,_=>[]
 | .cons _ d cs as,n,a,i=>Ci n d a i::(IH cs (n+1) d.wh 0++IH as n a (i+1))
noncomputable def fX:Fo->aX->M'->L (TB×PS)
 | .nil,_,_=>[]
 | .cons _ d cs as,a,i=>((nB d,zF cs),toldOf (dk d a i))::fX as a (i+1)
theorem Fu:∀(F:Fo)(b:aX)(i:M'),lK ((fX F b i).map (·.1))=zF F
 | .nil,_,_=>rfl
 | .cons a d cs as,b,i=>by
  show Fo.cons 0 (nB d) (zF cs) (lK ((fX as b (i+1)).map (·.1)))=_;rw[Fu as b (i+1)];rfl
theorem FW:∀(F:Fo)(b:aX)(i j:M')(t:PS),((fX F b i).map (·.2))[j]? =O t->∃d:dV,t=toldOf (dk d b (i+j))
 | .nil,_,_,_,_,h=>nomatch h
 | .cons a d cs as,b,i,0,t,h=>by
  have h:O (toldOf (dk d b i))=O t:=h
  injection h with h
  exact⟨d,h.symm⟩
 | .cons a d cs as,b,i,j+1,t,h=>by
  have h:((fX as b (i+1)).map (·.2))[j]? =O t:=h;obtain⟨c,e⟩:=FW as b (i+1) j t h;exact⟨c,by rw[e,show i+1+j=i+(j+1)by lia]⟩
theorem Ge:∀(F:Fo)(b:aX)(i:M'),(fX F b i).length=F.bD.length
 | .nil,_,_=>rfl
 | .cons a d cs as,b,i=>by
  show(fX as b (i+1)).length+1=as.bD.length+1;rw[Ge as]
noncomputable def mv(W:WF)(n:M')(xs:L (TB×PS)):WF:=xs.foldl (λW x=>iZ W n x) W
theorem wO(h:∀p∈W,p.1≠n):∀(xs ys:L (TB×PS)),mv (W++[(n,ys)]) n xs=W++[(n,ys++xs)]
 |[],ys=>by rw[Ni];rfl
 |x::xs,ys=>by
  have e:iZ (W++[(n,ys)]) n x=W++[(n,ys++[x])]:=by
   unfold iZ;rw[KF (Y6.mpr ⟨(n,ys),by simp,FB U⟩),KM]
   congr 1
   ·have :=TM (l:=W) (f:=λp=>if p.1=n then(p.1,p.2++[x])else p) (g:=id) λp a=>GM (h p a);rw[this,WB]
   ·show[if n=n then(n,ys++[x])else(n,ys)]=_;rw[KF U]
  show mv (iZ (W++[(n,ys)]) n x) n xs=_;rw[e,wO h xs (ys++[x]),Sx];rfl
def Hh(h:∀p∈W,p.1≠n)(xs:L (TB×PS)):mv W n xs=if xs=[]then W else W++[(n,xs)]:=by
 cases xs with
 |nil=>rfl
 |cons x xs=>
  rw[GM (Ub _ _)]
  have e:iZ W n x=W++[(n,[x])]:=by
   unfold iZ;rw[GM];intro z;obtain⟨p,a,e⟩:=List.any_eq_true.mp z;exact h p a (Pv e)
  show mv (iZ W n x) n xs=_;rw[e,wO h];rfl
def D_(h:∀p∈W,p.1≠n)(xs:L (TB×PS)):jN (mv W n xs) n=xs/\mZ (mv W n xs) n=W:=by
 have b:W.find? (λp=>decide (p.1=n))=Y:=UY.mpr λp a e=>h p a (Pv e);have c:W.filter (λp=>decide (p.1≠n))=W:=U7.mpr λp a=>FB (h p a);rw[Hh h];unfold jN mZ
 split
 ·rename_i e
  rw[b,e];exact⟨U,c⟩
 ·rw[abh,b,W_ (by simp),XY,c,ZO (by simp),List.filter_nil,Ni];exact⟨U,U⟩
theorem L5(c:n<=m):∀(xs:L (TB×PS))(W:WF),(∀p∈W,p.1<=m)->∀p∈mv W n xs,p.1<=m
 |[],_,h=>h
 |x::xs,W,h=>L5 c xs (iZ W n x) (by
  unfold iZ
  split
  ·intro p a;obtain⟨q,b,rfl⟩:=Su.mp a;by_cases e:q.1=n
   ·rw[KF e];exact h q b
   ·rw[GM e];exact h q b
  ·intro p a
   rcases Os.mp a with z|z
   ·exact h p z
   ·rw[Dk.mp z];exact c)
theorem Ip:∀(F:Fo)(n:M')(c:aX)(i:M')(k:Tq)(W:WF)(rest:L jl),VF k F->F.Good->(∀p∈W,p.1<=n)->pY W ((IH F n c i).reverse++rest)=pY (mv W n (fX F c i).reverse) rest
 | .nil,n,c,i,k,W,rest,_,_,_=>rfl
 | .cons a d cs as,n,c,i,k,W,rest,⟨⟨G,A,H⟩,v,E⟩,⟨⟨g1,g2,g3,I⟩,D,z⟩,o=>by
  have y:(IH (.cons a d cs as) n c i).reverse++rest=(IH as n c (i+1)).reverse++((IH cs (n+1) d.wh 0).reverse++(Ci n d c i::rest)):=by
   show(Ci n d c i::(IH cs (n+1) d.wh 0++IH as n c (i+1))).reverse++rest=_;rw[WA,aaH];simp
  have f:=L5 (B9 n) (fX as c (i+1)).reverse W o
  have m:mv W n (fX (.cons a d cs as) c i).reverse=iZ (mv W n (fX as c (i+1)).reverse) n ((nB d,zF cs),toldOf (dk d c i)):=by
   show mv W n (((nB d,zF cs),toldOf (dk d c i))::fX as c (i+1)).reverse=_;rw[WA];unfold mv;rw[Yf];rfl
  rw[y,Ip as n c (i+1) k W _ E z o,m];generalize mv W n (fX as c (i+1)).reverse=h at *;rw[Ip cs (n+1) d.wh 0 _ h _ v D λp l=>VX (f p l)];obtain⟨B,s⟩:=D_ (λp l e=>by have :=f p l;lia) (W:=h) (n:=n+1) (fX cs d.wh 0).reverse;generalize mv h (n+1) (fX cs d.wh 0).reverse=g at *
  have u:v_ g (Ci n d c i)=fX cs d.wh 0:=by
   unfold v_;show(jN g (n+1)).reverse=_;rw[B,List.reverse_reverse]
  have x:nZ d.wh.kd d.nm (toldOf (dk d c i)) ((fX cs d.wh 0).map (·.2))=O (nB d):=by
   unfold nZ
   rw[Mu (MB g1 (by rw[AC,Ge];exact A) λj t w=>by
    obtain⟨q,e⟩:=FW cs d.wh 0 j t w;rw[X_]at e
    exact⟨q,e⟩),Pb (Qb G)]
   rfl
  show(ly g (Ci n d c i)).bind (λC=>pY C rest)=_
  have r:ly g (Ci n d c i)=O (iZ h n ((nB d,zF cs),toldOf (dk d c i))):=by
   unfold ly;rw[u];show(nZ d.wh.kd d.nm (toldOf (dk d c i)) ((fX cs d.wh 0).map (·.2))).map (λb=>iZ (mZ g (n+1)) n ((b,lK ((fX cs d.wh 0).map (·.1))),toldOf (dk d c i)))=_;rw[x,s,Fu];rfl
  rw[r];rfl
theorem Dg{d:dV}{a:aX}(h:d.wh.Good)(t:d.own.Good)(g:a.Good)(r:d.nm.length<=60)(A:n<=20):(B10P.bR d n a i).length<=6300:=by
 have tl:=pX (i:=i) t h g;have w:=B10P.kd_len d.wh
 have m:LB 80 (d.wh.kd::d.nm::(kvsOf (dk d a i)).map kZ):=λx hx=>by
  rcases PP.mp hx with rfl|hx
  ·lia
  rcases PP.mp hx with rfl|hx
  ·lia
  ·obtain⟨q,u,rfl⟩:=Su.mp hx;obtain⟨p,f,b,l⟩:=pV u
   have B:q.1.length<=10:=by
    rw[b];exact lJ p (Ul [_] f)
   have y:q.2.length<=60:=by
    rcases tl _ l with z|z
    ·exact z
    ·exact KB (b.symm.trans z.1) (qt p f).2
   have j:("=":Z).length=1:=U;unfold kZ;rw[FS,FS,j]
   lia
 have k:(kvsOf (dk d a i)).length<=15:=by
  have :=(flat_keys (dk d a i) eD).length_le;rw[AC,AC]at this;exact this
 have c:=fu " " _ m;rw[join_eq]at c;have v:(d.wh.kd::d.nm::(kvsOf (dk d a i)).map kZ).length*81<=17*81:=Uk _ (by rw[Da,Da,AC];lia)
 have s:(jf (dk d a i)).length<=4800:=by
  unfold jf
  cases e:lk (dk d a i) "text"with
  |none=>exact Sm _
  |some x=>exact(tl _ (vR e)).le
 unfold B10P.bR;rw[FS,jM,iC,Bb h g];have o:(" text=":Z).length=6:=U;have b:(" ":Z).length=1:=U;rw[b]at c;have c:(Tr " " (d.wh.kd::d.nm::(kvsOf (dk d a i)).map kZ)).length<=(d.wh.kd::d.nm::(kvsOf (dk d a i)).map kZ).length*81:=c
 split
 ·lia
 ·rw[FS,FS,o]
  lia
def Rk(row:Z):Prop:=10∉row.cps.toList/\row.length<=6300
theorem zq:∀(F:Fo)(n:M')(b:aX)(i:M')(f:Tq)(k:M'),VF f F->F.Good->(∀x∈bH F,Vn x)->b.Good->Vw b k->n+F.fq<=20->cD oP (a_ F n b i)=O (IH F n b i)/\∀row∈a_ F n b i,Rk row
 | .nil,_,_,_,_,_,_,_,_,_,_,_=>⟨U,λrow h=>nomatch h⟩
 | .cons a d cs as,n,b,i,f,k,⟨⟨C,m,A⟩,r,y⟩,⟨⟨g1,g2,g3,B⟩,w,v⟩,e,c,j,l=>by
  have l:n+max (cs.fq+1) as.fq<=20:=l;obtain⟨s,p⟩:=zq cs (n+1) d.wh 0 _ _ r w (λx g=>e x (Fk _ (Ul _ g))) g1 m aB;obtain⟨o,t⟩:=zq as n b (i+1) f k y v (λx g=>e x (Fk _ (TF _ g))) c j aB;obtain⟨q,u⟩:=OX (i:=i) (n:=n) g1 g2 c m j (e _ De) aB;refine⟨?_,λrow hr=>?_⟩
  ·show((oP (B10P.bR d n b i)).bind λx=>(cD oP (a_ cs (n+1) d.wh 0++a_ as n b (i+1))).map (x::·))=_;rw[Ou q,jc,s,o];rfl
  ·have hr:row∈B10P.bR d n b i::(a_ cs (n+1) d.wh 0++a_ as n b (i+1)):=hr
   rcases PP.mp hr with rfl|hr
   ·exact⟨λz=>KB (u 10 z) bp,Dg g1 g2 c g3 aB⟩
   ·rcases Os.mp hr with z|z
    ·exact p row z
    ·exact t row z
def Fj(d:dV)(n:M')(a:aX)(i:M'):B10P.bR (nB d) n (sq a) i=B10P.bR d n a i:=by
 obtain⟨c,e,b,_⟩:=uS d.wh;obtain⟨_,_,_,f,_⟩:=uS a;show oo "  " n++Sr " " ((sq d.wh).kd::d.nm::(ic d.own++(dR (sq d.wh)++(pS (sq a) i++Il (sq d.wh)))))=_;rw[c,e,b,f];rfl
theorem xX:∀F:Fo,(zF F).bD.length=F.bD.length/\bH (zF F)=bH F
 | .nil=>⟨U,U⟩
 | .cons a d cs as=>by
  refine⟨Tb (· +1) (xX as).1,?_⟩;show d.nm::(bH (zF cs)++bH (zF as))=d.nm::(bH cs++bH as);rw[(xX cs).2,(xX as).2]
theorem vd:∀(F:Fo)(n:M')(b:aX)(i:M'),a_ (zF F) n (sq b) i=a_ F n b i
 | .nil,_,_,_=>rfl
 | .cons a d cs as,n,b,i=>by
  show B10P.bR (nB d) n (sq b) i::(a_ (zF cs) (n+1) (sq d.wh) 0++a_ (zF as) n (sq b) (i+1))=_;rw[Fj,vd cs,vd as];rfl
def HK(g:gf ws)(v:MK ws):LK ws:=⟨λw a=>⟨⟨(g.2 w a).1,(g.2 w a).2.1⟩,λx b=>⟨(g.2 w a).2.2 x b,v.1 w a x b⟩⟩,v.2⟩
def cw_of(g:wh.Good)(v:Vw wh n):Cw wh n:=by
 cases wh with
 |words ws j=>exact⟨v.1,HK g.1 v.2.1,v.2.2⟩
 |flow a ws j=>exact⟨v.1,v.2.1,v.2.2.1,HK g.2.1 v.2.2.2.1,v.2.2.2.2⟩
 |_=>exact v
theorem z_:∀(F:Fo)(e:Tq)(b:J')(bb:L Z),VF e F->F.Good->(∀x∈bH F,Vn x)->(bb++bH F).Nodup->bb.length+F.cnt<=60->b+F.fq<=9->iG e b (zF F) bb
 | .nil,_,_,_,_,_,_,_,_,_=>trivial
 | .cons a d cs as,e,b,bb,⟨⟨u,q,n⟩,o,t⟩,⟨⟨g1,g2,g3,w⟩,s,p⟩,f,c,j,k=>by
  obtain⟨i,_,_,_,r,_⟩:=uS d.wh;have k:b+((max (cs.fq+1) as.fq:M'):J')<=9:=k;have j:bb.length+(cs.cnt+as.cnt+1)<=60:=j;have v:(bH cs).length=cs.cnt:=mu cs;have c:(bb++(d.nm::(bH cs++bH as))).Nodup:=c;have g:d.nm∉bb:=λz=>(V4.mp c).2.2 _ z _ De U
  have m:bb++(d.nm::(bH cs++bH as))=((bb++[d.nm])++bH cs)++bH as:=by simp
  have l:bb++(d.nm::bH cs)=(bb++[d.nm])++bH cs:=by simp
  rw[m]at c;refine⟨⟨⟨f _ De,u,?_⟩,⟨g,aB,aB⟩,λz=>?_⟩,?_,?_⟩
  ·rw[(xX cs).1];exact(r _).mpr (cw_of g1 q)
  ·show e=F'/\DR (sq d.wh).kd;rw[i];exact n.1 z
  ·show iG (e||decide (V.str (sq d.wh).kd=V.str "table")) (b+1) (zF cs) (bb++[d.nm]);rw[i];exact z_ cs _ _ _ o s (λx h=>f x (Fk _ (Ul _ h))) (V4.mp c).1 (by rw[B3];show bb.length+1+cs.cnt<=60;lia) aB
  ·show iG e b (zF as) (bb++(d.nm::bH (zF cs)));rw[(xX cs).2,l];exact z_ as _ _ _ t p (λx h=>f x (Fk _ (TF _ h))) c (by rw[B3,B3];show bb.length+1+(bH cs).length+as.cnt<=60;lia) aB
theorem AE:∀a:L (J'×J'),(∀p∈a,p.2<=12)->vt (a.map λp=>(p.1.toNat,p.2.toNat))<=12*a.length
 |[],_=>B9 _
 |p::l,h=>by
  have d:=AE l λq b=>h q (Fk _ b);have c:=h p De;show p.2.toNat+vt (l.map λp=>(p.1.toNat,p.2.toNat))<=12*(l.length+1)
  lia
theorem vS:∀(F:Fo)(e:Tq),VF e F->bV (zF F)
 | .nil,_,_=>trivial
 | .cons a d cs as,e,⟨⟨r,h,k⟩,l,j⟩=>by
  refine⟨(uS d.wh).2.2.2.2.2.mpr ?_,vS cs _ l,vS as _ j⟩;generalize d.wh=wh at *
  cases wh with
  |table c g o b=>
   obtain⟨_,_,_,_,q,i⟩:=h;have m:=AE b λp f=>(i p f).2.2;have n:=k.2;show vt _<=60
   lia
  |_=>trivial
theorem DU{t:B4}{d:dV}(a:VF F' (.cons t d cs .nil))(good:(Fo.cons t d cs .nil).Good)(f:∀x∈bH (.cons t d cs .nil),Vn x)(h:(bH (.cons t d cs .nil)).Nodup)(m:cs.fq<=7)(l:cs.cnt<=20):(∃p,iU (fU (d,cs))=O p/\ou p/\wj p/\fU p=fU (d,cs))/\∀row∈B10P.bR d 0 eQ 0::a_ cs 1 d.wh 0,Rk row:=by
 have k:(Fo.cons t d cs .nil).fq<=8:=by
  show max (cs.fq+1) 0<=8
  lia
 obtain⟨e,b⟩:=zq (.cons t d cs .nil) 0 eQ 0 F' 0 a good f kQ ⟨U,⟨bp,bp⟩,bp,bp⟩ aB
 have j:a_ (.cons t d cs .nil) 0 eQ 0=B10P.bR d 0 eQ 0::a_ cs 1 d.wh 0:=by
  show B10P.bR d 0 eQ 0::(a_ cs 1 d.wh 0++[])=_;rw[Ni]
 rw[j]at e b;refine⟨⟨(nB d,zF cs),?_,z_ (.cons t d cs .nil) F' 1 [] a good f h (by show 0+(cs.cnt+0+1)<=60;lia) aB,vS (.cons t d cs .nil) F' a,?_⟩,b⟩
 ·unfold iU fU;rw[join_eq,fN (c:=10) (t:=[]) pG bf (Ub _ _) λw i=>(b w i).1,e];show(pY [] (IH (.cons t d cs .nil) 0 eQ 0).reverse).bind qc=_;have :=Ip (.cons t d cs .nil) 0 eQ 0 F' [] [] a good λp g=>nomatch g;rw[Ni]at this;rw[this];rfl
 ·unfold fU;show Sr "\n" (B10P.bR (nB d) 0 (sq eQ) 0::a_ (zF cs) 1 (sq d.wh) 0)=_;rw[Fj,vd]
section
variable{K:B0}
theorem JZ{α β:Type}{J:It}{l:L α}(inj:α->V)(f:α->O' β)(R:Hp->V->β->Prop)(kS:∀(G W:Hp)(v:V)(b:β),aa G W->R G v b->R W v b)(N:∀(G:Hp)(a:B4)(xs ys:L V)(v:V)(b:β),G a=O (.lst xs)->R G v b->R (upd G a (.lst ys)) v b)(F:iJ J H (l.map inj))(hn:l.length<sizeLine)(he:∀x∈l,∀(H':Hp)(Q':VK),aa H H'->(∀b,f x=O b->∀v k,aa H' k->R k v b->Q' v k)->(f x=Y->∀k,aa H' k->E (.ref CN) Y k)->te (O (inj x)::σ) H' Q')(I:∀bs,cD f l=O bs->∀(A:B4)(xs:L V)(H':Hp),aa H H'->H' A=O (.lst xs)->xs.length=bs.length->(∀(j:M')(v:V)(b:β),xs[j]? =O v->bs[j]? =O b->R H' v b)->Q (.ref A) H')(D:cD f l=Y->∀H',aa H H'->E (.ref CN) Y H'):fQ J H σ gn te Q:=by
 intro A X;refine⟨λi m H'=>m=l.length-i/\i<=l.length/\aa H H'/\∃(xs:L V)(bs:L β),H' A=O (.lst xs)/\xs.length=i/\xs.length=bs.length/\(∀(j:M')(v:V)(b:β),xs[j]? =O v->bs[j]? =O b->R H' v b)/\cD f (l.take i)=O bs,⟨_,U,Sm _,aa.qh (aa.refl _) X,[],[],ag,U,U,(λj v b e=>nomatch e),U⟩,?_⟩;rintro i m H' ⟨rfl,hi,n,xs,bs,T,w,g,S,s⟩;by_cases h:i<l.length
 ·refine .inr ⟨F.1 i H' n (by rw[AC];exact h),λx k y=>?_⟩;obtain⟨e,M⟩:=F.2.2 i x H' k n y;subst e;have ex:l[i]? =O l[i]:=B2 h;rw[B6,ex]at M
  cases M
  have t:=Do ex
  have C:l.take (i+1)=l.take i++[l[i]]:=by rw[UA,ex];rfl
  have B:l=l.take (i+1)++l.drop (i+1):=(Ve _ _).symm;generalize l[i]=x at *;unfold gn;refine dJ (he x t _ _ n (λb hb v P z hv=>?_) λp P z=>D ?_ P (aa.trans n z))
  ·have o:=z _ _ T;refine⟨_,o,?_,_,Uz _ _ h,U,h,aa.qh (aa.trans n z) X,xs++[v],bs++[b],ag,by rw[B3,w];rfl,by rw[B3,B3,g];rfl,λj u e q r=>?_,?_⟩
   ·rw[w];lia
   ·by_cases c:j<xs.length
    ·rw[Sv c]at q;rw[Sv (by rw[<-g];exact c)]at r;exact N _ _ _ _ _ _ o (kS _ _ _ _ z (S j u e q r))
    ·rw[Re aB]at q;rw[Re (by rw[<-g];lia),<-g]at r
     have e0:j-xs.length=0:=by
      have :=cQ q;simp at this
      lia
     rw[e0]at q r
     cases q
     cases r
     exact N _ _ _ _ _ _ o hv
   ·rw[C,jc,s];show((f x).bind λd=>O [d]).map (bs++·)=_;rw[hb];rfl
  ·rw[B,C,Sx,jc,s];show(((f x).bind λd=>(cD f (l.drop (i+1))).map (d::·))).map (bs++·)=Y;rw[p];rfl
 ·have e:i=l.length:=by lia
  have K:=F.2.1 H' n;rw[AC]at K;rw[e]at s⊢;rw[UO]at s;exact .inl ⟨K,I bs s A xs H' n T g S⟩
end
theorem AW{α:Type}{S:B4->α->Prop}:∀(l:L α)(xs:L V),xs.length=l.length->(∀(j:M')(v:V)(x:α),xs[j]? =O v->l[j]? =O x->∃a,v= .ref a/\S a x)->∃as:L B4,xs=as.map V.ref/\as.length=l.length/\∀(j:M')(a:B4)(x:α),as[j]? =O a->l[j]? =O x->S a x
 |[],xs,h,_=>⟨[],S0 h,U,λi a x e=>nomatch e⟩
 |y::l,[],h,_=>KB h (by simp)
 |y::l,x::ys,h,g=>by
  obtain⟨a,rfl,n⟩:=g 0 x y U U;obtain⟨as,rfl,c,k⟩:=AW l ys (by simpa using h) λj v z m c=>g (j+1) v z m c;refine⟨a::as,U,by rw[Da,Da,c],λi b z d f=>?_⟩
  cases i with
  |zero=>cases d;cases f;exact n
  |succ i=>exact k i b z d f
def EB(CB:B4)(E:XK):TS:=Ib (eS (rL CB) [] E (aY (eA 1) dc))
inductive Fn(K:B0)(CN:B4)(vs:L V)(H:Hp)(Q:VK)(E:XK):Prop
 |mk (z:Z) (c0:vs=[.str z]) (c1:z.length<=90000) (c2:(So z "\n").length<=40) (c3:(∀p,iU z=O p->ou p->fU p=z->∀v H',aa H H'->At K H' v (dB p)->Q v H')) (c4:(¬(∃p,iU z=O p/\ou p/\wj p/\fU p=z)->∀H',aa H H'->E (.ref CN) Y H'))
def uP(K:B0)(CN:B4):Sp:=λa H Q E=>Fn K CN a H Q E
section
variable{K:B0}
abbrev qN:L Z:=["text","tree"]
def oC:ay qN ["text"] (aj kz):=dH
theorem uA(ON:T4 K CN gM "ValueError.__new__"=T')(mN:mg "NoTree"=O (.ref CN))(kN:Td K (.ref CN)=T'){C:B4}(mB:mg "BadBox"=O (.ref CB))(cB:Cy K CB)(tB:T3 K CB (.ref CB)=O T')(F:c_ K "read_tree" "read_tree" kz f fd)(N:aQ mg)(C1:uN P w K mg B' 5 (F1 K C CN) "outermost_read")(C2:uN P w K mg B' 3 (Iq C CN) "row_read")(C3:uN P w K mg B' 50 (rL CB) "check_tree")(C4:Cl P w K mg B' 17 jo "tree_text"):aS P w K mg B' (cu P w) 51 f fd ["text"] (uP K CN):=by
 refine F.rb (k:=50) oC λC' A U' s H vs Q E i h=>?_
 ·obtain⟨z,e,hz,b1,hy,D⟩:=h;subst e
  refine⟨_,ah (pz 1 oC.nd (oR C1 i (cN λ_ _ _ z=>z) (aN (mY (br (fs:=aj kz) (N:=qN) U U bf) (ff (bY Pi UL UK iS (pv 0) (aN ak))) (λ_ _ _ _ _ _ c=>(oR C2 i c (aN (pv 0))))))))
   (ah (zb (tb:=EB CB) U (λE2 pn xe hx=>(ai (cK (oR C3 i hx (aN (pv 1)))))) (by rfl) mB cB tB ON (by rfl) mN kN)
   (ah (aO (HU (pq C4 i (aN (pv 1))) (pv 0)) (ai (ia ON (by rfl) mN kN)) aD)
   (ai (ar (pv 1))))),?_⟩
  try rw[cA]
  have lb:∀r∈So z "\n",r.length<=90000:=λr i=>Tf (eL i) hz;refine aq λT q=>?_;refine⟨_,U,U,_,_,U,U,bf,az aB,λl hl=>?_⟩;generalize hG:upd H l _=H1
  have s1:aa H H1:=by rw[<-hG];exact aa.put (aa.refl _) hl
  have h1:H1 l=O (.lst ((So z "\n").map V.str)):=by rw[<-hG];exact ag
  clear hG;refine⟨l,U,⟨_,bu.of h1⟩,JZ (CN:=CN) (E:=E) (α:=Z) (β:=jl) (l:=So z "\n") (λp=> .str p) oP (λG v r=>∃x g,v= .ref x/\E1 C G x r.dep r.kd r.nm g/\Told G g r.ps) (λG G' v p s ⟨x,g,e,⟨dx,t⟩,o⟩=>⟨x,g,e,⟨dx,s _ _ t⟩,o.same s⟩) (λG a xs ys v p ha ⟨x,g,e,⟨dx,t⟩,o⟩=>⟨x,g,e,⟨dx,by rw[ax (λz=>by rw[z,ha]at t;cases t)];exact t⟩,by unfold Told at o⊢;rw[ax (λz=>by rw[z,ha]at o;cases o)];exact o⟩) (iJ.list (bu.of h1)) (small aB) (λr i H' Q' s' y n=>⟨_,U,r,U,lb r i,λrx a7 x d I M ht hT=>y rx a7 _ I M ⟨x,d,U,ht,hT⟩,n⟩) (λb hL DD xs I M h2 e1 hA=>?_) λhn I M=>D (λ⟨p,c,_⟩=>by unfold iU at c;rw[hn]at c;cases c) I (aa.trans s1 M)⟩
  obtain⟨as,rfl,e2,e3⟩:=AW b xs e1 (S:=λx r=>∃g,E1 C I x r.dep r.kd r.nm g/\Told I g r.ps) λj v r t o=>by
   obtain⟨x,g,e,q3,q4⟩:=hA j v r t o;exact⟨x,e,g,q3,q4⟩
  have a9:=jS hL
  have a3:AZ b:=λr i=>by
   obtain⟨x,hx,ex⟩:=rZ hL r i;exact Gk ex (lb x hx)
  have X:iU z=outF b:=by unfold iU;rw[hL];rfl
  refine⟨DD,as,b,U,h2,⟨e2,e3⟩,aB,a3,λp c v H3 s3 hv=>?_,λhn H3 s3=>D (λ⟨p,c,_⟩=>by rw[X,hn]at c;cases c) H3 (aa.trans s1 (aa.trans M s3))⟩;have X:iU z=O p:=X.trans c;refine q _ _ ?_;clear q T;have B:=aa.trans s1 (aa.trans M s3);obtain⟨p1,p2⟩:=PD c a3 aB;obtain⟨G,R,eG,a0⟩:=xH (.cons 0 p.1 p.2 .nil) [v] (bJ.cons hv bJ.nil);have se:=R
  cases R with
  | @cons _ a' _ _ a5 _ b2 lc la=>
   cases la with
   |nil=>
    have eG:[v]=[V.ref a']:=eG
    injection eG with eG _
    subst eG;have e1:=lc.fq;have b0:=lc.cnt
    have a1:∀G:Hp,aa H G->(¬(ou p/\wj p/\fU p=z))->E (.ref CN) Y G:=λG sG hn=>D (λ⟨p',m,h1,h2,h3⟩=>by
     rw[X]at m
     injection m with m
     subst m
     exact hn ⟨h1,h2,h3⟩) G sG
    refine aq λT q=>?_;refine⟨_,U,a',p.1,a5,U,aB,a0,se.sz p2,λa4 H4 J=>?_,λa8 dx H4 J=>⟨U,(λz=>nomatch z),λa ha=>a1 _ (aa.put (aa.trans B J) (aa.free (aa.trans B J) ha)) λu=>a8 ⟨se.RO.mp u.1,se.sure.mp u.2.1⟩⟩⟩;have a6:ou p:=se.RO.mpr a4;obtain⟨g1,g2,g3⟩:=Hk a6;refine q _ _ (aq λT q=>?_);refine⟨_,U,a',p.1,a5,U,a0.keep (KT.same J),se.good g1,aB,aB,λH5 s5=>⟨_,U,U,_,U,?_⟩⟩;have a2:=aa.trans B (aa.trans J s5);rw[<-lc.rows];by_cases ez:fU p=z
    ·refine bT ?_ ?_
     ·show(!decide (V.str (fU p)=V.str z))=F';rw[FB (by rw[ez])];rfl
     refine q _ _ ?_;clear q T;exact⟨_,U,hy p X a6 ez _ H5 a2 (hv.same (aa.trans J s5))⟩
    ·refine gm ?_ (a1 H5 a2 λu=>ez u.2.2);show(!decide (V.str (fU p)=V.str z))=T';rw[GT (λe=>ez (by injection e))];rfl
end
noncomputable abbrev qZ:SX:=top 127
noncomputable abbrev qP:SX:=top 128
noncomputable abbrev vr:SX:=top 129
def Jn:UI "ValueError"=O (.type "ValueError"):=by decide +kernel
def Md(K:B0)(CN:B4)(E:XK):TS:=lO (eS jo [] (λ_ _ _=>False) (aY (eS (uP K CN) [] E (aY (eA 0) dc)) dc)) (eY 2)
def ME:TS:=lO (eA 3) (eY 1)
inductive Ku(vs:L V)(H:Hp)(Q:VK):Prop
 |mk (z:Z) (c0:vs=[.str z]) (c1:z.length<=90000) (c2:(So z "\n").length<=40) (c3:(∀p,iU z=O p->ou p->fU p=z->∀H',aa H H'->Q (.str z) H')) (c4:(¬(∃p,iU z=O p/\ou p/\wj p/\fU p=z)->∀(t:B4)(H':Hp),aa H H'->H' t=O (.tup [.str "refused"])->Q (.ref t) H'))
def Gq(K:B0):Sp:=λa H Q _=>Ku a H Q
section
variable{K:B0}
noncomputable abbrev Mn:L Z:=["_law_text","_law_error","_law_found","e","_law_others"]
def jg:ay Mn ["_law_text"] (aj qZ):=dH
theorem HG{CR:B4}(mB:mg "BoxError"=O (.ref CB))(cB:Cy K CB)(tB:T3 K CN (.ref CB)=O T')(mT:mg "BadBox"=O (.ref CT))(mR:mg "Ring"=O (.ref CR))(x:mg "TooGreat"=O (.ref CG))(mN:mg "NoTree"=O (.ref CN))(u:mg "ValueError"=Y)(l:vM K CN)(kT:TX K (.ref CN) (.ref CT)=O F')(kR:TX K (.ref CN) (.ref CR)=O F')(kG:TX K (.ref CN) (.ref CG)=O F')(R:TX K (.ref CN) (.ref CN)=O T')(I:TX K (.ref CN) (.type "ValueError")=O T')(F:c_ K "_law_said" "_law_said" qZ f fd)(N:aQ mg)(C1:uN P w K mg B' 51 (uP K CN) "read_tree")(C2:Cl P w K mg B' 17 jo "tree_text"):aS P w K mg B' dz 52 f fd ["_law_text"] (Gq K):=by
 refine F.fb jg λC' A U' s H vs Q E hr h=>?_
 ·obtain⟨z,e,hz,y,hy,D⟩:=h;subst e
  refine⟨_,ah (pz 1 jg.nd zB)
   (ah (pz 2 jg.nd ak)
   (ah (Lg (i:=3) (CT:=CN) (T1:=ME) (tb:=Md K CN) (λE2 pn xe d=>(ai (pz 2 jg.nd (pq C2 hr (aN (oR C1 hr d (aN (pv 0)))))))) jg.nd U U (by rfl) mB cB tB (λa=>ai (pz 1 jg.nd (pv 3))) U U)
   (ah (aO (bh Ml (pv 1) zB (bB _)) (ai (ar (pv 2))) aD)
   (ah (pz 4 jg.nd (A8 (aI (r:=qT K) gX (by rfl) N.inst Sw (bO (pv 1) (aV (v:= .ref CT) (by rfl) mT U))) (A8 (aI (r:=qT K) gX (by rfl) N.inst Sw (bO (pv 1) (aV (v:= .ref CR) (by rfl) mR U))) (cI (aI (r:=qT K) gX (by rfl) N.inst Sw (bO (pv 1) (aV (v:= .ref CG) (by rfl) x U)))))))
   (ah (aO (cn (b_ (aI (r:=qT K) gX (by rfl) N.inst Sw (bO (pv 1) (aV (v:= .ref CN) (by rfl) mN U)))) (cn (b_ (aI (r:=AI K) sx (by rfl) N.inst Sw (bO (pv 1) (fF (v:= .ty "ValueError") (by rfl) u Jn U bp)))) (bU (fL (b_ (pv 4)))))).pt (ai (ar (aR (aN ak)))) aD)
   (ai (ar (aR (aN ak))))))))),?_⟩
  try rw[cA]
  refine aq λc b=>?_;refine b _ _ (aq λc b=>?_);refine b _ _ (aq λc b=>?_);refine⟨_,U,z,U,hz,y,λp hp T m v o n hv=>?_,λhn o n a ha=>⟨U,λj J=>?_⟩⟩
  ·obtain⟨g1,g2,g3⟩:=Hk T;obtain⟨G,g,k,q⟩:=xH (.cons 0 p.1 p.2 .nil) [v] (bJ.cons hv bJ.nil);have se:=g
   cases g with
   | @cons _ X _ _ M _ a0 C la=>
    cases la with
    |nil=>
     have k:[v]=[V.ref X]:=k
     injection k with k _
     subst k;have e1:=C.fq;have e2:=C.cnt;refine⟨X,p.1,M,U,q,se.good g1,aB,aB,λS s2=>?_⟩;rw[<-C.rows,show Sr "\n" (B10P.bR p.1 0 eQ 0::a_ p.2 1 p.1.wh 0)=z from m];refine b _ _ (aq λc b=>?_);exact⟨_,U,U,_,U,gm U ⟨_,U,hy p hp T m S (aa.trans n s2)⟩⟩
  ·have J:j.length=5:=J
   match j,J with
   |[x0,x1,x2,x3,x4],_=>
    refine⟨_,U,?_⟩;refine b _ _ ?_;clear b c;have sa:aa H (upd o a (xh CN a Y)):=aa.put n (n.free ha);have d:(upd o a (xh CN a Y)) a=O (xh CN a Y):=ag;have no:∀(H:Hp)(B:B4),(Y:O' B4)=O B->∃fs,H B=O (.xd fs):=λ_ B e=>nomatch e;generalize upd o a (xh CN a Y)=S at *;refine aq λc b=>?_;refine⟨_,U,U,_,U,bT (GT λe=>nomatch e) ?_⟩;refine b _ _ (aq λc b=>?_);refine⟨_,U,a,CN,CT,Y,F',U,d,no _,l,kT,_,U,bW ⟨_,U,a,CN,CR,Y,F',U,d,no _,l,kR,_,U,bW ⟨_,U,a,CN,CG,Y,F',U,d,no _,l,kG,?_⟩⟩⟩;refine b _ _ (aq λc b=>?_);refine⟨_,U,a,CN,CN,Y,T',U,d,no _,l,R,_,U,dJ ⟨_,U,a,CN,"ValueError",Y,T',U,d,no _,l,I,_,U,dJ ⟨_,U,_,U,?_⟩⟩⟩;exact dJ ⟨(by show 1<=sizeLine;decide),λt m=>D hn t _ (aa.put sa (sa.free m)) ag⟩
end
def OW(z:Z):Prop:=z.length<=90000/\z.cps.toList.count 10<=30
theorem oI:∀ps:L (L M'),ps.length<=(eX [10] ps).count 10+1
 |[]=>Sm _
 |[p]=>by show 1<=_;lia
 |p::q::r=>by
  have a:=oI (q::r);rw[jh,U2,U2];have e:List.count 10 [10]=1:=U;show(q::r).length+1<=_
  lia
theorem OW.rows(h:OW z):(So z "\n").length<=40:=by
 have g:=oI ((So z "\n").map λp=>p.cps.toList);rw[AC,show([10]:L M')=("\n":Z).cps.toList from pG.symm,<-join_list,aaT]at g;have :=h.2
 lia
theorem tE:∀ps:L (L M'),(∀p∈ps,10∉p)->(eX [10] ps).count 10<=ps.length
 |[],_=>B9 _
 |[p],h=>by
  show p.count 10<=1;rw[List.count_eq_zero.mpr (h p De)];exact Sm _
 |p::q::r,h=>by
  have b:=tE (q::r) λx a=>h x (Fk _ a);rw[jh,U2,U2,List.count_eq_zero.mpr (h p De)];have e:List.count 10 [10]=1:=U;show _<=(q::r).length+1
  lia
def Rj(row:Z):Prop:=10∉row.cps.toList/\row.length<=6400
def Rk.rj(h:Rk row):Rj row:=⟨h.1,Tf h.2 bp⟩
theorem mF(f:R.length<=13)(b:∀r∈R,Rj r):(Sr "\n" R).length<=89000/\(Sr "\n" R).cps.toList.count 10<=13:=by
 have c:=fu "\n" (B:=6400) R λr a=>(b r a).2;have g:("\n":Z).length=1:=U;rw[g]at c;have h:R.length*(6400+1)<=13*(6400+1):=Uk _ f
 have e:=tE (R.map λp=>p.cps.toList) λp d=>by
  obtain⟨r,a,rfl⟩:=Su.mp d;exact(b r a).1
 rw[AC,show([10]:L M')=("\n":Z).cps.toList from pG.symm,<-join_list]at e;refine⟨aB,?_⟩;rw[join_eq]
 lia
theorem zj(h:z.length<=89000/\z.cps.toList.count 10<=13):OW z:=⟨by have :=h.1;lia,by have :=h.2;lia⟩
def Mw{b:M'}(a:b<=x.length):(gx x Y (O (b:J'))).cps.toList=x.cps.toList.take b:=by
 have e:gx x Y (O (b:J'))=gx x (O ((0:M'):J')) (O (b:J')):=by
  unfold gx;rw[Zv];rfl
 rw[e,yI (Sm _) a];rfl
theorem Lf{a b:M'}(h:z.length<=89000/\z.cps.toList.count 10<=13)(g:s.length<=1)(c:a<=b)(f:b<=z.length):OW ((gx z Y (O (a:J'))++s)++gx z (O (b:J')) Y):=by
 have e:((gx z Y (O (a:J'))++s)++gx z (O (b:J')) Y).cps.toList=(z.cps.toList.take a++s.cps.toList)++z.cps.toList.drop b:=by
  rw[app_list,app_list,Mw aB,Af f]
 have d:z.cps.toList.drop b=(z.cps.toList.drop a).drop (b-a):=by rw[V0];congr 1;lia
 have i:=eU z;have m:=eU s
 have n:(z.cps.toList.drop b).count 10<=(z.cps.toList.drop a).count 10:=by
  rw[d];exact List.Sublist.count_le _ (List.drop_sublist _ _)
 have k:(z.cps.toList.take a).count 10+(z.cps.toList.drop a).count 10=z.cps.toList.count 10:=by rw[<-U2,Ve]
 have j:=List.count_le_length (a:=10) (l:=s.cps.toList);have :=h.1;have :=h.2;refine⟨?_,?_⟩
 ·rw[<-eU,e,B3,B3,TJ,Ta]
  lia
 ·rw[e,U2,U2]
  lia
def II(σ:St)(H0:Hp)(te:TE)(R:L Z):Prop:=∀(H:Hp)(Q:VK),aa H0 H->(∀l H',aa H H'->H' l=O (.lst (R.map V.str))->Q (.ref l) H')->te σ H Q
def O1(σ:St)(H0:Hp)(te:TE)(n:M'):Prop:=∀(H:Hp)(Q:VK),aa H0 H->Q (.int (n:J')) H->te σ H Q
section
variable{K:B0}{tx:TE}{S:L Z}
def jO(h:σ[i]? =O (O (.int (n:J')))):O1 σ H0 (eA i) n:=λH Q _ q=>⟨_,h,q⟩
def HW(h:O1 σ H0 te n):O1 σ H0 (ix (wc λi j=> .int (i+j)) te (tC (.int 1))) (n+1):=λH Q s q=>h H _ s ⟨_,_,U,U,by rw[Wi]at q;exact q⟩
def jT(h:σ[i]? =O (O (.ref l)))(a:H0 l=O (.lst (R.map V.str))):II σ H0 (eA i) R:=λH Q s q=>⟨_,h,q l H (aa.refl _) (s _ _ a)⟩
def A9(h:II σ H0 te R)(f:O1 σ H0 tx n):II σ H0 (QJ (Ky K) te pC (A1 tx)) (R.take n):=λH Q s q=>h H _ s λl d a g=>f d _ (aa.trans s a) ⟨_,U,l,_,U,bu.of g,λp b=>by
 have e:mE (R.map V.str) Y (O (n:J'))=(R.take n).map V.str:=by
  unfold mE;rw[HT.md,HT.pO,Vk,Z2,List.map_take,AC]
  rcases Nat.le_total n R.length with c|c
  ·rw[Xe c]
  ·rw[abx c,Tp (by rw[AC];exact B9 _),Tp (by rw[AC];exact c)]
 rw[e]
 exact q p _ (aa.trans a (aa.put (aa.refl _) b)) ag⟩
def Bi(h:II σ H0 te R)(f:O1 σ H0 tx n):II σ H0 (QJ (Ky K) te (A1 tx) pC) (R.drop n):=λH Q s q=>h H _ s λl d a g=>f d _ (aa.trans s a) ⟨_,U,l,_,U,bu.of g,λp b=>by
 have e:mE (R.map V.str) (O (n:J')) Y=(R.drop n).map V.str:=by
  unfold mE;rw[HT.md,HT.pO,Zz,AC]
  rcases Nat.le_total n R.length with c|c
  ·rw[Xe c];exact Tp (by rw[Ta,AC];exact B9 _)
  ·rw[abx c,VZ (by rw[AC];exact B9 _),VZ (by rw[AC];exact c)];exact List.take_nil
 rw[e]
 exact q p _ (aa.trans a (aa.put (aa.refl _) b)) ag⟩
theorem qy(h:II σ H0 ta R)(g:II σ H0 tb S)(j:R.length+S.length<=1000):II σ H0 (ix Nd ta tb) (R++S):=λH Q s q=>h H _ s λl f c i=>g f _ (aa.trans s c) λb k a e=>⟨l,b,_,_,U,U,a _ _ i,e,az (by rw[AC,AC];lia),λp d=>by
 rw[<-KM]
 exact q p _ (aa.trans c (aa.trans a (aa.put (aa.refl _) d))) ag⟩
def Np(h:σ[i]? =O (O (.str z))):II σ H0 (sN (aY (eA i) dc)) [z]:=λH Q s q=>⟨_,h,(by show 1<=sizeLine;decide),λp a=>q p _ (aa.put (aa.refl _) a) ag⟩
theorem vz{D:Ends}(h:II σ H0 te R)(d:R.length<=13)(b:∀r∈R,Rj r)(k:∀H',aa H0 H'->D.rt (.str (Sr "\n" R)) H'):sf (Pf K "str" (rJoin K) (tC (.str "\n")) (aY te dc)) D σ H0:=⟨U,h H0 _ (aa.refl _) λl H' c a=>⟨_,l,R,U,U,bu.of a,by
 have g:=DW.ig (B:=6400) R λr e=>(b r e).2;have f:("\n":Z).length=1:=U;have i:R.length*6400<=13*6400:=Uk _ d;rw[f]
 lia,k H' c⟩⟩
end
inductive JT(vs:L V)(H:Hp)(Q:VK):Prop
 |mk (st:B4) (d z:J') (R:L Z) (c0:vs=[.ref st,.str (Sr "\n" R)]) (c1:H st=O (.lst [.int d,.int z])) (c2:R≠[]) (c3:R.length<=11) (c4:(∀r∈R,Rk r)) (c5:0<(Sr "\n" R).length) (c6:∀(x:Z)(d' z':J')(H':Hp),OW x->H' st=O (.lst [.int d',.int z'])->Q (.str x) H')
def HS:Sp:=λa H Q _=>JT a H Q
def plain_at(b:0<=v)(c:v<6):∃x:Z,oE [V.str " rank=0",.str " grow=0",.str " wide=0..1000000",.str " side=left",.str " gap=0",.str " span=1,1"] v=O (.str x)/\10∉x.cps.toList/\x.length<=16:=by
 obtain⟨k,rfl,a⟩:=iK (z:=v) (n:=6) b c
 match k,a with
 |0,_=>exact⟨_,U,bf,bf⟩
 |1,_=>exact⟨_,U,bf,bf⟩
 |2,_=>exact⟨_,U,bf,bf⟩
 |3,_=>exact⟨_,U,bf,bf⟩
 |4,_=>exact⟨_,U,bf,bf⟩
 |5,_=>exact⟨_,U,bf,bf⟩
def JP(b:0<=v)(d:v<12):∃c:M',oE ("01a =.,-\nAz|":Z).cps.toList v=O c:=by
 obtain⟨k,rfl,a⟩:=iK (z:=v) (n:=12) b d
 have e:("01a =.,-\nAz|":Z).cps.toList.length=12:=by decide +kernel
 exact⟨_,aG (B2 (by rw[e];exact a))⟩
theorem NY(b:0<=v)(a:v<3)(d:s.length=1):(∃x:Z,oE [V.str "",.str s,.str s] v=O (.str x)/\x.length<=1)/\∃j:M',j<=1/\oE [V.int 1,.int 0,.int 1] v=O (.int (j:J')):=by
 obtain⟨k,rfl,c⟩:=iK (z:=v) (n:=3) b a
 match k,c with
 |0,_=>exact⟨⟨"",U,bf⟩,1,B9 _,U⟩
 |1,_=>exact⟨⟨s,U,aB⟩,0,Sm _,U⟩
 |2,_=>exact⟨⟨s,U,aB⟩,1,B9 _,U⟩
section
variable{K:B0}
noncomputable abbrev Mi:L Z:=["_law_stream_here","_law_text","_law_way","_law_rows_here","_law_at","_law_plain","_law_more","_law_sign"]
def iB:ay Mi ["_law_stream_here","_law_text"] (aj qP):=dH
theorem Fd(F:c_ K "_law_bent" "_law_bent" qP f fd)(N:aQ mg)(C1:Cl P w K mg B' 1 B10P.fo "_law_take"):aS P w K mg B' dz 2 f fd ["_law_stream_here","_law_text"] HS:=by
 refine F.fb iB λC' A U' s H vs Q E p h=>?_
 ·obtain⟨st,d,z,R,e,b6,a7,hR,hk,b9,k⟩:=h;subst e
  refine⟨_,ah (pz 2 iB.nd (pq C1 p (bO (pv 0) af)))
   (ah (pz 3 iB.nd (bY Pi UL UK iS (pv 1) (aN ak)))
   (ah (pz 4 iB.nd (pq C1 p (bO (pv 0) (aI bM (by rfl) N.len Tc (aN (pv 3))))))
   (ah (aO (jC (pv 2) af) (ai (ar (bY Pi S_ S1 fH ak (aN (aE cx (dn gq (pv 3) eH (eu (pv 4))) (dn gq (pv 3) (eu (aE bS (pv 4) af)) eH)))))) aD)
   (ah (aO (jC (pv 2) af) (ai (ar (bY Pi S_ S1 fH ak (aN (aE cx (dn gq (pv 3) eH (eu (aE bS (pv 4) af))) (dn gq (pv 3) (eu (pv 4)) eH)))))) aD)
   (ah (aO (jC (pv 2) af) (ai (ar (bY Pi S_ S1 fH ak (aN (aE cx (dn gq (pv 3) (eu (pv 4)) eH) (dn gq (pv 3) eH (eu (pv 4)))))))) aD)
   (ah (aO (jC (pv 2) af) (ah (pz 5 iB.nd (bt (bj ak (bj ak (bj ak (gh ak ak ak))))))
    (ah (pz 6 iB.nd (aE aJ (ny (pv 3) (pv 4)) (ny (pv 5) (pq C1 p (bO (pv 0) af)))))
    (ai (ar (bY Pi S_ S1 fH ak (aN (aE cx (aE cx (dn gq (pv 3) eH (eu (pv 4))) (bt (aN (pv 6)))) (dn gq (pv 3) (eu (aE bS (pv 4) af)) eH)))))))) aD)
   (ah (pz 4 iB.nd (pq C1 p (bO (pv 0) (aI dE (by rfl) N.len Tc (aN (pv 1))))))
   (ah (pz 7 iB.nd (jD qM ak (pq C1 p (bO (pv 0) af)) (λ_ _=>U)))
   (ai (ar (aE aJ (aE aJ (dn ph (pv 1) eH (eu (pv 4))) (ny (bt (gh ak (pv 7) (pv 7))) (aE gv (pv 2) af))) (dn ph (pv 1) (eu (aE bS (pv 4) (ny (bt (gh af af af)) (aE gv (pv 2) af)))) eH)))))))))))),?_⟩
  try rw[cA]
  have hj:=mF (R:=R) aB λr p=>(hk r p).rj
  have b1:So (Sr "\n" R) "\n"=R:=by
   rw[join_eq];exact fN (c:=10) (t:=[]) pG bf a7 λr p=>(hk r p).1
  generalize Sr "\n" R=tx at *;refine aq λu i=>?_;refine⟨_,U,st,d,z,7,U,b6,bp,bp,λv d1 z1 v0 v1=>?_⟩;have a4:(upd H st (.lst [.int d1,.int z1])) st=O (.lst [.int d1,.int z1]):=ag;generalize upd H st (.lst [.int d1,.int z1])=H1 at *;refine i _ _ (aq λu i=>?_);refine⟨_,U,U,_,_,U,U,bf,az aB,λl hl=>?_⟩;rw[b1];generalize y:upd H1 l _=H2
  have s2:aa H1 H2:=by rw[<-y];exact aa.put (aa.refl _) hl
  have h2:H2 l=O (.lst (R.map V.str)):=by rw[<-y];exact ag
  clear y;have a6:=s2 _ _ a4
  have nl:l≠st:=λe=>by rw[e,a4]at hl;cases hl
  refine i _ _ (aq λu i=>?_);have b7:=List.length_pos_iff.mpr a7;refine⟨_,U,_,U,l,_,U,.inl (bu.of h2),st,d1,z1,(R.length:J'),by rw[AC];rfl,a6,aB,aB,λa0 d3 z3 a1 a2=>?_⟩;obtain⟨a,rfl,ha⟩:=iK (z:=a0) (n:=R.length) a1 a2;have B:(upd H2 st (.lst [.int d3,.int z3])) st=O (.lst [.int d3,.int z3]):=ag;have h3:(upd H2 st (.lst [.int d3,.int z3])) l=O (.lst (R.map V.str)):=(ax nl).trans h2;generalize upd H2 st (.lst [.int d3,.int z3])=H3 at *;refine i _ _ ?_;clear i u;have rj:∀r∈R,Rj r:=λr p=>(hk r p).rj;have rt:∀n,∀r∈R.take n,Rj r:=λn r p=>rj r (List.mem_of_mem_take p);have rd:∀n,∀r∈R.drop n,Rj r:=λn r p=>rj r (aax p);have W:∀{S T:L Z},(∀r∈S,Rj r)->(∀r∈T,Rj r)->∀r∈S++T,Rj r:=λh g r p=>(Os.mp p).elim (h r) (g r);have a3:∀(S:L Z)(H':Hp),S.length<=13->(∀r∈S,Rj r)->aa H3 H'->Q (.str (Sr "\n" S)) H':=λS H' g1 g2 M=>k _ d3 z3 H' (zj (mF g1 g2)) (M _ _ B);have nv:∀m,¬decide (V.int v=V.int m)=T'->v≠m:=λm h e=>h (FB (by rw[e]))
  have l1:(R.take a++R.drop (a+1)).length<=13:=by rw[B3,TJ,Ta];lia
  have l2:(R.take (a+1)++R.drop a).length<=13:=by rw[B3,TJ,Ta];lia
  have l3:(R.drop a++R.take a).length<=13:=by rw[B3,TJ,Ta];lia
  have lc:∀{S T:L Z},(S++T).length<=13->S.length+T.length<=1000:=λh=>by rw[B3]at h;lia
  refine aq λu i=>?_;refine⟨_,U,U,_,U,fJ (λ_=>vz (qy (A9 (jT U h3) (jO U)) (Bi (jT U h3) (HW (jO U))) (lc l1)) l1 (W (rt _) (rd _)) λH' M=>a3 _ H' l1 (W (rt _) (rd _)) M) λc0=>?_⟩;refine i _ _ (aq λu i=>?_);refine⟨_,U,U,_,U,fJ (λ_=>vz (qy (A9 (jT U h3) (HW (jO U))) (Bi (jT U h3) (jO U)) (lc l2)) l2 (W (rt _) (rd _)) λH' M=>a3 _ H' l2 (W (rt _) (rd _)) M) λc1=>?_⟩;refine i _ _ (aq λu i=>?_);refine⟨_,U,U,_,U,fJ (λ_=>vz (qy (Bi (jT U h3) (jO U)) (A9 (jT U h3) (jO U)) (lc l3)) l3 (W (rd _) (rt _)) λH' M=>a3 _ H' l3 (W (rd _) (rt _)) M) λc2=>?_⟩;refine i _ _ (aq λu i=>?_);refine⟨_,U,U,_,U,fJ (λ_=>?_) λc3=>?_⟩
  ·clear i;refine aq λN2 I=>?_;refine⟨(by show 6<=sizeLine;decide),λlp a5=>?_⟩
   have np:lp≠st:=λe=>by rw[e,B]at a5;cases a5
   generalize y:upd H3 lp _=X
   have s4:aa H3 X:=by rw[<-y];exact aa.put (aa.refl _) a5
   have h4:X lp=O (.lst [.str " rank=0",.str " grow=0",.str " wide=0..1000000",.str " side=left",.str " gap=0",.str " span=1,1"]):=by rw[<-y];exact ag
   clear y;have C:=s4 _ _ B;have l4:=s4 _ _ h3;refine I _ _ (aq λN2 I=>?_);have er:R[a]? =O R[a]:=B2 ha;have p:=Do er;generalize R[a]=r0 at *;refine⟨_,U,_,U,l,_,_,_,U,U,bu.of l4,aG (by rw[B6,er];rfl),_,U,_,U,st,d3,z3,6,U,C,bp,bp,λv5 D G p0 p1=>?_⟩;have J:(upd X st (.lst [.int D,.int G])) st=O (.lst [.int D,.int G]):=ag;have l5:=(ax (H:=X) (o:= .lst [.int D,.int G]) nl).trans l4;have p5:=(ax (H:=X) (o:= .lst [.int D,.int G]) np).trans h4;generalize upd X st (.lst [.int D,.int G])=H5 at *;obtain⟨x,hx,a8,b8⟩:=plain_at p0 p1;have c4:=(hk r0 p).2;refine⟨lp,_,_,_,U,U,bu.of p5,hx,_,_,U,U,az aB,?_⟩;refine I _ _ ?_;clear I N2
   have m1:∀r∈[r0++x],Rj r:=λr h=>by
    rw[Dk.mp h];refine⟨λq=>?_,by rw[FS];lia⟩;rw[app_list]at q;exact(Os.mp q).elim (hk r0 p).1 a8
   have l6:((R.take a++[r0++x])++R.drop (a+1)).length<=13:=by
    rw[B3,B3,TJ,Ta];show _+1+_<=13
    lia
   have l7:(R.take a++[r0++x]).length<=13:=by rw[B3]at l6;lia
   have r6:=W (W (rt a) m1) (rd (a+1));exact vz (qy (qy (A9 (jT U l5) (jO U)) (Np U) (lc l7)) (Bi (jT U l5) (HW (jO U))) (lc l6)) l6 r6 λH' M=>k _ D G H' (zj (mF l6 r6)) (M _ _ J)
  refine i _ _ ?_;clear i u;have n0:=nv 0 c0;have n1:=nv 1 c1;have n2:=nv 2 c2;have n3:=nv 3 c3;clear rj rt rd W a3 nv l1 l2 l3 lc c0 c1 c2 c3;refine aq λu i=>?_;refine⟨_,U,_,U,_,U,az aB,st,d3,z3,(tx.length:J'),U,B,aB,aB,λb0 d4 z4 b3 b2=>?_⟩;obtain⟨b,rfl,hb⟩:=iK (z:=b0) (n:=tx.length) b3 b2;have C:(upd H3 st (.lst [.int d4,.int z4])) st=O (.lst [.int d4,.int z4]):=ag;generalize upd H3 st (.lst [.int d4,.int z4])=X at *;refine i _ _ (aq λu i=>?_);refine⟨_,U,st,d4,z4,12,U,C,bp,bp,λs0 D G p0 p1=>?_⟩;have J:(upd X st (.lst [.int D,.int G])) st=O (.lst [.int D,.int G]):=ag;generalize upd X st (.lst [.int D,.int G])=H5 at *;obtain⟨c,hc⟩:=JP p0 p1;refine⟨_,_,c,U,U,bf,hc,?_⟩;refine i _ _ ?_;clear i u;obtain⟨⟨x,hx,x1⟩,j,j1,a9⟩:=NY (v:=v-4) (s:=⟨#[c]⟩) aB aB U;have q1:=kX tx Y (O (b:J'));have q2:=kX tx (O ((b+j:M'):J')) Y;have hF:=Lf (a:=b) (b:=b+j) hj x1 aB aB;refine⟨_,U,_,U,_,U,tx,U,az aB,_,U,_,U,(by show 3<=sizeLine;decide),λl6 b5=>?_⟩;generalize y:upd H5 l6 _=H6
  have s6:aa H5 H6:=by rw[<-y];exact aa.put (aa.refl _) b5
  have h6:H6 l6=O (.lst [.str "",.str ⟨#[c]⟩,.str ⟨#[c]⟩]):=by rw[<-y];exact ag
  clear y;refine⟨_,U,_,_,U,U,l6,_,_,_,U,U,bu.of h6,hx,_,_,U,U,az aB,_,U,_,U,(by show 3<=sizeLine;decide),λl7 b4=>?_⟩;generalize y:upd H6 l7 _=H7
  have s7:aa H6 H7:=by rw[<-y];exact aa.put (aa.refl _) b4
  have h7:H7 l7=O (.lst [.int 1,.int 0,.int 1]):=by rw[<-y];exact ag
  clear y;refine⟨_,U,_,_,U,U,l7,_,_,_,U,U,bu.of h7,a9,_,_,U,U,_,U,tx,U,az aB,_,_,U,U,?_,?_⟩
  ·rw[FS,<-Wi];exact az (by have :=hF.1;rw[FS,FS]at this;lia)
  ·rw[<-Wi];exact k _ D G H7 hF (s7 _ _ (s6 _ _ J))
end
instance (x:Z):SL (Vl x):=inferInstanceAs (SL (∀c∈x.cps.toList,_))
instance (x:Z):SL (Vn x):=inferInstanceAs (SL (_/\_/\Vl x))
instance (a b:J'):SL (Vr a b):=inferInstanceAs (SL (_/\_/\_))
instance (o:Own):SL (Vo o):=inferInstanceAs (SL (Vr o.w0 o.w1/\Vr o.h0 o.h1/\(_/\_)/\(_/\_)/\(_/\_)/\_/\_))
instance (p:Z×J'):SL (Va p):=inferInstanceAs (SL ((_\/_\/_\/_)/\_/\_))
instance (s:Z):SL (Vs s):=inferInstanceAs (SL (_\/_))
instance (c:M'):SL (Ld c):=inferInstanceAs (SL (_/\_/\_/\_))
instance (x:Z):SL (Vx x):=inferInstanceAs (SL (∀c∈x.cps.toList,Ld c))
instance (x:Z):SL (Oe x):=inferInstanceAs (SL ((_/\_)/\Vx x))
instance (w:L Z):SL (Ly w):=inferInstanceAs (SL ((_/\_)/\∀x∈w,Oe x))
instance (ws:L (L Z)):SL (LK ws):=inferInstanceAs (SL ((∀w∈ws,Ly w)/\_))
instance (wh:aX) (n:M'):SL (Cw wh n):=match wh with
 | .leaf a b=>inferInstanceAs (SL (n=0/\(0<=a/\a<=1000000)/\0<=b/\b<=1000000))
 | .lined _ g al sd=>inferInstanceAs (SL (n<=20/\(0<=g/\g<=1000)/\(al="start"\/al="end"\/al="mid"\/al="mid2")/\Vs sd))
 | .table c g sd sps=>inferInstanceAs (SL (n<=40/\(1<=c/\c<=12)/\(0<=g/\g<=1000)/\Vs sd/\sps.length=n/\∀p∈sps,(1<=p.1/\p.1<=c)/\1<=p.2/\p.2<=12))
 | .words ws j=>inferInstanceAs (SL (n=0/\LK ws/\0<=j/\j<=999))
 | .flow sds ws j=>inferInstanceAs (SL (n<=12/\sds.length=n/\(∀s∈sds,Vs s)/\LK ws/\0<=j/\j<=999))
 | .over ps=>inferInstanceAs (SL ((1<=n/\n<=12)/\ps.length+1=n/\∀p∈ps,Va p.1/\Va p.2))
instance (kd:Z):SL (DR kd):=inferInstanceAs (SL (_\/_\/_\/_))
noncomputable instance (bd:dV) (n:M') (dep:J') (it:Tq) (bb:L Z):SL (Jv bd n dep it bb):=inferInstanceAs (SL ((Vn bd.nm/\Vo bd.own/\Cw bd.wh n)/\(bd.nm∉bb/\bb.length<60/\dep<=8)/\(0<bd.own.al->it=F'/\DR bd.wh.kd)))
noncomputable def AB:∀(it:Tq)(a:J')(F:Fo)(bb:L Z),SL (iG it a F bb)
 |_,_,.nil,_=> .isTrue trivial
 |it,a,.cons _ d cs as,bb=> @abr _ _ _ (@abr _ _ (AB (it||decide (V.str d.wh.kd=V.str "table")) (a+1) cs (bb++[d.nm])) (AB it a as (bb++(d.nm::bH cs))))
noncomputable instance (p:TB):SL (ou p):=AB _ _ _ _
noncomputable def Nt(x:Z):Tq:=match iU x with
 |none=>T'
 |some p=> !(decide (ou p)&&decide (fU p=x))
def Ga(h:Nt x=T'):¬∃p,iU x=O p/\ou p/\fU p=x:=λ⟨p,c,a,b⟩=>by
 unfold Nt at h;rw[c]at h;have h:(!(decide (ou p)&&decide (fU p=x)))=T':=h;rw[FB a,FB b]at h
 cases h
def Ce(x:Z):Prop:=Nt x=T'/\x.length<=90000/\(So x "\n").length<=40
noncomputable instance (x:Z):SL (Ce x):=inferInstanceAs (SL (_/\_/\_))
structure Sj(a:B4)(J:L V->Prop)(H H':Hp):Prop where
 k:Kp a H H'
 i:∃xs,H a=O (.lst xs)
 j:∃xs,H' a=O (.lst xs)/\J xs
def Ek(K:B0)(a:B4)(J:L V->Prop)(σ:St)(H0:Hp)(te:TE)(R:D->Prop):Prop:=∀(H:Hp)(Q:VK),Sj a J H0 H->(∀v d H',R d->At K H' v d->Sj a J H H'->Q v H')->te σ H Q
def Mp(K:B0)(a:B4)(J:L V->Prop)(σ:St)(H0:Hp)(tl:TA)(n:M')(R:L D->Prop):Prop:=∀(H:Hp)(Q:L V->Hp->Prop),Sj a J H0 H->(∀xs ds H',ds.length=n->R ds->bJ K H' xs ds->Sj a J H H'->Q xs H')->tl σ H Q
def yM(a:B4)(J:L V->Prop)(σ:St)(H0:Hp)(tt:TT)(R:Tq->Prop):Prop:=∀(H:Hp)(Q:Tq->Hp->Prop),Sj a J H0 H->(∀b H',R b->Sj a J H H'->Q b H')->tt σ H Q
abbrev IR(P:J'->Prop):D->Prop:=λd=>∃i,d= .int i/\P i
abbrev SR(P:Z->Prop):D->Prop:=λd=>∃x,d= .str x/\P x
def Js(xs:L V):Prop:=∃d z:J',xs=[.int d,.int z]
class L4 (t:TA) (ys:outParam (L Z)):Prop where
 go:∀(σ:St)(H:Hp)(Q:L V->Hp->Prop),Q (ys.map V.str) H->t σ H Q
instance:L4 dc []:=⟨λ_ _ _ q=>q⟩
instance {t:TA} {ys:L Z} {y:Z} [h:L4 t ys]:L4 (aY (tC (.str y)) t) (y::ys):=⟨λσ H _ q=>h.go σ H _ q⟩
section
variable{K:B0}{b:B4}{H1 H2:Hp}{tm:TE}{tl:TA}{tu:TS}{R:D->Prop}{RL:L D->Prop}{P P':J'->Prop}{n:J'}{v:V}{o:HO}
def Sj.refl(h:∃xs,H a=O (.lst xs)/\J xs):Sj a J H H:=⟨Kp.refl _,h.imp λ_ z=>z.1,h⟩
def Sj.trans(s:Sj a J H H1)(t:Sj a J H1 H2):Sj a J H H2:=⟨s.k.trans t.k,s.i,t.j⟩
def Sj.fresh(s:Sj a J H H1)(h:H1 b=Y):b≠a/\H b=Y:=by
 obtain⟨xs,e,_⟩:=s.j;have n:=SZ (aH e h);exact⟨n,s.k.gone n h⟩
def Sj.put(s:Sj a J H H1)(h:H1 b=Y):Sj a J H (upd H1 b o):=by
 obtain⟨n,g⟩:=s.fresh h;obtain⟨xs,e,j⟩:=s.j;exact⟨Kp.put s.k g,s.i,xs,(ax (SZ n)).trans e,j⟩
theorem Sj.at(s:Sj a J H H1)(h:At K H v d):At K H1 v d:=by
 obtain⟨xs,e⟩:=s.i;obtain⟨ys,f,_⟩:=s.j;exact h.we s.k e f
def Sj.Lr(s:Sj a J H H1)(h:bJ K H xs ds):bJ K H1 xs ds:=⟨h.1,λj x d b c=>s.at (h.2 j x d b c)⟩
def Sj.step{x y:J'}(s:Sj st Js H H1):Sj st Js H (upd H1 st (.lst [.int x,.int y])):=⟨s.k.trans Kp.store,s.i,_,ag,_,_,U⟩
theorem Ek.mono{S:D->Prop}(h:Ek K a J σ H0 te R)(f:∀d,R d->S d):Ek K a J σ H0 te S:=λH Q s q=>h H Q s λv d H' r=>q v d H' (f d r)
def Ek.ret(h:Ek K a J σ H te R)(i:∃xs,H a=O (.lst xs)/\J xs)(k:∀v d H',R d->At K H' v d->Sj a J H H'->D0.rt v H'):sf te D0 σ H:=h H _ (.refl i) k
def Ek.set(h:Ek K a J σ H te R)(i:∃xs,H a=O (.lst xs)/\J xs)(k:∀v d H',R d->At K H' v d->Sj a J H H'->D0.nx (σ.set m (O v)) H'):lO te (eY m) D0 σ H:=h H _ (.refl i) k
def PH(h:∀(H:Hp)(Q:VK),Q (.int n) H->te σ H Q):Ek K a J σ H0 te (IR (·=n)):=λH Q s q=>h H _ (q _ _ H ⟨n,U,U⟩ (.int n) (.refl s.j))
def fZ:Ek K a J σ H0 (tC (.int n)) (IR (·=n)):=PH λ_ _ q=>q
def qR:Ek K a J σ H0 (ix (rI Ng λi j=> .int (i^j.toNat)) (tC (.int 10)) (tC (.int 6))) (IR (·=1000000)):=PH λH Q q=>⟨_,_,U,U,⟨bp,bp,bp⟩,by show Q (.int ((10:J')^Int.toNat 6)) H;rw[QW];exact q⟩
def ba(h:σ[i]? =O (O v))(b:At K H0 v d):Ek K a J σ H0 (eA i) (·=d):=λH Q s q=>⟨_,h,q _ _ H U (s.at b) (.refl s.j)⟩
def bF:Mp K a J σ H0 dc 0 (·=[]):=λH Q s q=>q _ _ H U U bJ.nil (.refl s.j)
def au(h:Ek K a J σ H0 te R)(g:Mp K a J σ H0 tl i RL):Mp K a J σ H0 (aY te tl) (i+1) (λds=>∃d b,ds=d::b/\R d/\RL b):=λH Q s q=>h H _ s λv d H1 r f e=>g H1 _ (s.trans e) λxs b H2 k j l c=>q _ _ H2 (Tb (· +1) k) ⟨d,b,U,r,j⟩ (bJ.cons (c.at f) l) (e.trans c)
theorem de(h:Mp K a J σ H0 tl i RL)(g:i<=100:=by decide):Ek K a J σ H0 (Jq tl) (λd=>∃ds,d= .tup ds/\RL ds):=λH Q s q=>h H _ s λxs ds H1 f r e c=>⟨az (by rw[e.1,f];lia),λp b=>q _ _ _ ⟨ds,U,r⟩ (bJ.tup ((Sj.put (.refl c.j) b).Lr e) ag) (c.put b)⟩
def gA(h:Ek K a J σ H0 ta (IR P))(k:Ek K a J σ H0 tb (IR P')):Ek K a J σ H0 (ix (wc λi j=> .int (g i j)) ta tb) (IR λn=>∃i j,P i/\P' j/\n=g i j):=λH Q s q=>h H _ s λv d H1 r c b=>by
 obtain⟨i,rfl,m⟩:=r
 cases c
 exact k H1 _ (s.trans b) λu e H2 l o f=>by
  obtain⟨j,rfl,p⟩:=l
  cases o
  exact⟨i,j,U,U,q _ _ H2 ⟨_,U,i,j,m,p,U⟩ (.int _) (b.trans f)⟩
def GK{C:J'->J'->Prop}(h:Ek K a J σ H0 ta (IR P))(k:Ek K a J σ H0 tb (IR P'))(p:∀i j,P i->P' j->C i j):Ek K a J σ H0 (ix (rI C λi j=> .int (g i j)) ta tb) (IR λn=>∃i j,P i/\P' j/\n=g i j):=λH Q s q=>h H _ s λv d H1 r l c=>by
 obtain⟨i,rfl,b⟩:=r
 cases l
 exact k H1 _ (s.trans c) λu e H2 o t m=>by
  obtain⟨j,rfl,f⟩:=o
  cases t
  exact⟨i,j,U,U,p i j b f,q _ _ H2 ⟨_,U,i,j,b,f,U⟩ (.int _) (c.trans m)⟩
def kK(k:σ[i]? =O (O (.ref st)))(h:Ek K st Js σ H0 tm (IR P))(b:∀m,P m->0<m/\m<1073741824):Ek K st Js σ H0 (eS B10P.fo [] E (aY (eA i) (aY tm dc))) (IR λv=>∃m,P m/\0<=v/\v<m):=λH Q s q=>⟨_,k,h H _ s λv d H1 r g c=>by
 obtain⟨m,rfl,a⟩:=r
 cases g
 obtain⟨xs,e,x,y,rfl⟩:=c.j
 exact⟨st,x,y,m,U,e,(b m a).1,(b m a).2,λw l n f w1=>q _ _ _ ⟨w,U,m,a,f,w1⟩ (.int w) c.step⟩⟩
def gb(a:σ[i]? =O (O (.ref st)))(b:0<n/\n<1073741824:=by decide):Ek K st Js σ H0 (eS B10P.fo [] E (aY (eA i) (aY (tC (.int n)) dc))) (IR λv=>0<=v/\v<n):=(kK a fZ (by rintro _ rfl;exact b)).mono λd ⟨v,e,m,c,h⟩=>⟨v,e,c▸h⟩
theorem mC(h:Mp K a J σ H0 tl i RL)(k:Ek K a J σ H0 ti (IR λj=>0<=j/\j<(i:J')))(A:i<=100:=by decide):Ek K a J σ H0 (ix (vj K) (sN tl) ti) (λd=>∃ds,RL ds/\d∈ds):=λH Q s q=>h H _ s λxs ds H1 t r l f=>⟨az (by rw[l.1,t];lia),λp b=>k _ _ (s.trans (f.put b)) λv e H2 x u g=>by
 obtain⟨_,rfl,z,y⟩:=x
 cases u
 obtain⟨m,rfl,c⟩:=iK z y;rw[<-t]at c
 have n:m<xs.length:=by rw[l.1];exact c
 have o:xs[m]? =O xs[m]:=B2 n;have w:ds[m]? =O ds[m]:=B2 c
 exact⟨p,xs,m,_,U,U,bu.of (g.k _ _ (f.fresh b).1 ag),aG o,q _ _ H2 ⟨ds,r,TQ c⟩ (g.at ((Sj.put (.refl f.j) b).at (l.2 m _ _ o w))) ((f.put b).trans g)⟩⟩
theorem Lh[h:L4 tl ys](f:∀y∈ys,y.length<=100):Mp K a J σ H0 tl ys.length (·=ys.map D.str):=λH Q s q=>h.go _ _ _ (q _ _ H (AC _) U ⟨by rw[AC,AC],λj x d e b=>by
 rw[B6]at e b;obtain⟨y,c,rfl⟩:=Sn.mp e;rw[c]at b
 cases b
 exact .str _ (az (by have :=f y (Do c);lia))⟩ (.refl s.j))
def oi[h:L4 tl ys](b:σ[i]? =O (O (.ref st)))(a:(0<n/\n<1073741824)/\(ys.length:J')=n/\ys.length<=100:=by decide)(g:∀y∈ys,y.length<=100:=by decide +kernel):Ek K st Js σ H0 (ix (vj K) (sN tl) (eS B10P.fo [] E (aY (eA i) (aY (tC (.int n)) dc)))) (SR (·∈ys)):=(mC (Lh g) (by rw[a.2.1];exact gb b a.1) a.2.2).mono λd ⟨_,e,f⟩=>by
 subst e;obtain⟨y,c,rfl⟩:=Su.mp f;exact⟨y,U,c⟩
def yM.QK{R:Tq->Prop}(h:yM a J σ H tt R)(i:∃xs,H a=O (.lst xs)/\J xs)(y:∀H',Sj a J H H'->R T'->ts D0 σ H')(n:∀H',Sj a J H H'->R F'->tu D0 σ H'):xx tt ts tu D0 σ H:=h H _ (.refl i) λb H' r s=>by
 cases b with
 |true=>exact dJ (y H' s r)
 |false=>exact bW (n H' s r)
def Gp(h:Ek K a J σ H0 ta (IR P)):yM a J σ H0 (kh (ix Qn ta (tC (.int n)))) (λ_=>WJ):=λH Q s q=>h H _ s λv d H' r c b=>by
 obtain⟨i,rfl,e⟩:=r
 cases c
 exact⟨U,_,U,q _ H' trivial b⟩
theorem uK(I:m<=100)(i:∃xs,H st=O (.lst xs)/\Js xs)(o:∀(j:M')(H':Hp),Sj st Js H H'->Ek K st Js (O (.int (0+(j:J')))::σ) H' te R)(F:∀l xs ds H',l≠st->H' l=O (.lst xs)->bJ K H' xs ds->ds.length=m->(∀d∈ds,R d)->Sj st Js H H'->Q (.ref l) H'):fQ (IF 0 m) H σ gn te Q:=by
 refine wo (λD j l H'=>D≠st/\H D=Y/\Sj st Js H H'/\H' D=O (.lst l)/\∃ds,bJ K H' l ds/\ds.length=j/\∀d∈ds,R d) (small aB) (λD a=>?_) (λD j l H' ⟨_,_,_,_,ds,f,b,_⟩=>by rw[f.1,b];exact B9 _) (λD j l H' B J ⟨c,a,s,b,ds,f,p,q⟩ E=>?_) (λD l H' ⟨c,a,s,b,ds,f,p,q⟩=>F D l ds H' c b f p q s)
 ·exact⟨((Sj.refl i).fresh a).1,a,(Sj.refl i).put a,ag,[],bJ.nil,U,λd h=>nomatch h⟩
 ·refine o j H' s H' B (.refl s.j) λv d H2 r C g=>E v H2 (g.k _ _ c b) ?_;have u:Kp D H2 (upd H2 D (.lst (l++[v]))):=Kp.store;have t:=g.k _ _ c b
  have A:Sj st Js H (upd H2 D (.lst (l++[v]))):=by
   obtain⟨xs,e,G⟩:=g.j;exact⟨Kp.put (s.trans g).k a,s.i,xs,(ax (SZ c)).trans e,G⟩
  have n:=g.Lr f;exact⟨c,a,A,ag,ds++[d],bJ.snoc ⟨n.1,λj x e y w=>(n.2 j x e y w).we u t ag⟩ (C.we u t ag),by rw[B3,p];rfl,λe o=>(Os.mp o).elim (q e) λz=>by rw[Dk.mp z];exact r⟩
end
theorem pK{α:Type}{f:α->D}{T:α->Prop}:∀{ds:L D},(∀d∈ds,∃x,d=f x/\T x)->∃xs:L α,ds=xs.map f/\∀x∈xs,T x
 |[],_=>⟨[],U,λx h=>nomatch h⟩
 |d::ds,h=>by
  obtain⟨x,rfl,g⟩:=h d De;obtain⟨xs,rfl,a⟩:=pK λe b=>h e (Fk _ b);exact⟨x::xs,U,λy c=>(PP.mp c).elim (λe=>e▸g) (a y)⟩
inductive Cf(K:B0)(vs:L V)(H:Hp)(Q:VK):Prop
 |mk (st:B4) (c0:vs=[.ref st]) (c1:(∃xs,H st=O (.lst xs)/\Js xs)) (c2:∀(v:V)(a b:J')(H':Hp),Vr a b->At K H' v (.tup [.int a,.int b])->Sj st Js H H'->Q v H')
def lU(K:B0):Sp:=λa H Q _=>Cf K a H Q
inductive Ak(K:B0)(vs:L V)(H:Hp)(Q:VK):Prop
 |mk (st:B4) (c0:vs=[.ref st]) (c1:(∃xs,H st=O (.lst xs)/\Js xs)) (c2:∀(v:V)(p:Z×J')(H':Hp),Va p->At K H' v (.tup [.str p.1,.int p.2])->Sj st Js H H'->Q v H')
def oy(K:B0):Sp:=λa H Q _=>Ak K a H Q
section
variable{K:B0}
abbrev KD:L Z:=["_law_stream_here","_law_least"]
def wR:ay KD Zf (aj oh):=dH
theorem CS(F:c_ K "_law_range" "_law_range" oh f fd)(N:aQ mg)(g:Cl P w K mg B' 1 B10P.fo "_law_take"):aS P w K mg B' dz 2 f fd Zf (lU K):=by
 refine F.fb wR λG A C s H I Q E l h=>?_
 ·obtain⟨st,e,t,k⟩:=h;subst e
  refine⟨_,ah (aO (jC (pq g l (bO (pv 0) af)) af) (ai (ar (aR (bO af (aE lI af af))))) aD)
   (ah (pz 1 wR.nd (pq g l (bO (pv 0) (ny (bt (gh af af (aE bS (aE lI af af) af))) (pq g l (bO (pv 0) af))))))
   (ai (ar (aR (bO (pv 1) (aE bS (pv 1) (pq g l (bO (pv 0) (aE gv (aE bS (aE lI af af) af) (pv 1)))))))))),?_⟩
  try rw[cA]
  refine aq λn b=>?_;refine(Gp (gb (K:=K) U)).QK t (λB a _=>?_) λB a _=>?_
  ·refine(de (K:=K) (au fZ (au qR bF))).ret a.j λv d o r c i=>?_;obtain⟨_,rfl,_,_,rfl,⟨_,rfl,rfl⟩,_,_,rfl,⟨_,rfl,rfl⟩,rfl⟩:=r;exact k v _ _ o ⟨bp,bp,bp⟩ c (a.trans i)
  refine b _ _ (aq λn b=>?_);refine(kK (K:=K) (P:=λm=>0<m/\m<=1000001) U ((mC (au fZ (au fZ (au (gA qR fZ) bF))) (gb U)).mono ?_) ?_).set a.j λv d o r c i=>?_
  ·rintro d ⟨_,⟨_,_,rfl,⟨_,rfl,rfl⟩,_,_,rfl,⟨_,rfl,rfl⟩,_,_,rfl,⟨_,rfl,_,_,rfl,rfl,rfl⟩,rfl⟩,q⟩;simp only[PP,SO,or_false]at q
   rcases q with rfl|rfl|rfl
   ·exact⟨_,U,bp,bp⟩
   ·exact⟨_,U,bp,bp⟩
   ·exact⟨_,U,bp,bp⟩
  ·exactλm p=>⟨p.1,by have :=p.2;lia⟩
  refine b _ _ ?_;clear b n;obtain⟨x,rfl,m,⟨_,D⟩,x0,M⟩:=r
  cases c
  refine(de (K:=K) (au (ba (d:= .int x) U (.int x)) (au (gA (P:=(·=x)) ((ba (d:= .int x) U (.int x)).mono λ_ e=>⟨x,e,U⟩) (kK (P:=(·=1000001-x)) U ((gA (gA qR fZ) (P':=(·=x)) ((ba (d:= .int x) U (.int x)).mono λ_ e=>⟨x,e,U⟩)).mono ?_) ?_)) bF))).ret i.j λv d z r c u=>?_
  ·rintro _ ⟨_,rfl,_,_,⟨_,_,rfl,rfl,rfl⟩,rfl,rfl⟩;exact⟨_,U,U⟩
  ·rintro _ rfl;exact⟨aB,aB⟩
  ·obtain⟨_,rfl,_,_,rfl,rfl,_,_,rfl,⟨_,rfl,_,y,rfl,⟨_,rfl,R,J⟩,rfl⟩,rfl⟩:=r;exact k v _ _ z ⟨x0,aB,aB⟩ c (a.trans (i.trans u))
abbrev Hu:L Z:=["_law_stream_here","_law_by"]
def nQ:ay Hu Zf (aj lQ):=dH
theorem zc(F:c_ K "_law_anchor" "_law_anchor" lQ f fd)(N:aQ mg)(o:Cl P w K mg B' 1 B10P.fo "_law_take"):aS P w K mg B' dz 2 f fd Zf (oy K):=by
 refine F.fb nQ λJ A I s H M Q E p h=>?_
 ·obtain⟨st,e,G,k⟩:=h;subst e
  refine⟨_,ah (pz 1 nQ.nd (aE gv (pq o p (bO (pv 0) af)) af))
   (ah (aO (jC (pq o p (bO (pv 0) af)) af) (ai (pz 1 nQ.nd (aE gv (pq o p (bO (pv 0) (aE bS (aE qK af (aE lI af af)) af))) (aE lI af af)))) aD)
   (ai (ar (aR (bO (ny (bt (bj ak (gh ak ak ak))) (pq o p (bO (pv 0) af))) (pv 1)))))),?_⟩
  try rw[cA]
  refine aq λn c=>?_;refine(gA (gb (K:=K) U) fZ).set G λv d S r l t=>?_;refine c _ _ ?_;clear c n;obtain⟨x,rfl,_,_,⟨x0,R⟩,rfl,rfl⟩:=r
  cases l
  refine aq λn c=>?_
  have m:∀(y:J')(b:Hp),-1000000<=y->y<=1000000->Sj st Js H b->n [O (.ref st),O (.int y)] b:=λy b D z a=>c _ _ (by
   clear c n;refine(de (K:=K) (au (oi U) (au (ba (d:= .int y) U (.int y)) bF))).ret a.j λv d u r l q=>?_;obtain⟨_,rfl,_,_,rfl,⟨x,rfl,B⟩,_,_,rfl,rfl,rfl⟩:=r;simp only[PP,SO,or_false]at B
   exact k v (x,y) u ⟨B,D,z⟩ l (a.trans q))
  clear c;refine(Gp (gb (K:=K) U)).QK t.j (λb a _=>?_) λb a _=>m _ b aB aB (t.trans a);refine(gA (kK (K:=K) (P:=(·=2000001)) U ((gA (GK (C:=Fl) (g:=λi j=>i*j) fZ qR ?_) fZ).mono ?_) ?_) qR).set a.j λv d u r l q=>?_
  ·rintro _ _ rfl rfl;exact .inl ⟨bp,bp⟩
  ·rintro _ ⟨_,rfl,_,_,⟨_,_,rfl,rfl,rfl⟩,rfl,rfl⟩;exact⟨_,U,U⟩
  ·rintro _ rfl;decide
  ·obtain⟨y,rfl,_,_,⟨_,rfl,D,z⟩,rfl,rfl⟩:=r
   cases l
   exact m _ u aB aB (t.trans (a.trans q))
end
inductive MV(vs:L V)(H:Hp)(Q:VK):Prop
 |mk (n:M') (c0:vs=[.int (n:J')]) (c1:n<=100000) (c2:∀x,Ce x->∀H',aa H H'->Q (.str x) H')
def LC:Sp:=λa H Q _=>MV a H Q
def QF(xs:L Z)(k:M'):Prop:=0<xs.length/\xs.length<=k/\∀x∈xs,Ce x
theorem Nj{xs:L Z}{tl:TA}{D:Ends}{k:M'}(i:aa H0 H)(e:H l=O (.lst (xs.map V.str)))(o:QF xs k)[h:L4 tl ys](g:∀y∈ys,Ce y)(s:ys.length<=10)(n:k<=900)(q:∀a c H',aa H0 H'->H' a=O (.lst (c.map V.str))->QF c (k+10)->D.nx [x0,O (.ref a)] H'):lO (ix Nd (eA 1) (sN tl)) (eY 1) D [x0,O (.ref l)] H:=by
 have r:=o.2.1;refine⟨_,U,h.go _ _ _ ⟨az (by rw[AC];lia),λb j=>?_⟩⟩;have d:aa H (upd H b (.lst (ys.map V.str))):=aa.put (aa.refl _) j;refine⟨l,b,_,_,U,U,d _ _ e,ag,az (by rw[AC,AC];lia),λp f=>?_⟩;rw[<-KM];exact q p _ _ (aa.trans i (aa.trans d (aa.put (aa.refl _) f))) ag ⟨by rw[B3];have :=o.1;lia,by rw[B3];lia,λx m=>(Os.mp m).elim (o.2.2 x) (g x)⟩
theorem MW{tl:TA}{D:Ends}{d:O' V}[f:L4 tl ys](h:∀y∈ys,Ce y)(e:0<ys.length)(g:ys.length<=10)(q:∀c a H',aa H H'->H' c=O (.lst (a.map V.str))->QF a 10->D.nx [x0,O (.ref c)] H'):lO (sN tl) (eY 1) D [x0,d] H:=f.go _ _ _ ⟨az (by rw[AC];lia),λb i=>q b ys _ (aa.put (aa.refl _) i) ag ⟨e,g,h⟩⟩
theorem Jb{K:B0}{k:M'}{a:L Z}(h:H l=O (.lst (a.map V.str)))(o:QF a k)(d:k<=1000)(q:∀x,Ce x->Q (.str x) H):sf (ix (vj K) (eA 1) (ix (rI (λx j=>0<j) λi j=>V.int (i%j)) (eA 0) (wN (λxs H Q=>∃p ys,xs=[V.ref p]/\(bu K H p ys\/bq K H p ys)/\Q (V.int ↑ys.length) H) (aY (eA 1) dc)))) {nx:=λx H'=>Q V.non H',rt:=Q} [O (.int (n:J')),O (.ref l)] H:=by
 have b:=o.1;have c:=Nat.mod_lt n b
 have e:oE (a.map V.str) ((n:J')%(((a.map V.str).length:M'):J'))=O (V.str a[n%a.length]):=by
  rw[AC,<-Int.natCast_emod];exact aG (by rw[B6,B2 c];rfl)
 exact⟨_,U,_,U,_,U,l,_,U,.inl (bu.of h),_,_,U,U,by rw[AC];lia,l,_,_,_,U,U,bu.of h,e,q _ (o.2.2 _ (TQ _))⟩
section
variable{K:B0}
abbrev Pu:L Z:=["_law_at","_law_some"]
def dF:ay Pu ["_law_at"] (aj vr):=dH
def IJ(F:c_ K "_law_odd" "_law_odd" vr f fd)(N:aQ mg):aS P w K mg B' dz 1 f fd ["_law_at"] LC:=by
 refine F.Se dF (λj H Q E h=>?_) (λt A m s H j Q E r h=>?_)
 ·obtain⟨n,e,_⟩:=h;rw[e];rfl
 ·obtain⟨n,e,p,q⟩:=h;subst e
  refine⟨_,bN (cY (i:=1) dF.nd U (Te U) (cV (aA aF (aA aF (aA aF (aA aF (aA aF (aA aF (aA aF (aA aF (aA aF (aA aF cS))))))))))))
   (bN (cY (i:=1) dF.nd U (Te U) (dW cx (r_ 1) (cV (aA aF (aA aF (aA aF (aA aF (aA aF cS))))))))
   (bN (cY (i:=1) dF.nd U (Te U) (dW cx (r_ 1) (cV (aA aF (aA aF (aA aF (aA aF cS)))))))
   (bN (cY (i:=1) dF.nd U (Te U) (dW cx (r_ 1) (cV (aA aF (aA aF (aA aF cS))))))
   (bN (cY (i:=1) dF.nd U (Te U) (dW cx (r_ 1) (cV (aA aF (aA aF (aA aF (aA aF cS)))))))
   (bN (cY (i:=1) dF.nd U (Te U) (dW cx (r_ 1) (cV (aA aF (aA aF (aA aF (aA aF cS)))))))
   (bN (cY (i:=1) dF.nd U (Te U) (dW cx (r_ 1) (cV (aA aF (aA aF (aA aF (aA aF cS)))))))
   (bN (cY (i:=1) dF.nd U (Te U) (dW cx (r_ 1) (cV (aA aF (aA aF (aA aF (aA aF cS)))))))
   (bN (cY (i:=1) dF.nd U (Te U) (dW cx (r_ 1) (cV (aA aF (aA aF (aA aF (aA aF cS)))))))
   (bN (cY (i:=1) dF.nd U (Te U) (dW cx (r_ 1) (cV (aA aF (aA aF (aA aF (aA aF cS)))))))
   (bN (cY (i:=1) dF.nd U (Te U) (dW cx (r_ 1) (cV (aA aF (aA aF (aA aF cS))))))
   (bN (cY (i:=1) dF.nd U (Te U) (dW cx (r_ 1) (cV (aA aF (aA aF cS)))))
   (bN (cY (i:=1) dF.nd U (Te U) (dW cx (r_ 1) (cV (aA aF (aA aF (aA aF cS))))))
   (bN (cY (i:=1) dF.nd U (Te U) (dW cx (r_ 1) (cV (aA aF (aA aF (aA aF (aA aF cS)))))))
   (bN (cY (i:=1) dF.nd U (Te U) (dW cx (r_ 1) (cV (aA aF (aA aF (aA aF cS))))))
   (bN (cY (i:=1) dF.nd U (Te U) (dW cx (r_ 1) (cV (aA aF (aA aF cS)))))
   (bN (cY (i:=1) dF.nd U (Te U) (dW cx (r_ 1) (cV (aA aF (aA aF cS)))))
   (bN (cY (i:=1) dF.nd U (Te U) (dW cx (r_ 1) (cV (aA aF (aA aF cS)))))
   (bN (cY (i:=1) dF.nd U (Te U) (dW cx (r_ 1) (cV (aA aF (aA aF (aA aF cS))))))
   (bN (cY (i:=1) dF.nd U (Te U) (dW cx (r_ 1) (cV (aA aF (aA aF cS)))))
   (Fq (JL (My vT (r_ 1) (dW jB (r_ 0) (Et bM (by rfl) N.len Tc (aA (r_ 1) cS))) (λ_ _=>U))))))))))))))))))))))),?_⟩
  try rw[cA]
  refine aq λb a=>?_;refine MW bf bp bp λl g G d c o=>a _ _ ?_;clear a b
  iterate 19
   refine aq λb a=>?_;refine Nj d c o bf bp bp λl g G d c o=>a _ _ ?_;clear a b
  exact Jb c o bp λx k=>q x k _ d
end
noncomputable abbrev QP:L Z:=["leaf","row","column","wrap","table","words","flow","over"]
inductive Hr(K:B0)(vs:L V)(H:Hp)(Q:VK):Prop
 |mk (st:B4) (kd:Z) (n:M') (c0:vs=[.ref st,.str kd,.int (n:J')]) (c1:(∃xs,H st=O (.lst xs)/\Js xs)) (c2:kd∈QP) (c3:n<=4) (c4:(kd="leaf"\/kd="words"->n=0)) (c5:(kd="over"->1<=n)) (c6:∀(v:V)(wh:aX)(H':Hp),wh.Good/\Fo.fits wh n->wh.kd=kd->Vw wh n->At K H' v (fY wh)->Sj st Js H H'->Q v H')
def vU(K:B0):Sp:=λa H Q _=>Hr K a H Q
section
variable{K:B0}
def Pc:Ek K a J σ H0 (ix (wc λi j=> .int (i+j)) (ix (rI Ng λi j=> .int (i^j.toNat)) (tC (.int 10)) (tC (.int 6))) (tC (.int 1))) (IR (·=1000001)):=(gA qR fZ).mono (by rintro _ ⟨_,rfl,_,_,rfl,rfl,rfl⟩;exact⟨_,U,U⟩)
def xU(b:σ[i]? =O (O (.ref st))):Ek K st Js σ H0 (eS qI [] E (aY (eA i) dc)) (λd=>∃ws,d=eM ws/\gf ws/\MK ws):=λH Q s q=>⟨_,b,by
 obtain⟨xs,e,x,y,rfl⟩:=s.j
 exact⟨st,x,y,U,e,λt ws f h H' k kp a c g v=>q _ _ H' ⟨ws,U,g,v⟩ (qU c g) ⟨kp,⟨_,e⟩,_,a,_,_,U⟩⟩⟩
def BF(b:σ[i]? =O (O (.ref st))):Ek K st Js σ H0 (eS (oy K) [] E (aY (eA i) dc)) (λd=>∃p:Z×J',d= .tup [.str p.1,.int p.2]/\Va p):=λH Q s q=>⟨_,b,st,U,s.j,λv p H' h c a=>q v _ H' ⟨p,U,h⟩ c a⟩
def wa(h:σ[i]? =O (O (.ref l)))(n:l≠a)(c:H0 l=O (.lst xs))(d:bJ K H0 xs ds):Ek K a J σ H0 (wN (λxs H Q=>∃p ys,xs=[.ref p]/\((bu K H p ys/\∀l,H l=Y->Q (.ref l) (upd H l (.tup ys)))\/(bq K H p ys/\Q (.ref p) H))) (aY (eA i) dc)) (·= .tup ds):=λH Q s q=>⟨_,h,l,xs,U,.inl ⟨bu.of (s.k _ _ n c),λt b=>q _ _ _ U (bJ.tup ((Sj.put (.refl s.j) b).Lr (s.Lr d)) ag) ((Sj.refl s.j).put b)⟩⟩
theorem HF(a:σ[i]? =O (O (.ref st))):Ek K st Js σ H0 (ix (vj K) (sN (aY (tC (.int 50)) (aY (tC (.int 0)) (aY (ix (wc λi j=> .int (i+j)) (tC (.int 1)) (eS B10P.fo [] E (aY (eA i) (aY (tC (.int 999)) dc)))) dc)))) (eS B10P.fo [] E (aY (eA i) (aY (tC (.int 3)) dc)))) (IR λj=>0<=j/\j<=999):=(mC (au fZ (au fZ (au (gA fZ (gb a)) bF))) (gb a)).mono (by
 rintro d ⟨_,⟨_,_,rfl,⟨_,rfl,rfl⟩,_,_,rfl,⟨_,rfl,rfl⟩,_,_,rfl,⟨_,rfl,_,j,rfl,⟨c,e⟩,rfl⟩,rfl⟩,b⟩;simp only[PP,SO,or_false]at b
 rcases b with rfl|rfl|rfl
 ·exact⟨_,U,bp,bp⟩
 ·exact⟨_,U,bp,bp⟩
 ·exact⟨_,U,aB,aB⟩)
def QO(h:decide (V.str x=V.str y)=T'):x=y:=by
 have :=Pv h;injection this
def QM(h:¬decide (V.str x=V.str y)=T'):x≠y:=λe=>h (by rw[e];exact FB U)
end
section
variable{K:B0}
noncomputable abbrev vC:L Z:=["_law_stream_here","_law_kind","_law_many","_law_side","_law_columns","_law_spans","_law_joint","_law_sides"]
def kH:ay vC ["_law_stream_here","_law_kind","_law_many"] (aj iW):=dH
theorem Gh(F:c_ K "_law_what" "_law_what" iW f fd)(N:aQ mg)(B:Cl P w K mg B' 1 B10P.fo "_law_take")(C2:Cl P w K mg B' 2 qI "_law_words")(C3:Cl P w K mg B' 2 (oy K) "_law_anchor"):aS P w K mg B' dz 3 f fd ["_law_stream_here","_law_kind","_law_many"] (vU K):=by
 refine F.fb kH λC' A U' s H vs Q E u h=>?_
 ·obtain⟨st,kd,n,e,hi,hk,hn,a3,a6,k⟩:=h;subst e
  refine⟨_,ah (pz 3 kH.nd (ny (bt (bO ak ak)) (pq B u (bO (pv 0) af))))
   (ah (aO (jC (pv 1) ak) (ai (ar (aR (bO (pq B u (bO (pv 0) af)) (pq B u (bO (pv 0) (aE bS (aE lI af af) af))))))) aD)
   (ah (aO (bh (r:=yL K F') dj (pv 1) (aR (gh ak ak ak)) (by rfl)) (ai (ar (aR (gh (pq B u (bO (pv 0) af)) (ny (bt (bj ak (gh ak ak ak))) (pq B u (bO (pv 0) af))) (pv 3))))) aD)
   (ah (aO (jC (pv 1) ak) (ah (zV (i:=4) kH.nd U (Y3 U) (aE bS af (pq B u (bO (pv 0) af))))
    (ah (qg (i:=5) (br (fs:=aj iW) (N:=vC) U U bf) U kH.nd U (Te U) (cW U N.range (aN (pv 2))) (λ_ _ _ _ _=>cv) (λ_ _ _ _ _=>(aR (bO (aE bS af (pq B u (bO (pv 1) (pv 5)))) (aE bS af (pq B u (bO (pv 1) af)))))) U)
    (ai (ar (aR (bj (pv 4) (gh (pq B u (bO (pv 0) af)) (pv 3) (aM bw (by rfl) N.tuple SD (aN (pv 5)))))))))) aD)
   (ah (pz 6 kH.nd (ny (bt (gh af af (aE bS af (pq B u (bO (pv 0) af))))) (pq B u (bO (pv 0) af))))
   (ah (aO (jC (pv 1) ak) (ai (ar (aR (bO (pq C2 u (aN (pv 0))) (pv 6))))) aD)
   (ah (aO (jC (pv 1) ak) (ah (qg (i:=7) (br (fs:=aj iW) (N:=vC) U U bf) U kH.nd U (Te U) (cW U N.range (aN (pv 2))) (λ_ _ _ _ _=>cv) (λ_ _ _ _ _=>(jD (r:=vj K) vT (bt (bO ak ak)) (pq B u (bO (pv 1) af)) (λ_ _=>U))) U)
    (ai (ar (aR (gh (aM bw (by rfl) N.tuple SD (aN (pv 7))) (pq C2 u (aN (pv 0))) (pv 6)))))) aD)
   (ai (ar (aM bw (by rfl) N.tuple SD (aN (dQ (br (fs:=aj iW) (N:=vC) U U bf) U (cW U N.range (aN (aE gv (pv 2) af))) (λ_ _ _ _ _=>cv) (λ_ _ _ _ _=>(aR (bO (pq C3 u (aN (pv 1))) (pq C3 u (aN (pv 1))))))))))))))))),?_⟩
  try rw[cA]
  refine aq λz a=>?_;refine(oi (K:=K) U).set hi λv d H1 r b s1=>?_;refine a _ _ ?_;clear a z;obtain⟨D,rfl,a5⟩:=r
  have a0:∀G:Hp,At K G (.str D) (.str D):=by
   cases b with
   |str _ h=>exactλG=> .str D h
  obtain rfl:=fk b;clear b;have a1:Vs D:=rQ.mp a5;refine aq λz a=>?_;refine⟨_,U,U,_,U,fJ (λc=>?_) λc1=>?_⟩
  ·obtain rfl:=QO c;refine(de (K:=K) (au (gb U) (au (kK U Pc (by rintro _ rfl;decide)) bF))).ret s1.j λv d H2 r b T=>?_;obtain⟨_,rfl,_,_,rfl,⟨x,rfl,x0,x1⟩,_,_,rfl,⟨y,rfl,_,rfl,y0,y1⟩,rfl⟩:=r;have I:Vw (.leaf x y) n:=⟨a3 (.inl U),⟨x0,aB⟩,y0,aB⟩;exact k v (.leaf x y) H2 (cw_good (wh:= .leaf x y) I) U I b (s1.trans T)
  refine a _ _ (aq λz a=>?_);refine⟨_,U,(by show 3<=sizeLine;decide),λt ht=>⟨t,_,U,.inr (bq.of ag),U,U,_,U,?_⟩⟩;have T:Sj st Js H (upd H1 t (.tup [.str "row",.str "column",.str "wrap"])):=s1.put ht;generalize upd H1 t (.tup [.str "row",.str "column",.str "wrap"])=H2 at *;have W:tR (.str kd) [.str "row",.str "column",.str "wrap"]=decide (kd∈(Ze:L Z)):=og kd;refine fJ (λc=>?_) λc2=>?_
  ·have c:=Pv (W.symm.trans c)
   obtain⟨m,rfl⟩:∃m,kd=(aX.lined m 0 "" "").kd:=by
    simp only[PP,SO,or_false]at c
    rcases c with e|e|e
    ·exact⟨0,e⟩
    ·exact⟨1,e⟩
    ·exact⟨2,e⟩
   refine(de (K:=K) (au (gb U) (au (oi U) (au (ba U (a0 _)) bF)))).ret T.j λv d H3 r b M=>?_;obtain⟨_,rfl,_,_,rfl,⟨g,rfl,g0,g1⟩,_,_,rfl,⟨al,rfl,a4⟩,_,_,rfl,rfl,rfl⟩:=r;simp only[PP,SO,or_false]at a4;have I:Vw (.lined m g al D) n:=⟨aB,⟨g0,aB⟩,a4,a1⟩;exact k v (.lined m g al D) H3 (cw_good (wh:= .lined m g al D) I) (GA m g al D) I b (T.trans M)
  refine a _ _ (aq λz a=>?_);refine⟨_,U,U,_,U,fJ (λc=>?_) λc3=>?_⟩
  ·obtain rfl:=QO c;clear a;refine aq λN2 o=>?_;refine(gA fZ (gb (K:=K) U)).set T.j λv d H3 r b M=>?_;refine o _ _ ?_;clear o N2;obtain⟨_,rfl,_,c,rfl,⟨c0,c1⟩,rfl⟩:=r
   cases b
   refine aq λN2 o=>?_;refine⟨_,U,n,U,aB,aB,uK (K:=K) (m:=(n:J').toNat) (R:=λd=>∃p:J'×J',d= .tup [.int p.1,.int p.2]/\(1<=p.1/\p.1<=1+c)/\1<=p.2/\p.2<=12) aB M.j (λj G sG=>?_) λl xs ds H4 nl hl hA C hR J=>?_⟩
   ·refine(de (au (gA fZ (kK (P:=(·=1+c)) U ((ba (d:= .int (1+c)) U (.int _)).mono λ_ e=>⟨_,e,U⟩) (by rintro _ rfl;exact⟨aB,aB⟩))) (au (gA fZ (gb U)) bF))).mono ?_;rintro _ ⟨_,rfl,_,_,rfl,⟨_,rfl,_,x,rfl,⟨_,rfl,x0,x1⟩,rfl⟩,_,_,rfl,⟨_,rfl,_,y,rfl,⟨y0,y1⟩,rfl⟩,rfl⟩;exact⟨(1+x,1+y),U,⟨aB,aB⟩,aB,aB⟩
   refine o _ _ ?_;clear o N2;obtain⟨X,rfl,S⟩:=pK hR;rw[AC]at C;refine(de (K:=K) (au (ba (d:= .int (1+c)) U (.int _)) (au (gb U) (au (ba U (a0 _)) (au (wa U nl hl hA) bF))))).ret J.j λv d H5 r b s5=>?_;obtain⟨_,rfl,_,_,rfl,rfl,_,_,rfl,⟨g,rfl,g0,g1⟩,_,_,rfl,rfl,_,_,rfl,rfl,rfl⟩:=r;have I:Vw (.table (1+c) g D X) n:=⟨aB,⟨aB,aB⟩,⟨g0,aB⟩,a1,aB,S⟩;exact k v (.table (1+c) g D X) H5 (cw_good (wh:= .table (1+c) g D X) I) U I b (T.trans (M.trans (J.trans s5)))
  refine a _ _ (aq λz a=>?_);refine(HF (K:=K) U).set T.j λv d H3 r b M=>?_;refine a _ _ ?_;clear a z;obtain⟨j,rfl,j0,j1⟩:=r
  cases b
  have V:=T.trans M;have gj:cZ j:=B10P.cf j0 aB;refine aq λz a=>?_;refine⟨_,U,U,_,U,fJ (λc=>?_) λc4=>?_⟩
  ·obtain rfl:=QO c;refine(de (K:=K) (au (xU U) (au (ba (d:= .int j) U (.int j)) bF))).ret M.j λv d H4 r b J=>?_;obtain⟨_,rfl,_,_,rfl,⟨ws,rfl,gw,vw⟩,_,_,rfl,rfl,rfl⟩:=r;exact k v (.words ws j) H4 ⟨⟨gw,gj⟩,trivial⟩ U ⟨a3 (.inr U),vw,j0,j1⟩ b (V.trans J)
  refine a _ _ (aq λz a=>?_);refine⟨_,U,U,_,U,fJ (λc=>?_) λc5=>?_⟩
  ·obtain rfl:=QO c;clear a;refine aq λN2 o=>?_;refine⟨_,U,n,U,aB,aB,uK (K:=K) (m:=(n:J').toNat) (R:=SR Vs) aB M.j (λj G sG=>(oi U).mono λ_ ⟨x,e,h⟩=>⟨x,e,rQ.mp h⟩) λl xs ds H4 nl hl hA C hR J=>?_⟩;refine o _ _ ?_;clear o N2;obtain⟨a2,rfl,S⟩:=pK hR;rw[AC]at C;refine(de (K:=K) (au (wa U nl hl hA) (au (xU U) (au (ba (d:= .int j) U (.int j)) bF)))).ret J.j λv d H5 r b s5=>?_;obtain⟨_,rfl,_,_,rfl,rfl,_,_,rfl,⟨ws,rfl,gw,vw⟩,_,_,rfl,rfl,rfl⟩:=r;exact k v (.flow a2 ws j) H5 ⟨⟨S,gw,gj⟩,by show a2.length=n;lia⟩ U ⟨aB,aB,S,vw,j0,j1⟩ b (V.trans (J.trans s5))
  refine a _ _ ?_;clear a z
  have ek:kd="over":=by
   have W:=of_decide_eq_false (W.symm.trans (Vp.mpr c2));simp only[QP,PP,SO,or_false]at hk W
   rcases hk with e|e|e|e|e|e|e|e
   ·exact KB e (QM c1)
   ·exact KB (.inl e) W
   ·exact KB (.inr (.inl e)) W
   ·exact KB (.inr (.inr e)) W
   ·exact KB e (QM c3)
   ·exact KB e (QM c4)
   ·exact KB e (QM c5)
   ·exact e
  subst ek;have h1:=a6 U;refine⟨_,U,_,_,U,U,((n:J')-1),U,aB,aB,uK (K:=K) (m:=((n:J')-1).toNat) (R:=λd=>∃p:(Z×J')×(Z×J'),d=Ae p/\Va p.1/\Va p.2) aB M.j (λj G sG=>?_) λl xs ds H4 nl hl hA C hR J=>?_⟩
  ·refine(de (au (BF U) (au (BF U) bF))).mono ?_;rintro _ ⟨_,rfl,_,_,rfl,⟨p,rfl,hp⟩,_,_,rfl,⟨q,rfl,hq⟩,rfl⟩;exact⟨(p,q),U,hp,hq⟩
  obtain⟨ps,rfl,a7⟩:=pK hR;rw[AC]at C;have I:Vw (.over ps) n:=⟨⟨h1,aB⟩,aB,a7⟩;exact⟨l,xs,U,.inl ⟨bu.of hl,λt ht=>k _ (.over ps) _ (cw_good (wh:= .over ps) I) U I (bJ.tup ((Sj.put (.refl J.j) ht).Lr hA) ag) ((V.trans J).put ht)⟩⟩
end
structure Bs(st ln:B4)(H0:Hp)(ns:L Z)(H:Hp):Prop where
 k:K2 st ln H0 H
 s:∃xs,H st=O (.lst xs)/\Js xs
 n:H ln=O (.lst (ns.map V.str))
def Bs.sj{ln:B4}{a:L Z}(b:Bs st ln H0 a H)(c:st≠ln)(s:Sj st Js H H'):Bs st ln H0 a H':=⟨b.k.trans (K2.kp s.k),s.j,s.k _ _ (SZ c) b.n⟩
def At.k2{K:B0}{ln:B4}{ys c e:L V}(k:K2 st ln H H')(j:H st=O (.lst xs))(m:H ln=O (.lst ys))(l:H' st=O (.lst c))(n:H' ln=O (.lst e)){v:V}(h:At K H v d):At K H' v d:=by
 induction h with
 |non=>exact .non
 |bl b=>exact .bl b
 |int i=>exact .int i
 |str x p=>exact .str x p
 |tup h g _ o=>exact .tup (k _ _ (λz=>by rw[z,j]at h;cases h) (λz=>by rw[z,m]at h;cases h) h) g o
 | @oth a r h=>
  by_cases q:a=st
  ·subst q;exact .oth l
  by_cases f:a=ln
  ·subst f;exact .oth n
  ·exact .oth (k _ _ q f h)
theorem Im(G:Fo):∀F:Fo,fD (F.app G)=fD F++fD G
 | .nil=>rfl
 | .cons a d cs as=>Tb (_::·) (Im G as)
inductive Jf(K:B0)(m:M')(vs:L V)(H:Hp)(Q:VK):Prop
 |mk (st ln:B4) (bb:L Z) (dp:M') (tb:Tq) (c0:vs=[.ref st,.ref ln,.int (dp:J'),.bl tb]) (c1:st≠ln) (c2:(∃xs,H st=O (.lst xs)/\Js xs)) (c3:H ln=O (.lst (bb.map V.str))) (c4:bb≠[]) (c5:bb.length<=20) (c6:(∀x∈bb,Vn x)) (c7:dp<=8) (c8:9<=dp+m) (c9:∀(v:V)(bd:dV)(cs:Fo)(ns:L Z)(H':Hp),Bs st ln H ns H'->ns.length+(cs.cnt+1)=bb.length/\bb=ns++(bd.nm::bH cs).reverse->At K H' v (Of bd (fD cs))->(Fo.cons 0 bd cs .nil).Good->VF tb (Fo.cons 0 bd cs .nil)->cs.fq+dp<=8->Q v H')
def uW(K:B0)(m:M'):Sp:=λa H Q _=>Jf K m a H Q
section
variable{K:B0}
def Fv(e:σ[i]? =O (O (.ref st))):Ek K st Js σ H0 (eS (lU K) [] E (aY (eA i) dc)) (λd=>∃p:J'×J',d= .tup [.int p.1,.int p.2]/\Vr p.1 p.2):=λH Q s q=>⟨_,e,st,U,s.j,λv a b H' h f c=>q v _ H' ⟨(a,b),U,h⟩ f c⟩
def fi(h:Ek K a J σ H0 ta (·= .tup ds))(f:ds[j]? =O d):Ek K a J σ H0 (ix (yj K) ta (tC (.int (j:J')))) (·=d):=λH Q s q=>h H _ s λv e k r i l=>by
 subst r;obtain⟨p,xs,rfl,g,c⟩:=i.tupS
 have m:j<xs.length:=by rw[c.1];exact cQ f
 have b:xs[j]? =O xs[j]:=B2 m;exact⟨p,xs,_,_,U,U,bq.of g,aG b,q _ _ k U (c.2 j _ _ b f) l⟩
end
section
variable{K:B0}
noncomputable abbrev Pe:L Z:=["_law_stream_here","_law_names_here","_law_deep","_law_tabled","_law_name","_law_kind","_law_many","_law_parts","_law_k","_law_alike","_law_shares","_law_rank","_law_own"]
def gs:ay Pe Zs (aj lZ):=dH
theorem IT{h:M'}(d7:mg "min"=Y)(F:c_ K "_law_box" "_law_box" lZ f fd)(N:aQ mg)(W:Cl P w K mg B' 1 B10P.fo "_law_take")(C2:Cl P w K mg B' 2 (lU K) "_law_range")(C3:Cl P w K mg B' 3 (vU K) "_law_what")(C4:Cl P w K mg B' (h+4) (uW K h) "_law_box"):aS P w K mg B' dz (h+5) f fd Zs (uW K (h+1)):=by
 refine F.fb gs λC' A U' s H vs Q E t h=>?_
 ·obtain⟨st,ln,bb,B,tb,e,l,g4,e3,m,h3,e0,h0,h2,k⟩:=h;subst e;have e4:=t
  have f5:(A.deeper (SY "_law_box" (aj lZ) s.heap.objs.size f C')).units<Uy:=by have :=t.units;lia
  refine⟨_,ah (pz 4 gs.nd (ML SH PySem.F.slot_list_pop PySem.F.type_list_pop M3 (pv 1)))
   (ah (pz 5 gs.nd (ny (bt (bj ak (bj ak (bj ak (bj ak (bj ak (gh ak ak ak))))))) (pq W t (bO (pv 0) af))))
   (ah (pz 6 gs.nd (aI (Ed U) (by rfl) d7 PyProof.Rows.boot_min (bO (pq W t (bO (pv 0) af)) (aI bM (by rfl) N.len Tc (aN (pv 1))))))
   (ah (aO (yy (bh oK (pv 2) af (bB _)) (vq (cn (jC (pv 6) af) (bU (jC (pv 5) ak))).pt)).pt (ai (pz 5 gs.nd (ny (bt (bO ak ak)) (pq W t (bO (pv 0) af))))) aD)
   (ah (aO (bh (r:=yL K F') dj (pv 5) (aR (bO ak ak)) (by rfl)) (ai (pz 6 gs.nd af)) aD)
   (ah (pz 7 gs.nd (bt eO))
   (ah (dq SU U (cW U N.range (aN (pv 6))) (aZ (i:=8) gs.nd U (Te U))
    (ai (aO (bh (Nf f5) (pv 1) (bt eO) (bB _)) (ai (cK (bY SH SK SJ cC (pv 7) (aN (pq C4 t (bj (pv 0) (gh (pv 1) (aE bS (pv 2) af) (A8 (pv 3) (cI (dA lT (pv 5) ak (bB _))))))))))) aD)))
   (ah (pz 9 gs.nd af)
   (ah (aO (cn (bh (r:=yL K F') dj (pv 5) (aR (bj ak (gh ak ak ak))) (by rfl)) (bU (fL (b_ (pv 3))))).pt (ai (pz 9 gs.nd (ny (bt (bj af (gh af af (aE bS af (pq W t (bO (pv 0) af)))))) (pq W t (bO (pv 0) af))))) aD)
   (ah (pz 10 gs.nd (ny (bt (gh (aR (bO af af)) (aR (bO af af)) (aR (bO (pq W t (bO (pv 0) af)) (pq W t (bO (pv 0) af)))))) (pq W t (bO (pv 0) af))))
   (ah (pz 11 gs.nd (aE qK (pq W t (bO (pv 0) af)) (pq W t (bO (pv 0) af))))
   (ah (pz 12 gs.nd (aR (bj (pq C2 t (aN (pv 0))) (bj (pq C2 t (aN (pv 0))) (bj (cy (pv 10) af) (gh (cy (pv 10) af) (pv 11) (pv 9)))))))
   (ai (ar (aR (bj (pv 5) (bj (pv 4) (gh (pv 12) (pq C3 t (gh (pv 0) (pv 5) (aI bM (by rfl) N.len Tc (aN (pv 7))))) (aM bw (by rfl) N.tuple SD (aN (pv 7)))))))))))))))))))),?_⟩
  try rw[cA]
  refine aq λb a=>?_
  have c3:(bb.map V.str)[(bb.map V.str).length-1]? =O (.str (bb.getLast m)):=by
   rw[AC,B6,<-List.getLast?_eq_getElem?,List.getLast?_eq_some_getLast m];rfl
  have d1:Vn (bb.getLast m):=e0 _ (List.getLast_mem m);have a2:bb=bb.dropLast++[bb.getLast m]:=(List.dropLast_concat_getLast m).symm
  have g3:bb.dropLast.length+1=bb.length:=by
   rw[aay];have :=List.length_pos_iff.mpr m
   lia
  generalize bb.getLast m=nm at *;refine⟨_,U,.inl ⟨U,_,bu.of e3⟩,ln,_,_,U,U,e3,c3,?_⟩;refine a _ _ ?_;clear a b;have b1:Bs st ln H bb.dropLast (upd H ln (.lst (bb.map V.str).dropLast)):=⟨K2.ln,by obtain⟨xs,e,j⟩:=g4;exact⟨xs,(ax l).trans e,j⟩,by rw[ag,List.map_dropLast]⟩;generalize upd H ln (.lst (bb.map V.str).dropLast)=H1 at *;generalize bb.dropLast=n0 at *;refine aq λb a=>?_;refine(oi (K:=K) U).set b1.s λv d H2 r a3 T=>?_;refine a _ _ ?_;clear a b;obtain⟨b7,rfl,c8⟩:=r;obtain rfl:=fk a3;have S:=b1.sj l T;clear a3 T b1;refine aq λb a=>?_;obtain⟨xs,e2,x,y,rfl⟩:=S.s;refine⟨_,U,st,x,y,5,U,e2,bp,bp,λX x4 y4 h4 h1=>?_⟩;have b3:=S.sj l (Sj.step (x:=x4) (y:=y4) (.refl S.s));generalize upd H2 st (.lst [.int x4,.int y4])=H3 at *;refine⟨_,U,ln,_,U,.inl (bu.of b3.n),_,_,U,?_⟩;refine a _ _ ?_;clear a b;rw[AC]
  have c5:0<=(if(n0.length:J')<X then(n0.length:J')else X)/\(if(n0.length:J')<X then(n0.length:J')else X)<=4/\(if(n0.length:J')<X then(n0.length:J')else X)<=n0.length:=by split<;>lia
  generalize(if(n0.length:J')<X then(n0.length:J')else X)=a4 at *;clear S e2;refine aq λb a=>?_
  have b8:∀(kd:Z)(H4:Hp),kd∈QP->(B=8->kd="leaf"\/kd="words")->(kd="over"->a4≠0)->Bs st ln H n0 H4->b [O (.ref st),O (.ref ln),O (.int (B:J')),O (.bl tb),O (.str nm),O (.str kd),O (.int a4),Y,Y,Y,Y,Y,Y] H4:=λkd H4 c6 e6 d9 b4=>a _ _ (by
   clear a b b3;refine aq λb a=>?_;refine⟨_,U,(by show 2<=sizeLine;decide),λt2 d3=>⟨t2,_,U,.inr (bq.of ag),U,U,_,U,?_⟩⟩;have b5:=b4.sj l (Sj.put (o:= .tup [.str "leaf",.str "words"]) (.refl b4.s) d3);generalize upd H4 t2 (.tup [.str "leaf",.str "words"])=H5 at *
   have d2:∀I:J',0<=I->I<=4->(B=8->I=0)->I<=n0.length->(kd="leaf"\/kd="words"->I=0)->(kd="over"->I≠0)->b [O (.ref st),O (.ref ln),O (.int (B:J')),O (.bl tb),O (.str nm),O (.str kd),O (.int I),Y,Y,Y,Y,Y,Y] H5:=λI g7 g9 f4 a9 d4 d0=>a _ _ (by
    clear a b b4 d3;refine aq λb a=>?_;refine⟨(by show 0<=sizeLine;decide),λM a6=>?_⟩;have np:=((Sj.refl b5.s).fresh a6).1;have mp:M≠ln:=SZ (aH b5.n a6);have d6:H M=Y:=b5.k.gone np mp a6;have b6:=b5.sj l (Sj.put (o:= .lst []) (.refl b5.s) a6);have p6:(upd H5 M (.lst [])) M=O (.lst []):=ag;generalize upd H5 M (.lst [])=H6 at *;refine a _ _ ?_;clear a b;clear b5;refine aq λb a=>?_
    refine⟨_,U,I,U,aB,aB,di (n:=I.toNat) (λi σ G=>∃(u8:O' V)(F:Fo)(ns:L Z)(xs:L V),σ=[O (.ref st),O (.ref ln),O (.int (B:J')),O (.bl tb),O (.str nm),O (.str kd),O (.int I),O (.ref M),u8,Y,Y,Y,Y]/\Bs st ln H ns G/\(G M=O (.lst xs)/\bJ K G xs (fD F))/\(ns.length+(F.cnt+1)=bb.length/\bb=ns++(nm::bH F).reverse)/\(F.Good/\VF (tb||decide (V.str kd=V.str "table")) F)/\F.fq+B<=8/\F.bD.length<=i/\(0<F.bD.length\/n0=ns/\i=0))
     ⟨Y,.nil,n0,[],U,b6,⟨p6,bJ.nil⟩,⟨g3,a2⟩,⟨trivial,trivial⟩,(by show 0+B<=8;lia),B9 _,.inr ⟨U,U⟩⟩ ?_ ?_⟩
    ·rintro i σ G hi ⟨u8,F,ns,xs,rfl,bG,⟨hp,hA⟩,⟨hc,en⟩,⟨gF,vF⟩,hg,ht,c9⟩;refine⟨_,U,(by show 0<=sizeLine;decide),λle f7=>?_⟩;have sE:Sj st Js G (upd G le (.lst [])):=Sj.put (.refl bG.s) f7;have eE:(upd G le (.lst [])) le=O (.lst []):=ag;generalize upd G le (.lst [])=G1 at *;have bE:=bG.sj l sE;have pE:=sE.k _ _ np hp;have hE:=sE.Lr hA;refine⟨ln,le,_,U,U,bu.of bE.n,bu.of eE,_,U,?_⟩
     cases ns with
     |nil=>exact bW ⟨_,F,[],xs,U,bE,⟨pE,hE⟩,⟨hc,en⟩,⟨gF,vF⟩,hg,aB,.inl (c9.resolve_right λ⟨z1,_⟩=>by rw[z1]at a9;have :I<=0:=a9;lia)⟩
     |cons x r=>
      have d8:B+1<=8:=by
       rcases Z3 B 8 with z|z
       ·lia
       ·have :=f4 aB
        lia
      have d5:∀y∈x::r,y∈bb:=λy hy=>by rw[en];exact Ul _ hy
      refine dJ ⟨_,U,.inl ⟨U,_,bu.of pE⟩,_,U,_,U,_,U,_,_,U,U,F8 (c:=decide (V.str kd=V.str "table")) U (λQ' kq=>⟨_,U,U,kq⟩) ?_⟩;refine⟨st,ln,x::r,B+1,_,by rw[Wi];rfl,l,bE.s,bE.n,by simp,aB,λy hy=>e0 y (d5 y hy),d8,aB,λv bd cs a7 G2 S ⟨g6,e7⟩ a3 gd vf hh=>?_⟩;have p2:=S.k _ _ np mp pE
      have g8:xs.length<=4:=by
       rw[hA.1,zM]
       lia
      obtain⟨ys,s1,_⟩:=bE.s;obtain⟨zs,T,js⟩:=S.s;have k3:∀{u:V}{e:D},At K G2 u e->At K (upd G2 M (.lst (xs++[v]))) u e:=λh=>h.we Kp.store p2 ag;refine⟨M,_,_,U,U,p2,small aB,?_⟩;refine⟨_,F.app (.cons 0 bd cs .nil),a7,xs++[v],U,⟨(bE.k.trans S.k).put d6,⟨zs,(ax (SZ np)).trans T,js⟩,(ax (SZ mp)).trans S.n⟩,⟨ag,?_⟩,⟨?_,?_⟩,⟨Fo.mQ.mpr ⟨gF,gd⟩,Fz _ vf _ vF⟩,?_,?_,.inl ?_⟩
      ·rw[Im];exact bJ.snoc ⟨hE.1,λj u e e1 e2=>k3 (At.k2 S.k s1 bE.n T S.n (hE.2 j u e e1 e2))⟩ (k3 a3)
      ·rw[Fo.pF];show a7.length+(F.cnt+(cs.cnt+0+1)+1)=bb.length;rw[Da]at hc g6
       lia
      ·rw[en,e7,qs];show a7++(bd.nm::bH cs).reverse++(nm::bH F).reverse=a7++(nm::(bH F++(bd.nm::(bH cs++[])))).reverse;rw[Ni,<-Uc,aaH,Sx]
      ·rw[Fo.mf];show max F.fq (max (cs.fq+1) 0)+B<=8
       lia
      ·rw[Fo.dm,B3];show F.bD.length+1<=i+1
       lia
      ·rw[Fo.dm,B3];show 0<F.bD.length+1
       lia
    rintro σ G ⟨u8,F,ns,xs,rfl,bG,⟨hp,hA⟩,f1,⟨gF,vF⟩,hg,ht,c9⟩;refine a _ _ ?_;clear a b;have hx:xs.length=F.bD.length:=hA.1.trans (zM F);refine aq λb a=>?_;refine a _ _ (aq λb a=>?_)
    have c4:∀(J:J')(G1:Hp),(0<=J/\J<=9)->(0<J->tb=F'/\DR kd)->Sj st Js G G1->b [O (.ref st),O (.ref ln),O (.int (B:J')),O (.bl tb),O (.str nm),O (.str kd),O (.int I),O (.ref M),u8,O (.int J),Y,Y,Y] G1:=λJ G1 ha g0 s1=>a _ _ (by
     clear a b;refine aq λb a=>?_;refine(mC (K:=K) (au (de (au fZ (au fZ bF))) (au (de (au fZ (au fZ bF))) (au (de (au (gb U) (au (gb U) bF))) bF))) (gb U)).set s1.j λv d G2 r hv T=>?_;refine a _ _ ?_;clear a b
     obtain⟨g1,g2,rfl,f6,e9⟩:∃g1 g2:J',d= .tup [.int g1,.int g2]/\(0<=g1/\g1<=99)/\(0<=g2/\g2<=99):=by
      obtain⟨_,⟨_,_,rfl,⟨_,rfl,_,_,rfl,⟨_,rfl,rfl⟩,_,_,rfl,⟨_,rfl,rfl⟩,rfl⟩,_,_,rfl,⟨_,rfl,_,_,rfl,⟨_,rfl,rfl⟩,_,_,rfl,⟨_,rfl,rfl⟩,rfl⟩,_,_,rfl,⟨_,rfl,_,_,rfl,⟨x,rfl,x0,x1⟩,_,_,rfl,⟨y,rfl,y0,y1⟩,rfl⟩,rfl⟩,hd⟩:=r;simp only[PP,SO,or_false]at hd
      rcases hd with rfl|rfl|rfl
      ·exact⟨_,_,U,bp,bp⟩
      ·exact⟨_,_,U,bp,bp⟩
      ·exact⟨_,_,U,⟨x0,aB⟩,y0,aB⟩
     refine aq λb a=>?_;refine(GK (K:=K) (C:=Fl) (g:=λi j=>i*j) (gb U) (gb U) ?_).set T.j λv3 d G3 r a5 s3=>?_
     ·exactλi j hi hj=> .inl ⟨aB,aB⟩
     refine a _ _ ?_;clear a b
     obtain⟨rk,rfl,f9⟩:IR (λn=>0<=n/\n<=9) d:=by
      obtain⟨_,rfl,r1,r2,⟨a0,a1⟩,⟨b0,b1⟩,rfl⟩:=r
      rcases(show r2=0\/r2=1 by lia)with rfl|rfl
      ·exact⟨_,U,aB,aB⟩
      ·exact⟨_,U,aB,aB⟩
     cases a5
     have a5:=s3.at hv;refine aq λb a=>?_;refine(de (K:=K) (au (Fv U) (au (Fv U) (au (fi (j:=0) (ba U a5) U) (au (fi (j:=1) (ba U a5) U) (au (ba (d:= .int rk) U (.int rk)) (au (ba (d:= .int J) U (.int J)) bF))))))).set s3.j λX d G4 r f8 s4=>?_;refine a _ _ ?_;clear a b;obtain⟨_,rfl,_,_,rfl,⟨p,rfl,e5⟩,_,_,rfl,⟨q,rfl,f0⟩,_,_,rfl,rfl,_,_,rfl,rfl,_,_,rfl,rfl,_,_,rfl,rfl,rfl⟩:=r;have vo:Vo ⟨p.1,p.2,q.1,q.2,g1,g2,rk,J⟩:=⟨e5,f0,f6,e9,f9,ha⟩;have c0:=s1.trans (T.trans (s3.trans s4));have p4:=c0.k _ _ np hp;have f2:=c0.Lr hA;refine(de (K:=K) (au (ba (d:= .str kd) U (.str kd (az (by have :=(by decide +kernel:∀x∈QP,x.length<=100) kd c6;lia)))) (au (ba (d:= .str nm) U (.str nm (az (by have :=d1.2.1;lia)))) (au (ba U f8) (au (R:=λd=>∃wh:aX,d=fY wh/\(wh.Good/\Fo.fits wh F.bD.length)/\wh.kd=kd/\Vw wh F.bD.length) (λG5 Q5 s5 q5=>?_) (au (wa U np p4 f2) bF)))))).ret s4.j λv5 d G5 r f3 s5=>?_
     ·exact⟨_,U,_,U,_,U,M,_,U,.inl (bu.of (s5.k _ _ np p4)),st,kd,F.bD.length,by rw[hx];rfl,s5.j,c6,aB,λz=>(by have :=d4 z;lia),λz=>(by have :=d0 z;lia),λv wh H' g e vw e8 s'=>q5 v _ H' ⟨wh,U,g,e,vw⟩ e8 s'⟩
     obtain⟨_,rfl,_,_,rfl,rfl,_,_,rfl,rfl,_,_,rfl,rfl,_,_,rfl,⟨wh,rfl,⟨gw,fw⟩,rfl,vw⟩,_,_,rfl,rfl,rfl⟩:=r
     exact k v5 ⟨nm,⟨p.1,p.2,q.1,q.2,g1,g2,rk,J⟩,wh⟩ F ns G5 (bG.sj l (c0.trans s5)) f1 f3 ⟨⟨gw,Bt vo,by show nm.length<=60;have :=d1.2.1;lia,fw⟩,gF,trivial⟩ ⟨⟨vo,vw,g0,aB⟩,vF,trivial⟩ hg)
    clear a;refine⟨_,U,(by show 4<=sizeLine;decide),λt4 g5=>⟨t4,_,U,.inr (bq.of ag),U,U,_,U,?_⟩⟩;have s1:Sj st Js G (upd G t4 (.tup [.str "leaf",.str "row",.str "column",.str "wrap"])):=Sj.put (.refl bG.s) g5;generalize upd G t4 (.tup [.str "leaf",.str "row",.str "column",.str "wrap"])=G1 at *;refine fJ (λc1=>?_) λ_=>bW (c4 0 G1 ⟨bp,bp⟩ (λz=>KB z bp) s1);refine⟨_,U,_,U,fJ (λc2=>?_) λ_=>c4 0 G1 ⟨bp,bp⟩ (λz=>KB z bp) s1⟩;refine(mC (K:=K) (au fZ (au fZ (au fZ (au (gA fZ (gb U)) bF)))) (gb U)).set s1.j λv d G2 r hv T=>?_
    obtain⟨J,rfl,ha⟩:IR (λn=>0<=n/\n<=9) d:=by
     obtain⟨_,⟨_,_,rfl,⟨_,rfl,rfl⟩,_,_,rfl,⟨_,rfl,rfl⟩,_,_,rfl,⟨_,rfl,rfl⟩,_,_,rfl,⟨_,rfl,_,x,rfl,⟨x0,x1⟩,rfl⟩,rfl⟩,hd⟩:=r;simp only[PP,SO,or_false]at hd
     rcases hd with rfl|rfl|rfl|rfl
     ·exact⟨_,U,bp⟩
     ·exact⟨_,U,bp⟩
     ·exact⟨_,U,bp⟩
     ·exact⟨_,U,aB,aB⟩
    cases hv
    exact c4 J G2 ha (λ_=>⟨by simpa using c2,Fw c1⟩) (s1.trans T))
   clear a
   show if tR (.str kd) ((["leaf","words"]:L Z).map V.str)=T' then _ else _
   rw[kO]
   have ov:kd∈(["leaf","words"]:L Z)->kd≠"over":=λz e=>by
    rw[e]at z
    revert z
    decide +kernel
   have lw:kd="leaf"\/kd="words"->kd∈(["leaf","words"]:L Z):=λz=>by rcases z with z|z<;>rw[z]<;>simp
   exact fJ (λc=>d2 0 aB aB (λ_=>U) aB (λ_=>U) λz=>KB z (ov (Pv c))) (λc=>d2 a4 c5.1 c5.2.1 (λh8=>KB (FB (lw (e6 h8))) c) c5.2.2 (λz=>KB (FB (lw z)) c) d9))
  clear a
  have a8:lO (ix (vj K) (sN (aY (tC (.str "leaf")) (aY (tC (.str "words")) dc))) (eS B10P.fo [] E0 (aY (eA 0) (aY (tC (.int 2)) dc)))) (eY 5) {nx:=b,rt:=Q} [O (.ref st),O (.ref ln),O (.int (B:J')),O (.bl tb),O (.str nm),O (.str b7),O (.int a4),Y,Y,Y,Y,Y,Y] H3:=(oi (K:=K) U).set b3.s λv d H4 r hv s4=>by
   obtain⟨kd,rfl,hk⟩:=r;obtain rfl:=fk hv
   have b9:kd="leaf"\/kd="words":=by simpa using hk
   exact b8 kd H4 (by rcases b9 with rfl|rfl<;>decide +kernel) (λ_=>b9) (λe=>by exfalso;rcases b9 with z|z<;>rw[z]at e<;>revert e<;>decide +kernel) (b3.sj l s4)
  refine⟨_,U,_,_,U,U,_,U,fJ (λ_=>dJ a8) λc=>?_⟩;have c7:B≠8:=λe=>c (FB (by rw[e];decide));refine⟨_,U,U,_,U,fJ (λ_=>?_) (λq=>bW (b8 b7 H3 c8 (λe=>KB e c7) (λ_ e=>q (FB (by rw[e]))) b3))⟩;exact⟨_,U,U,_,U,fJ (λ_=>a8) (λq=>b8 b7 H3 c8 (λe=>KB e c7) (λe=>KB (FB (by rw[e])) q) b3)⟩
theorem Be(a:mg "min"=Y)(F:c_ K "_law_box" "_law_box" lZ f fd)(N:aQ mg)(g:Cl P w K mg B' 1 B10P.fo "_law_take")(b:Cl P w K mg B' 2 (lU K) "_law_range")(c:Cl P w K mg B' 3 (vU K) "_law_what")(d:Cq K mg fd f Zs "_law_box"):∀h:M',aS P w K mg B' dz (h+4) f fd Zs (uW K h)
 |0=>by
  refine F.ok gs (λj H Q E h=>?_) (λn A k s H j Q E m h=>?_)
  ·obtain⟨st,ln,bb,i,tb,e,_⟩:=h;rw[e];rfl
  ·obtain⟨st,ln,bb,i,tb,e,_,_,_,_,_,_,o,l,_⟩:=h
   lia
 |h+1=>IT a F N g b c (eR (Be a F N g b c d h) d)
end
def Jw(W:L Z)(xs:L V):Prop:=xs=W.map V.str
abbrev SB(x:Z)(m:M'):D->Prop:=λd=>d= .str x/\x.length<=m
theorem OR{α:Type}{f:α->L Z}(h:∀x,(f x).length<=1):∀l:L α,(l.flatMap f).length<=l.length
 |[]=>B9 _
 |x::l=>by
  rw[Tz,B3,Da];have :=h x;have :=OR h l
  lia
section
variable{K:B0}{tl:TA}{W:L Z}{b:Tq}{n2:M'}{m:J'}
theorem jI(h:x.length<=60:=by decide +kernel):Ek K a J σ H0 (tC (.str x)) (SB x 60):=λH Q s q=>q _ _ H ⟨U,h⟩ (.str x (az aB)) (.refl s.j)
def Bg(h:Ek K a J σ H0 ta (·= .str x))(b:x.length<=60):Ek K a J σ H0 ta (SB x 60):=h.mono λ_ e=>⟨e,b⟩
theorem fO(h:Ek K a J σ H0 ta (SB x n))(k:Ek K a J σ H0 tb (SB y n2))(t:n+n2<=100000:=by decide):Ek K a J σ H0 (ix (λx y H Q=>∃i j,x= .str i/\y= .str j/\i.length+j.length<=sizeLine/\Q (.str (i++j)) H) ta tb) (SB (x++y) (n+n2)):=λH Q s q=>h H _ s λv d p r f b=>by
 obtain⟨rfl,z⟩:=r;obtain rfl:=fk f
 exact k p _ (s.trans b) λu e l m o g=>by
  obtain⟨rfl,w⟩:=m;obtain rfl:=fk o;have c:x.length+y.length<=sizeLine:=az aB;exact⟨x,y,U,U,c,q _ _ l ⟨U,by rw[FS];lia⟩ (.str _ (by rw[FS];exact c)) (b.trans g)⟩
theorem mi(h:Ek K a J σ H0 ta (·= .int m))(g:cZ m):Ek K a J σ H0 (wN (λxs H Q=>∃x,xs=[x]/\rN x/\Q (.str (tS x)) H) (aY ta dc)) (SB (nS m) 60):=λH Q s q=>h H _ s λv d c r b e=>by
 subst r;obtain rfl:=fP b;have f:=ir g;exact⟨_,U,g,q _ _ c ⟨U,aB⟩ (.str _ (az (by show(nS m).length<=_;lia))) e⟩
def pW(h:Ek K a J σ H0 ta (·= .int m))(k:Ek K a J σ H0 tb (·= .int m2)):yM a J σ H0 (kh (ix Oc ta tb)) (·= !decide (m=m2)):=λH Q s q=>h H _ s λv d l r c b=>by
 subst r;obtain rfl:=fP c
 exact k l _ (s.trans b) λu e g i j f=>by
  subst i;obtain rfl:=fP j;exact⟨U,_,U,q _ g (by simp) (b.trans f)⟩
def GN(h:Ek K a J σ H0 ta (·= .str x)):yM a J σ H0 (kh (ix Oc ta (tC (.str y)))) (·= !decide (x=y)):=λH Q s q=>h H _ s λv d c r b e=>by
 subst r;obtain rfl:=fk b;exact⟨U,_,U,q _ c (by simp) e⟩
def jF(h:σ[i]? =O (O (.str x))):yM a J σ H0 (kh (ix Qn (eA i) (tC (.str y)))) (·=decide (x=y)):=λH Q s q=>⟨_,h,U,_,U,q _ H (by simp) (.refl s.j)⟩
def gR(h:yM a J σ H0 tt (·=b))(k:b=T'->yM a J σ H0 tu (·=c)):yM a J σ H0 (Mq tt tu) (·=(b&&c)):=λH Q s q=>h H _ s λj f e d=>by
 subst e
 cases j with
 |true=>exact dJ (k U f _ (s.trans d) λg l e i=>q g l e (d.trans i))
 |false=>exact bW (q _ f U d)
theorem oN[t:L4 tl ys](h:σ[i]? =O (O (.str x)))(d:ys.length<=100:=by decide):yM a J σ H0 (kh (ix (yL K F') (eA i) (Jq tl))) (·=decide (x∈ys)):=λH Q s q=>⟨_,h,t.go _ _ _ ⟨az (by rw[AC];lia),λp b=>⟨p,_,U,.inr (bq.of ag),U,by rw[UW];intro z c;obtain⟨y,_,rfl⟩:=Su.mp c;rfl,_,U,q _ _ (kO (x:=x) (xs:=ys)) ((Sj.refl s.j).put b)⟩⟩⟩
def HH{p q:J'×J'}(h:Ek K a J σ H0 ta (·= .tup [.int p.1,.int p.2]))(k:Ek K a J σ H0 tb (·= .tup [.int q.1,.int q.2])):yM a J σ H0 (kh (ix (yk K T') ta tb)) (·= !decide (p=q)):=λH Q s w=>h H _ s λv d m r f c=>by
 subst r
 exact k m _ (s.trans c) λu e i j l b=>by
  subst j;obtain⟨z,rfl,n⟩:=kA (b.at f);obtain⟨y,rfl,g⟩:=kA l;exact BR n g ⟨_,U,w _ i U (c.trans b)⟩
theorem jr(c:σ[i]? =O (O (.ref l)))(m:H l=O (.lst (W.map V.str)))(x:W.length<=1000)(t:yM l (Jw W) σ H tt (·=b))(q:b=T'->Ek K l (Jw W) σ H te (SB s n))(k:∀H',Kp l H H'->H' l=O (.lst ((W++if b=T' then[s]else[]).map V.str))->D0.nx σ H'):xx tt (Ib (Pf K "list" Bm (eA i) (aY te dc))) rz D0 σ H:=t H _ (.refl ⟨_,m,U⟩) λu h e a=>by
 subst e;obtain⟨_,g,rfl⟩:=a.j
 cases u with
 |false=>exact bW (k h a.k (by rw[g];simp))
 |true=>exact dJ ⟨_,c,.inl ⟨U,_,bu.of g⟩,q U h _ a λv d w r o f=>by
   obtain⟨rfl,_⟩:=r;obtain rfl:=fk o;obtain⟨_,p,rfl⟩:=f.j
   exact⟨l,_,_,U,U,p,small (by rw[AC];lia),k _ ((a.k.trans f.k).trans Kp.store) (by rw[ag,KF U,KM];rfl)⟩⟩
theorem Bl{α:Type}{items:L α}{toD:α->D}{f:α->L Z}{g:TG}(P:St->Prop)(hP:P σ)(h:Mp K l (Jw W) σ H tl n (·=items.map toD))(hl:H l=O (.lst (W.map V.str)))(hn:n<=100)(M:∀x,(f x).length<=1)(hW:W.length<=100)(q:∀x∈items,∀(v:V)(b:St)(G:Hp)(i:M')(N bk:St->Hp->Prop),P b->Kp l H G->G l=O (.lst ((W++(items.take i).flatMap f).map V.str))->(W++(items.take i).flatMap f).length<=1000->At K G v (toD x)->(∀c r,P c->Kp l G r->r l=O (.lst ((W++(items.take i).flatMap f++f x).map V.str))->N c r)->g v b G λc w=>ts {D0 with nx:=N,ct:=N,bk:=bk} c w)(k:∀b G,P b->Kp l H G->G l=O (.lst ((W++items.flatMap f).map V.str))->(W++items.flatMap f).length<=W.length+n->D0.nx b G):Oz (Bk K (sN tl)) g ts D0 σ H:=h H _ (.refl ⟨_,hl,U⟩) λxs ds t A e S s=>by
 subst e;rw[AC]at A
 have C:xs.length=items.length:=by rw[S.1,AC]
 obtain⟨_,e1,rfl⟩:=s.j;refine⟨az aB,λp u=>?_⟩;have E:=(s.fresh u).1;have I:Kp l H (upd t p (.lst xs)):=(s.put u).k;have J:(upd t p (.lst xs)) l=O (.lst (W.map V.str)):=(ax (SZ E)).trans e1;have R:(upd t p (.lst xs)) p=O (.lst xs):=ag;have B:=(Sj.put (o:= .lst xs) (.refl s.j) u).Lr S;generalize upd t p (.lst xs)=w at *;refine⟨p,U,⟨_,bu.of R⟩,mV (K:=K) (a:=p) (xs:=xs) (λi b G=>P b/\Kp l w G/\G l=O (.lst ((W++(items.take i).flatMap f).map V.str))) ⟨hP,Kp.refl _,by rw[J];simp⟩ (λi b G _ z=>bu.of (z.2.1 _ _ E R)) (λi v b G Q z=>?_) λb G z=>?_⟩
 ·obtain⟨y,d,m⟩:=z;have hi:=cQ Q;have F:items[i]? =O items[i]:=B2 aB;have av:At K G v (toD items[i]):=(B.2 i v _ Q (by rw[B6,F];rfl)).we d J m;refine q items[i] (TQ _) v b G i _ _ y (I.trans d) m (by have :=OR M (items.take i);rw[TJ]at this;rw[B3];lia) av λc r X k2 T=>⟨X,d.trans k2,?_⟩;rw[T,UA,F,U4];simp
 ·obtain⟨y,d,m⟩:=z;rw[C,UO]at m;exact k b G y (I.trans d) m (by have :=OR M items;rw[B3];lia)
end
def ite_not{c:Prop}[SL c]:(if(!decide c)=T' then[s]else[])=if c then[]else[s]:=by
 by_cases h:c
 ·rw[KF h,FB h];rfl
 ·rw[GM h,GT h];rfl
section
variable{K:B0}
noncomputable abbrev M6:L Z:=["_law_own","_law_words_here","_law_key","_law_pair","_law_number","_law_plain"]
def jA:ay M6 ["_law_own"] (aj hH):=dH
theorem Ff(F:c_ K "_law_own_words" "_law_own_words" hH f fd)(N:aQ mg):aS P w K mg B' dz 1 f fd ["_law_own"] B10P.BK:=by
 refine F.fb jA λC' A U' s H vs Q E hr h=>?_
 ·obtain⟨a,o,e,ho,hg,k⟩:=h;subst e
  have S:(A.deeper (SY "_law_own_words" (aj hH) s.heap.objs.size f C')).units+20<Uy:=by have :=hr.units;lia
  refine⟨_,ah (pz 1 jA.nd (bt eO))
   (ah (dq SU U (ff (bt (bO (aR (bO ak (cy (pv 0) af))) (aR (bO ak (cy (pv 0) af)))))) (kl U (cj (aZ (i:=2) jA.nd U (Te U)) (cj (aZ (i:=3) jA.nd U (Te U)) iF)))
    (ai (aO (bh (h_ S) (pv 3) (aR (bO af (aE lI af af))) (bB _)) (ai (cK (bY SH SK SJ cC (pv 1) (aN (aE aJ (aE aJ (aE aJ (aE aJ (pv 2) ak) (aM bz (by rfl) N.str On (aN (cy (pv 3) af)))) ak) (aM bz (by rfl) N.str On (aN (cy (pv 3) af)))))))) aD)))
   (ah (dq SU U (ff (bt (bj (aR (gh ak (cy (pv 0) af) af)) (gh (aR (gh ak (cy (pv 0) af) af)) (aR (gh ak (cy (pv 0) af) af)) (aR (gh ak (cy (pv 0) af) af)))))) (kl U (cj (aZ (i:=2) jA.nd U (Te U)) (cj (aZ (i:=4) jA.nd U (Te U)) (cj (aZ (i:=5) jA.nd U (Te U)) iF))))
    (ai (aO (HU (pv 4) (pv 5)) (ai (cK (bY SH SK SJ cC (pv 1) (aN (aE aJ (aE aJ (pv 2) ak) (aM bz (by rfl) N.str On (aN (pv 4)))))))) aD)))
   (ai (ar (pv 1))))),?_⟩
  try rw[cA]
  refine aq λJ d=>?_;refine⟨(by show 0<=sizeLine;decide),λl hl=>?_⟩;generalize hG:upd H l _=H1
  have s1:aa H H1:=by rw[<-hG];exact aa.put (aa.refl _) hl
  have h1:H1 l=O (.lst (([]:L Z).map V.str)):=by rw[<-hG];exact ag
  clear hG;refine d _ _ ?_;clear d J;have ao:At K H1 (.ref a) (.tup [.tup [.int o.w0,.int o.w1],.tup [.int o.h0,.int o.h1],.int o.gr,.int o.sh,.int o.rk,.int o.al]):=(F3 ho).same s1;obtain⟨q1,q2,q3,q4,q5,q6,q7,q8⟩:=hg;refine aq λJ d=>?_;refine Bl (K:=K) (n:=2) (items:=[(("wide":Z),o.w0,o.w1),("high",o.h0,o.h1)]) (toD:=λp=> .tup [.str p.1,.tup [.int p.2.1,.int p.2.2]]) (f:=λp=>rW p.1 p.2.1 p.2.2) (λσ=>∃B u C m,σ=[O (.ref a),O (.ref l),B,u,C,m]) ⟨_,_,_,_,U⟩ ?_ h1 bp (λ_=>oX) bp (λp I v g G i N bk b kG lG hi av kN=>?_) λg G b kG lG a0=>?_
  ·refineλH' Q' s q=>(au (de (au jI (au (fi (j:=0) (ba U ao) U) bF))) (au (de (au jI (au (fi (j:=1) (ba U ao) U) bF))) bF)) H' Q' s λxs ds H2 hn r=>q xs ds H2 hn ?_;obtain⟨_,_,rfl,⟨_,rfl,_,_,rfl,⟨rfl,_⟩,_,_,rfl,rfl,rfl⟩,_,_,rfl,⟨_,rfl,_,_,rfl,⟨rfl,_⟩,_,_,rfl,rfl,rfl⟩,rfl⟩:=r;rfl
  ·obtain⟨B,u,C,m,rfl⟩:=b;obtain⟨t,xs,rfl,ht,c⟩:=At.tupS (l:=[.str p.1,.tup [.int p.2.1,.int p.2.2]]) av;obtain⟨x,ys,rfl,M,c⟩:=c.bL;obtain⟨y,zs,rfl,D,c⟩:=c.bL;obtain rfl:=c.iz;obtain rfl:=fk M
   have g2:cZ p.2.1/\cZ p.2.2/\p.1.length<=60:=by
    simp only[PP,SO,or_false]at I
    rcases I with rfl|rfl
    ·exact⟨q1,q2,Ti U⟩
    ·exact⟨q3,q4,Ti U⟩
   refine⟨t,_,U,bq.of ht,U,_,_,U,_,_,U,U,?_⟩;refine jr (K:=K) (W:=[]++([(("wide":Z),o.w0,o.w1),("high",o.h0,o.h1)].take i).flatMap λp=>rW p.1 p.2.1 p.2.2) U lG hi (HH (p:=p.2) (q:=(0,1000000)) (ba U D) ((de (au fZ (au qR bF))).mono ?_)) (λ_=>fO (fO (fO (fO (Bg (ba U M) g2.2.2) jI) (mi (fi (j:=0) (ba U D) U) g2.1)) jI) (mi (fi (j:=1) (ba U D) U) g2.2.1)) λT k2 R=>kN _ T ⟨_,_,_,_,U⟩ k2 ?_
   ·rintro _ ⟨_,rfl,_,_,rfl,⟨_,rfl,rfl⟩,_,_,rfl,⟨_,rfl,rfl⟩,rfl⟩;rfl
   ·rw[R,ite_not];rfl
  refine d _ _ ?_;clear d J;obtain⟨B,u,C,m,rfl⟩:=b;have X:=ao.we kG h1 lG;refine aq λJ d=>?_;refine Bl (K:=K) (n:=4) (items:=[(("grow":Z),o.gr,(0:J')),("shrink",o.sh,1),("rank",o.rk,0),("alike",o.al,0)]) (toD:=λp=> .tup [.str p.1,.int p.2.1,.int p.2.2]) (f:=λp=>nW p.1 p.2.1 p.2.2) (λσ=>∃B u C m,σ=[O (.ref a),O (.ref l),B,u,C,m]) ⟨_,_,_,_,U⟩ ?_ lG bp (λ_=>oX) (Tf a0 bp) (λp I v g T i N bk b k2 R hi av kN=>?_) λg T b k2 R _=>?_
  ·refineλH' Q' s q=>(au (de (au jI (au (fi (j:=2) (ba U X) U) (au fZ bF)))) (au (de (au jI (au (fi (j:=3) (ba U X) U) (au fZ bF)))) (au (de (au jI (au (fi (j:=4) (ba U X) U) (au fZ bF)))) (au (de (au jI (au (fi (j:=5) (ba U X) U) (au fZ bF)))) bF)))) H' Q' s λxs ds H2 hn r=>q xs ds H2 hn ?_;obtain⟨_,_,rfl,⟨_,rfl,_,_,rfl,⟨rfl,_⟩,_,_,rfl,rfl,_,_,rfl,⟨_,rfl,rfl⟩,rfl⟩,_,_,rfl,⟨_,rfl,_,_,rfl,⟨rfl,_⟩,_,_,rfl,rfl,_,_,rfl,⟨_,rfl,rfl⟩,rfl⟩,_,_,rfl,⟨_,rfl,_,_,rfl,⟨rfl,_⟩,_,_,rfl,rfl,_,_,rfl,⟨_,rfl,rfl⟩,rfl⟩,_,_,rfl,⟨_,rfl,_,_,rfl,⟨rfl,_⟩,_,_,rfl,rfl,_,_,rfl,⟨_,rfl,rfl⟩,rfl⟩,rfl⟩:=r;rfl
  ·obtain⟨B,u,C,m,rfl⟩:=b;obtain⟨t,xs,rfl,ht,c⟩:=At.tupS (l:=[.str p.1,.int p.2.1,.int p.2.2]) av;obtain⟨x,ys,rfl,M,c⟩:=c.bL;obtain⟨y,zs,rfl,D,c⟩:=c.bL;obtain⟨z,zs,rfl,hz,c⟩:=c.bL;obtain rfl:=c.iz;obtain rfl:=fk M
   have g2:cZ p.2.1/\p.1.length<=60:=by
    simp only[PP,SO,or_false]at I
    rcases I with rfl|rfl|rfl|rfl
    ·exact⟨q5,Ti U⟩
    ·exact⟨q6,Ti U⟩
    ·exact⟨q7,Ti U⟩
    ·exact⟨q8,Ti U⟩
   refine⟨t,_,U,bq.of ht,U,_,_,U,_,_,U,_,_,U,U,?_⟩;refine jr (K:=K) U R hi (pW (ba U D) (ba U hz)) (λ_=>fO (fO (Bg (ba U M) g2.2) jI) (mi (ba U D) g2.1)) λG3 k3 l3=>kN _ G3 ⟨_,_,_,_,U⟩ k3 ?_;rw[l3,ite_not];rfl
  refine d _ _ ?_;clear d J;obtain⟨B,u,C,m,rfl⟩:=b;refine⟨_,U,k l T hl (Kp.same (kG.trans k2) s1 hl) ?_⟩;rw[R];show O (HO.lst ((([]++(rW "wide" o.w0 o.w1++(rW "high" o.h0 o.h1++[])))++(nW "grow" o.gr 0++(nW "shrink" o.sh 1++(nW "rank" o.rk 0++(nW "alike" o.al 0++[]))))).map V.str))=_;rw[U1,Ni,Ni,Sx];rfl
end
noncomputable def w1:aX->L Z
 | .leaf a b=>dR (.leaf a b)
 |_=>[]
noncomputable def w2:aX->L Z
 | .leaf a b=>dR (.leaf a b)
 | .table c _ _ _=>if c=1 then[]else["columns="++nS c]
 |_=>[]
noncomputable def w3:aX->L Z
 | .words _ _=>[]
 | .flow _ _ _=>[]
 |wh=>dR wh
noncomputable def wd:aX->D
 | .table _ g a _=> .tup [.int g,.str "start",.str a]
 |wh=>fY wh
noncomputable def xt(x:Z):L Tq:=[decide (x="leaf"),decide (x="table"),decide (x∈(["row","column","wrap","table"]:L Z)),decide (x∈(["words","flow"]:L Z))]
def kU(k:M')(g:J')(b a:Z):xt (aX.lined k g b a).kd=[F',F',T',F']:=by
 match k with
 |0=>show xt "row"=_;decide +kernel
 |1=>show xt "column"=_;decide +kernel
 |k+2=>show xt "wrap"=_;decide +kernel
def fR{c b a d:Tq}(h:xt x=[c,b,a,d]):decide (x="leaf")=c/\decide (x="table")=b/\decide (x∈(["row","column","wrap","table"]:L Z))=a/\decide (x∈(["words","flow"]:L Z))=d:=by
 unfold xt at h
 injection h with e h
 injection h with i h
 injection h with g h
 injection h with f _
 exact⟨e,i,g,f⟩
section
variable{K:B0}{tl:TA}{W:L Z}{b:Tq}{m:J'}
def uh:Ek K a J σ H0 (tC (.int m)) (·= .int m):=fZ.mono λ_ ⟨_,e,h⟩=>h▸e
theorem vH(h:Ek K a J σ H0 ta (·= .tup ds))(D:ds[ds.length-1]? =O d)(G:1<=ds.length):Ek K a J σ H0 (ix (yj K) ta (ix (wc λi j=> .int (i-j)) (wN (λxs H Q=>∃p ys,xs=[.ref p]/\(bu K H p ys\/bq K H p ys)/\Q (.int ys.length) H) (aY ta dc)) (tC (.int 1)))) (·=d):=λH Q s q=>h H _ s λv e C r n m=>by
 subst r;obtain⟨p,xs,rfl,E,F⟩:=n.tupS
 exact h C _ (s.trans m) λu e w r B o=>by
  subst r;obtain⟨x,ys,rfl,c,z⟩:=B.tupS;have f:=o.at n;obtain⟨_,b,t,g,l⟩:=f.tupS
  cases t
  have A:ds.length-1<b.length:=by rw[l.1];lia
  have k:b[ds.length-1]? =O b[ds.length-1]:=B2 A;refine⟨x,ys,U,.inr (bq.of c),_,_,U,U,p,b,_,_,U,U,bq.of g,?_,q _ _ w U (l.2 _ _ _ k D) (m.trans o)⟩
  have y:(ys.length:J')-1=((ds.length-1:M'):J'):=by rw[z.1];lia
  rw[y];exact aG k
def dg(h:yM a J σ H0 tt (·=b))(e:b=c):yM a J σ H0 tt (·=c):=e▸h
def ij(a:H l=O (.lst (W.map V.str)))(h:yM l (Jw W) σ H tt (·=F'))(k:∀H',Kp l H H'->H' l=O (.lst (W.map V.str))->D0.nx σ H'):xx tt ts rz D0 σ H:=h.QK ⟨_,a,U⟩ (λ_ _ e=>nomatch e) λH' s _=>by
 obtain⟨_,e,rfl⟩:=s.j;exact k H' s.k e
def LG(a:H l=O (.lst (W.map V.str)))(h:yM l (Jw W) σ H tt (·=T'))(k:∀H',Kp l H H'->H' l=O (.lst (W.map V.str))->ts D0 σ H'):xx tt ts rz D0 σ H:=h.QK ⟨_,a,U⟩ (λH' s _=>by
 obtain⟨_,e,rfl⟩:=s.j
 exact k H' s.k e) λ_ _ e=>nomatch e
end
section
variable{K:B0}
noncomputable abbrev Jl:L Z:=["_law_kind","_law_what_here","_law_words_here"]
def rC:ay Jl Zg (aj gJ):=dH
theorem C_(F:c_ K "_law_what_words" "_law_what_words" gJ f fd)(N:aQ mg):aS P w K mg B' dz 1 f fd Zg B10P.xD:=by
 refine F.fb rC λC' A U' s H vs Q E hr h=>?_
 ·obtain⟨q,wh,e,hw,R,k⟩:=h;subst e
  have a6:(A.deeper (SY "_law_what_words" (aj gJ) s.heap.objs.size f C')).units+20<Uy:=by have :=hr.units;lia
  refine⟨_,ah (pz 2 rC.nd (bt eO))
   (ah (aO (cn (jC (pv 0) ak) (bU (bh (h_ a6) (pv 1) (aR (bO af af)) (bB _)))).pt (ai (cK (bY SH SK SJ cC (pv 2) (aN (aE aJ (aE aJ (aE aJ ak (aM bz (by rfl) N.str On (aN (cy (pv 1) af)))) ak) (aM bz (by rfl) N.str On (aN (cy (pv 1) af)))))))) aD)
   (ah (aO (jC (pv 0) ak) (ah (aO (HU (cy (pv 1) af) af) (ai (cK (bY SH SK SJ cC (pv 2) (aN (aE aJ ak (aM bz (by rfl) N.str On (aN (cy (pv 1) af)))))))) aD)
    (ai (pz 1 rC.nd (aR (gh (cy (pv 1) af) ak (cy (pv 1) af)))))) aD)
   (ah (aO (bh (r:=yL K F') dj (pv 0) (aR (bj ak (gh ak ak ak))) (by rfl)) (ah (aO (HU (cy (pv 1) af) af) (ai (cK (bY SH SK SJ cC (pv 2) (aN (aE aJ ak (aM bz (by rfl) N.str On (aN (cy (pv 1) af)))))))) aD)
    (ah (aO (HU (cy (pv 1) af) ak) (ai (cK (bY SH SK SJ cC (pv 2) (aN (aE aJ ak (cy (pv 1) af)))))) aD)
    (ai (aO (HU (cy (pv 1) af) ak) (ai (cK (bY SH SK SJ cC (pv 2) (aN (aE aJ ak (cy (pv 1) af)))))) aD)))) aD)
   (ah (aO (cn (bh (r:=yL K F') dj (pv 0) (aR (bO ak ak)) (by rfl)) (bU (HU (cy (pv 1) (aE gv (aI bM (by rfl) N.len Tc (aN (pv 1))) af)) af))).pt (ai (cK (bY SH SK SJ cC (pv 2) (aN (aE aJ ak (aM bz (by rfl) N.str On (aN (cy (pv 1) (aE gv (aI bM (by rfl) N.len Tc (aN (pv 1))) af))))))))) aD)
   (ai (ar (pv 2))))))),?_⟩
  try rw[cA]
  refine aq λt b=>?_;refine⟨(by show 0<=sizeLine;decide),λl hl=>?_⟩;generalize hG:upd H l _=H1
  have s1:aa H H1:=by rw[<-hG];exact aa.put (aa.refl _) hl
  have h1:H1 l=O (.lst (([]:L Z).map V.str)):=by rw[<-hG];exact ag
  clear hG;refine b _ _ ?_;clear b t;have aw:At K H1 (.ref q) (fY wh):=(JA hw R).same s1;clear hw;refine aq λt b=>?_
  have u:∀X,Kp l H1 X->X l=O (.lst ((w1 wh).map V.str))->t [O (.str wh.kd),O (.ref q),O (.ref l)] X:=λX k2 C=>b _ _ (by
   clear b t;have a2:=aw.we k2 h1 C;refine aq λt b=>?_
   have a5:∀v B,Kp l H1 B->B l=O (.lst ((w2 wh).map V.str))->At K B v (wd wh)->t [O (.str wh.kd),O v,O (.ref l)] B:=λv B k3 l3 a3=>b _ _ (by
    clear b t a2 C k2;refine aq λt b=>?_
    have a1:∀H4,Kp l B H4->H4 l=O (.lst ((w3 wh).map V.str))->t [O (.str wh.kd),O v,O (.ref l)] H4:=λH4 k4 S=>b _ _ (by
     clear b t;have a4:=a3.we k4 l3 S;refine aq λt b=>?_;have z:∀M,Kp l H4 M->M l=O (.lst ((dR wh).map V.str))->t [O (.str wh.kd),O v,O (.ref l)] M:=λM k5 l5=>b _ _ ⟨_,U,k l M hl (Kp.same ((k3.trans k4).trans k5) s1 hl) l5⟩;clear b
     cases wh with
     |words ws j=>exact jr (K:=K) U S (Ti U) (dg (gR (dg (oN (K:=K) U) (fR (show xt "words"=[F',F',F',T']by decide +kernel)).2.2.2) λ_=>pW (vH (ba (d:= .tup [eM ws,.int j]) U a4) U (Ti U)) uh) (XR _)) (λ_=>fO jI (mi (vH (ba (d:= .tup [eM ws,.int j]) U a4) U (Ti U)) R.2)) λM k5 l5=>z M k5 (by rw[l5,ite_not];rfl)
     |flow G ws j=>exact jr (K:=K) U S (Ti U) (dg (gR (dg (oN (K:=K) U) (fR (show xt "flow"=[F',F',F',T']by decide +kernel)).2.2.2) λ_=>pW (vH (ba (d:= .tup [.tup (G.map D.str),eM ws,.int j]) U a4) U (Ti U)) uh) (XR _)) (λ_=>fO jI (mi (vH (ba (d:= .tup [.tup (G.map D.str),eM ws,.int j]) U a4) U (Ti U)) R.2.2)) λM k5 l5=>z M k5 (by rw[l5,ite_not];rfl)
     |leaf x y=>exact ij S (dg (gR (c:=T') (dg (oN (K:=K) U) (fR (show xt "leaf"=[T',F',F',F']by decide +kernel)).2.2.2) λe=>nomatch e) U) z
     |lined n g o a=>exact ij S (dg (gR (c:=T') (dg (oN (K:=K) U) (fR (kU n g o a)).2.2.2) λe=>nomatch e) U) z
     |table c g a W=>exact ij S (dg (gR (c:=T') (dg (oN (K:=K) U) (fR (show xt "table"=[F',T',T',F']by decide +kernel)).2.2.2) λe=>nomatch e) U) z
     |over ps=>exact ij S (dg (gR (c:=T') (dg (oN (K:=K) U) (fR (show xt "over"=[F',F',F',F']by decide +kernel)).2.2.2) λe=>nomatch e) U) z)
    clear b
    have a7:(decide (wh.kd∈(["row","column","wrap","table"]:L Z))=T'/\(w2 wh).length<=1/\∃(g:J')(o a:Z),At K B v (.tup [.int g,.str o,.str a])/\(cZ g/\o.length<=10/\a.length<=10)/\w3 wh=w2 wh++(gW g++(aW o++sW a)))\/(decide (wh.kd∈(["row","column","wrap","table"]:L Z))=F'/\w3 wh=w2 wh):=by
     cases wh with
     |lined n g o a=>exact .inl ⟨(fR (kU n g o a)).2.2.1,Sm _,g,o,a,a3,R,U⟩
     |table c g a W=>exact .inl ⟨(fR (show xt "table"=[F',T',T',F']by decide +kernel)).2.2.1,oX,g,"start",a,a3,⟨R.2.1,bf,R.2.2.1⟩,by rw[show aW "start"=[]from KF U,U1];rfl⟩
     |leaf x y=>exact .inr ⟨(fR (show xt "leaf"=[T',F',F',F']by decide +kernel)).2.2.1,U⟩
     |words ws j=>exact .inr ⟨(fR (show xt "words"=[F',F',F',T']by decide +kernel)).2.2.1,U⟩
     |flow G ws j=>exact .inr ⟨(fR (show xt "flow"=[F',F',F',T']by decide +kernel)).2.2.1,U⟩
     |over ps=>exact .inr ⟨(fR (show xt "over"=[F',F',F',F']by decide +kernel)).2.2.1,U⟩
    rcases a7 with⟨ek,a9,g,o,a,av,⟨g1,g2,g3⟩,e3⟩|⟨ek,e3⟩
    case' inr=>exact ij l3 (dg (oN (K:=K) U) ek) λH4 k4 S=>a1 H4 k4 (by rw[e3];exact S)
    ·skip
     refine LG l3 (dg (oN (K:=K) U) ek) λG1 q1 T=>?_;have b1:=av.we q1 l3 T;refine aq λN2 m=>?_;refine jr (K:=K) U T aB (pW (fi (j:=0) (ba U b1) U) uh) (λ_=>fO jI (mi (fi (j:=0) (ba U b1) U) g1)) λG2 q2 I=>?_;rw[ite_not]at I;refine m _ _ ?_;clear m N2;have b2:=b1.we q2 T I;have b0:(gW g).length<=1:=oX;have a8:(aW o).length<=1:=oX;refine aq λN2 m=>?_;refine jr (K:=K) U I (by rw[B3];show _+(gW g).length<=_;lia) (GN (fi (j:=1) (ba U b2) U)) (λ_=>fO jI (Bg (fi (j:=1) (ba U b2) U) aB)) λG3 q3 a0=>?_;rw[ite_not]at a0;refine m _ _ ?_;clear m N2;have b3:=b2.we q3 I a0;refine jr (K:=K) U a0 (by rw[B3,B3];show _+(gW g).length+(aW o).length<=_;lia) (GN (fi (j:=2) (ba U b3) U)) (λ_=>fO jI (Bg (fi (j:=2) (ba U b3) U) aB)) λG4 q4 e4=>a1 G4 (q1.trans (q2.trans (q3.trans q4))) ?_;rw[e4,ite_not,e3,Sx,Sx]
     rfl)
   clear b;have i:wd wh=fY wh->w2 wh=w1 wh->∀B,Kp l X B->B l=O (.lst ((w1 wh).map V.str))->t [O (.str wh.kd),O (.ref q),O (.ref l)] B:=λT I B k3 l3=>a5 _ B (k2.trans k3) (by rw[I];exact l3) (by rw[T];exact a2.we k3 C l3)
   cases wh with
   |table c g a W=>
    refine LG C (dg (jF U) (fR (show xt "table"=[F',T',T',F']by decide +kernel)).2.1) λG1 q1 T=>?_;have b1:=At.we (d:= .tup [.int c,.int g,.str a,.tup (W.map λp=> .tup [.int p.1,.int p.2])]) q1 C T a2;refine aq λN2 m=>?_;refine jr (K:=K) U T (Ti U) (pW (fi (j:=0) (ba U b1) U) uh) (λ_=>fO jI (mi (fi (j:=0) (ba U b1) U) R.1)) λG2 q2 I=>?_;rw[ite_not]at I;refine m _ _ ?_;clear m N2;have b2:=b1.we q2 T I;refine(de (K:=K) (J:=Jw (if c=1 then[]else["columns="++nS c])) (au (fi (j:=1) (ba U b2) U) (au jI (au (fi (j:=2) (ba U b2) U) bF)))).set ⟨_,I,U⟩ λv d G3 r hv s3=>?_;obtain⟨_,rfl,_,_,rfl,rfl,_,_,rfl,⟨rfl,_⟩,_,_,rfl,rfl,rfl⟩:=r;obtain⟨_,e3,rfl⟩:=s3.j;exact a5 v G3 (k2.trans (q1.trans (q2.trans s3.k))) e3 hv
   |leaf x y=>exact ij C (dg (jF U) (show decide (("leaf":Z)="table")=F' by decide +kernel)) (i U U)
   |lined n g o a=>exact ij C (dg (jF U) (fR (kU n g o a)).2.1) (i U U)
   |words ws j=>exact ij C (dg (jF U) (show decide (("words":Z)="table")=F' by decide +kernel)) (i U U)
   |flow G ws j=>exact ij C (dg (jF U) (show decide (("flow":Z)="table")=F' by decide +kernel)) (i U U)
   |over ps=>exact ij C (dg (jF U) (show decide (("over":Z)="table")=F' by decide +kernel)) (i U U))
  clear b
  cases wh with
  |leaf x y=>exact jr (K:=K) U h1 bp (dg (gR (dg (jF U) (show decide (("leaf":Z)="leaf")=T' by decide +kernel)) λ_=>HH (p:=(x,y)) (q:=(0,0)) (ba U aw) ((de (au uh (au uh bF))).mono (by rintro _ ⟨_,rfl,_,_,rfl,rfl,_,_,rfl,rfl,rfl⟩;rfl))) (XR _)) (λ_=>fO (fO (fO jI (mi (fi (j:=0) (ba (d:= .tup [.int x,.int y]) U aw) U) R.1)) jI) (mi (fi (j:=1) (ba (d:= .tup [.int x,.int y]) U aw) U) R.2)) λX k2 C=>u X k2 (by rw[C,ite_not];rfl)
  |table c g a W=>exact ij h1 (dg (gR (c:=T') (dg (jF U) (show decide (("table":Z)="leaf")=F' by decide +kernel)) λe=>nomatch e) U) u
  |lined n g o a=>exact ij h1 (dg (gR (c:=T') (dg (jF U) (fR (kU n g o a)).1) λe=>nomatch e) U) u
  |words ws j=>exact ij h1 (dg (gR (c:=T') (dg (jF U) (show decide (("words":Z)="leaf")=F' by decide +kernel)) λe=>nomatch e) U) u
  |flow G ws j=>exact ij h1 (dg (gR (c:=T') (dg (jF U) (show decide (("flow":Z)="leaf")=F' by decide +kernel)) λe=>nomatch e) U) u
  |over ps=>exact ij h1 (dg (gR (c:=T') (dg (jF U) (show decide (("over":Z)="leaf")=F' by decide +kernel)) λe=>nomatch e) U) u
end
inductive MY(K:B0)(vs:L V)(H:Hp)(Q:VK):Prop
 |mk (a:B4) (ns:L J') (c0:vs=[.ref a]) (c1:bu K H a (ns.map V.int)) (c2:ns.length<=63) (c3:∀H',Q (.bl T') H')
def AJ(K:B0):Sp:=λa H Q _=>MY K a H Q
theorem IL{t:B4}{a:dV}{bb r:L Z}(f:VF F' (.cons t a cs .nil))(good:(Fo.cons t a cs .nil).Good)(j:cs.fq+1<=8)(k:r.length+(cs.cnt+1)=bb.length)(i:bb.length<=10)(c:bb=r++(a.nm::bH cs).reverse)(b:bb.Nodup)(g:∀x∈bb,Vn x):(∃p,iU (fU (a,cs))=O p/\ou p/\wj p/\fU p=fU (a,cs))/\∀row∈B10P.bR a 0 eQ 0::a_ cs 1 a.wh 0,Rk row:=by
 have e:bH (.cons t a cs .nil)=a.nm::bH cs:=by
  show a.nm::(bH cs++[])=_;rw[Ni]
 refine DU f good (λx d=>?_) ?_ aB aB
 ·rw[e]at d;refine g x ?_;rw[c];exact TF _ (List.mem_reverse.mpr d)
 ·rw[e];rw[c]at b;exact(List.pairwise_reverse.mp (V4.mp b).2.1).imp λh=>SZ h
theorem Gs{d:dV}{rs:L Z}:0<(Sr "\n" (B10P.bR d 0 eQ 0::rs)).length:=by
 have g:(B10P.bR d 0 eQ 0).length<=(Sr "\n" (B10P.bR d 0 eQ 0::rs)).length:=join_le De;have f:d.wh.kd.length<=(Sr " " (fM d eQ 0)).length:=join_le De
 have b:0<d.wh.kd.length:=Nat.pos_of_ne_zero λe=>(L0 d.wh).2 (oV (by
  have a:=eU d.wh.kd;rw[e]at a
  exact S0 a))
 have c:(B10P.bR d 0 eQ 0).length=(oo "  " 0).length+(Sr " " (fM d eQ 0)).length:=FS _ _
 lia
def Ia{K:B0}{t:B4}(c:H t=O (.tup [.str "refused"]))(k:∀H',aa H H'->Q (.bl F') H'):LI (λy d=>yk K T' (.ref t) y d Q) [.str "refused"] H:=
 ⟨bp,λp b=>⟨t,p,_,_,λ_=>T',U,U,.inr ⟨bq.of (aa.put (aa.refl _) b _ _ c),bq.of ag⟩,U,λj x y ex a=>by
  have :x=y:=by rw[ex]at a;injection a
  subst this
  match j,ex with
  |0,ex=>
   cases ex
   exact(by decide +kernel:tq (V.str "refused") (V.str "refused")=T')▸IG.flat U U,k _ (aa.put (aa.refl _) b)⟩⟩
section
variable{K:B0}
noncomputable abbrev Ry:L Z:=["_law_script","_law_stream_here","_law_names_here","_law_text","_law_k","_law_other","_law_told"]
def oG:ay Ry Zk (aj rE):=dH
theorem Ma(F:c_ K "law" "law" rE f fd)(N:aQ mg)(C1:Cl P w K mg B' 1 (B10P.xa K) "_law_stream")(C2:Cl P w K mg B' 1 B10P.fo "_law_take")(C3:Cl P w K mg B' 2 xN "_law_names")(C4:Cl P w K mg B' 12 (uW K 8) "_law_box")(C5:Cl P w K mg B' 14 (BW 12) "_law_rows")(C6:Cl P w K mg B' 2 HS "_law_bent")(C7:Cl P w K mg B' 52 (Gq K) "_law_said")(C8:Cl P w K mg B' 1 LC "_law_odd"):aS P w K mg B' dz 53 f fd Zk (AJ K):=by
 refine F.fb oG λC' A U' s H vs Q E c h=>?_
 ·obtain⟨a,ns,e,hS,hn,k⟩:=h;subst e
  have b4:(A.deeper (SY "law" (aj rE) s.heap.objs.size f C')).units<Uy:=by have :=c.units;lia
  have D:(A.deeper (SY "law" (aj rE) s.heap.objs.size f C')).units+20<Uy:=by have :=c.units;lia
  refine⟨_,ah (pz 1 oG.nd (pq C1 c (aN (pv 0))))
   (ah (pz 2 oG.nd (pq C3 c (bO (pv 1) (aE bS af (pq C2 c (bO (pv 1) af))))))
   (ah (pz 3 oG.nd (bY Pi S_ S1 fH ak (aN (pq C5 c (gh (pq C4 c (bj (pv 1) (gh (aM lW (by rfl) N.list VT (aN (pv 2))) af fj))) af (bt eO))))))
   (ah (dq SU U (cW U N.range (aN af)) (aZ (i:=4) oG.nd U (Te U))
    (ah (pz 5 oG.nd (pq C6 c (bO (pv 1) (pv 3))))
    (ah (pz 6 oG.nd (pq C7 c (aN (pv 5))))
    (ai (aO (cn (bh (Ju b4) (pv 6) (pv 5) (bB _)) (bU (bh (h_ D) (pv 6) (aR (aN ak)) (bB _)))).pt (ai (ar fj)) aD)))))
   (ah (dq SU U (cW U N.range (aN af)) (aZ (i:=4) oG.nd U (Te U))
    (ai (aO (bh (h_ D) (pq C7 c (aN (pq C8 c (aN (pq C2 c (bO (pv 1) af)))))) (aR (aN ak)) (bB _)) (ai (ar fj)) aD)))
   (ai (ar (dA lT (pq C7 c (aN (pv 3))) (pv 3) (bB _)))))))),?_⟩
  try rw[cA]
  refine aq λo j=>?_;refine⟨_,U,a,ns,U,hS,hn,λst d z H1 d0 s1 c7=>?_⟩;refine j _ _ (aq λo j=>?_);refine⟨_,U,_,U,st,d,z,10,U,c7,bp,bp,λv d2 z2 v0 W=>?_⟩;have q:(upd H1 st (.lst [.int d2,.int z2])) st=O (.lst [.int d2,.int z2]):=ag;generalize upd H1 st (.lst [.int d2,.int z2])=H2 at *;obtain⟨vn,rfl,d7⟩:=iK (z:=v) (n:=10) v0 W;refine⟨_,_,U,U,st,d2,z2,1+vn,by rw[Wi];rfl,q,aB,λln bb d3 z3 H3 a7 b1 C c0 a4 d6 a8 y=>?_⟩;refine j _ _ ?_;clear j o
  have d4:st≠ln:=λz=>by rw[<-z,q]at a7;cases a7
  have b9:bb≠[]:=λz=>by rw[z]at a4;simp at a4;lia
  clear b1;refine aq λo j=>?_;refine⟨U,_,U,_,U,ln,_,U,.inl (bu.of c0),λl1 a6=>?_⟩;generalize g:upd H3 l1 _=H4
  have s4:aa H3 H4:=by rw[<-g];exact aa.put (aa.refl _) a6
  have c4:H4 l1=O (.lst (bb.map V.str)):=by rw[<-g];exact ag
  clear g;have n1:st≠l1:=B10P.EO C a6;refine⟨st,l1,bb,1,F',U,n1,⟨_,s4 _ _ C,_,_,U⟩,c4,b9,aB,y,bp,bp,λW b cs r1 H5 b5 ⟨a1,c2⟩ b3 m c1 b6=>?_⟩;obtain⟨⟨p0,c9,a9,c3,c8⟩,I⟩:=IL c1 m b6 a1 aB c2 a8 y;obtain⟨G,a3,eG,c5⟩:=xH (.cons 0 b cs .nil) [W] (bJ.cons b3 bJ.nil);have se:=a3
  cases a3 with
  | @cons _ t1 _ _ b7 _ d1 lc la=>
  cases la with
  |nil=>
  have eG:[W]=[V.ref t1]:=eG
  injection eG with eG _
  subst eG;have e1:=lc.fq;have e2:=lc.cnt;obtain⟨e3,b0,x5,y5,rfl⟩:=b5.s;refine⟨(by show 0<=sizeLine;decide),λle c6=>?_⟩;generalize g:upd H5 le _=H6
  have s6:aa H5 H6:=by rw[<-g];exact aa.put (aa.refl _) c6
  have h6:H6 le=O (.lst []):=by rw[<-g];exact ag
  clear g;refine⟨t1,le,b,b7,0,eQ,0,U,c5.keep (KT.same s6),se.good m,aB,aB,bp,kQ,h6,λlr H7 d5 s7 h7=>?_⟩;rw[<-lc.rows]at h7
  have a0:(B10P.bR b 0 eQ 0::a_ cs 1 b.wh 0).length<=11:=by
   rw[Da,fW 0 eQ cs 1 b.wh 0]
   lia
  have b2:=Gs (d:=b) (rs:=a_ cs 1 b.wh 0);have a2:(B10P.bR b 0 eQ 0::a_ cs 1 b.wh 0)≠[]:=Ub _ _;have a5:Sr "\n" (B10P.bR b 0 eQ 0::a_ cs 1 b.wh 0)=fU (b,cs):=U;have b8:=s7 _ _ (s6 _ _ b0);have h7:H7 lr=O (.lst ((B10P.bR b 0 eQ 0::a_ cs 1 b.wh 0).map V.str)):=h7;refine⟨"\n",lr,B10P.bR b 0 eQ 0::a_ cs 1 b.wh 0,U,U,bu.of h7,?_,?_⟩
  ·have h3:=DW.ig (B:=6300) _ λr c=>(I r c).2;have e1:("\n":Z).length=1:=U;have h2:(B10P.bR b 0 eQ 0::a_ cs 1 b.wh 0).length*6300<=13*6300:=Uk _ aB;rw[e1]
   lia
  refine j _ _ ?_;clear j o;generalize B10P.bR b 0 eQ 0::a_ cs 1 b.wh 0=R at *;refine aq λo j=>?_;refine⟨4,U,bp,bp,di (n:=4) (λi σ G=>∃(S J M:O' V)(d z:J'),σ=[O (.ref a),O (.ref st),O (.ref ln),O (.str (Sr "\n" R)),S,J,M]/\G st=O (.lst [.int d,.int z])) ⟨_,_,_,_,_,U,b8⟩ ?_ ?_⟩
  ·rintro i σ G hi ⟨S,J,M,d8,z8,rfl,g⟩;refine aq λN2 l=>?_;refine⟨_,U,_,U,st,d8,z8,R,U,g,a2,a0,I,b2,λx d9 z9 H9 hF h9=>?_⟩;refine l _ _ (aq λN2 l=>?_);refine⟨_,U,x,U,hF.1,hF.rows,λ_ _ _ _ Ha X=>?_,λ_ t Ha X T=>?_⟩
   ·refine l _ _ ?_;exact⟨_,U,_,U,.inl ⟨U,_,U,bT (by rw[FB U];rfl) (bW ⟨_,_,_,_,_,U,X _ _ h9⟩)⟩⟩
   ·refine l _ _ ?_;exact⟨_,U,_,U,.inr ⟨t,_,x,U,U,bq.of T,_,U,dJ ⟨_,U,Ia T λHb sb=>⟨_,U,bW ⟨_,_,_,_,_,U,sb _ _ (X _ _ h9)⟩⟩⟩⟩⟩
  rintro σ G ⟨S,J,M,d8,z8,rfl,g⟩;refine j _ _ (aq λo j=>?_);refine⟨2,U,bp,bp,di (n:=2) (λi σ G=>∃(S J M:O' V)(d z:J'),σ=[O (.ref a),O (.ref st),O (.ref ln),O (.str (Sr "\n" R)),S,J,M]/\G st=O (.lst [.int d,.int z])) ⟨_,_,_,_,_,U,g⟩ ?_ ?_⟩
  ·rintro i σ G hi ⟨S,J,M,d8,z8,rfl,g⟩;refine⟨_,U,st,d8,z8,720,U,g,bp,bp,λv d9 z9 v0 W=>?_⟩;have h9:(upd G st (.lst [.int d9,.int z9])) st=O (.lst [.int d9,.int z9]):=ag;generalize upd G st (.lst [.int d9,.int z9])=H9 at *;obtain⟨n,rfl,e0⟩:=iK (z:=v) (n:=720) v0 W;refine⟨n,U,aB,λx hx Ha X=>?_⟩;refine⟨x,U,hx.2.1,hx.2.2,λp hp hL T=>KB ⟨p,hp,hL,T⟩ (Ga hx.1),λ_ t Hb sb T=>?_⟩;exact Ia T λHc sc=>⟨_,U,bW ⟨_,_,_,_,_,U,sc _ _ (sb _ _ (X _ _ h9))⟩⟩
  rintro σ G ⟨S,J,M,d8,z8,rfl,g⟩;refine j _ _ ?_;clear j o;have u:=zj (mF (R:=R) aB λr c=>(I r c).rj);refine⟨_,U,_,U,u.1,u.rows,λ_ _ _ _ Ha X=>⟨_,U,U,?_⟩,λh=>KB ⟨p0,by rw[a5];exact c9,a9,c3,by rw[a5];exact c8⟩ h⟩;rw[FB U];exact k Ha
end
def all_mk{l:YB}{K:B0}{h:T9}{fa CR CI b6 b5 b3 b7 b2 f1 f2 f3 f4 f5 f6 f7 f8 f9 f10 f11 f12 f13 f14 f15 f16 f17 f18 f19 f20 f21 f22 f23 f24 f25 f26 f27 f28 f29 f30 f31 f32 f33 f34 f35 f36 f37 f38 f39 f40 f41 q f43 f44 p f46 f47 f48 f49 f50 f51 f52 f53 f54 f55 f56 f57 f58 f59 c0 f61 f62 f63 f64 f65 f66 f67 f68 f69 f70 f71 f72 f73 f74 f75 f76 f77 f78 f79 f80 f81 f82 f83 f84 f85:B4}(X:K.In h)(G:h.Ns SC mg)(hfa:mg "law"=O (.ref fa)){q3 b0 n8 oda1 h9 u9 x0:O' B4}{g3 c7 v7 g5 o5 e9:Us (O' B5)}{p7 z a0 a4 g a8:B5}{d1 d2 d3 d4 d5 d6 d7 d8 d9 d10 d11 d12 d13 d14 d15 d16 d17 d18 d19 d20 d21 d22 d23 d24 d25 d26 d27 d28 d29 d30 d31 d32 d33 d34 d35 d36 d37 d38 d39 d40 d41 d42 d43 d44 d45 d46 d47 d48 d49 d50 d51 d52 d53 d54 d55 d56 d57 d58 d59 d61 d62 d63 d64 d65 d66 d67 d68 d69 d70 d71 d72 d73 d74 d75 d76 d77 d78 d79 d80 d81 d82 d83 d84 d85:Ud}{b8 p0 o0 x2 i5 h6 r2 k3 s7 g6 T I a7 u a3 t a2 F D S J B a9 C E l9 t1 v3 i4 j9 j2 v6 q8 g9 x3 k2 w0 w2 tk38 g2 s6 j7:Tok}{na0 na1 na2 na3 na4:M'}(aCR:SI K SC "TextRow"=O (O (.ref CR)))(aCN:SI K SC "NoTree"=O (O (.ref CN)))(aCT:SI K SC "BadBox"=O (O (.ref CT)))(aCB:SI K SC "BoxError"=O (O (.ref CB)))(aCI:SI K SC "Ring"=O (O (.ref CI)))(aCG:SI K SC "TooGreat"=O (O (.ref CG)))(D1:Df K "what_of" kP f1 d1)(D2:Df K "is_free" Bf f2 d2)(D3:Df K "first_place" zi f3 d3)(D4:Df K "take" vB f4 d4)(D5:Df K "put_cells" M4 f5 d5)(D6:Df K "spans_of" qq f6 d6)(D7:Df K "rows_taken" ju f7 d7)(D8:Df K "cells_of" ql f8 d8)(D9:Df K "table_rows" lR f9 d9)(q6:Df K "is_whole" qA f10 d10)(t6:Df K "is_between" lN f11 d11)(j0:Df K "is_tuple_of" lB f12 d12)(m4:Df K "is_size" uO f13 d13)(r3:Df K "is_gap" zE f14 d14)(l0:Df K "is_joint" rS f15 d15)(j1:Df K "is_bounds" nH f16 d16)(x8:Df K "is_own" ze f17 d17)(o9:Df K "is_side" vQ f18 d18)(j5:Df K "is_align" qQ f19 d19)(u0:Df K "is_anchor_word" iN f20 d20)(w7:Df K "is_anchor" oa f21 d21)(e2:Df K "is_anchor_pair" iM f22 d22)(t7:Df K "is_sign" uV f23 d23)(y4:Df K "is_piece" mz f24 d24)(e5:Df K "is_word" pP f25 d25)(u5:Df K "is_words" jJ f26 d26)(h4:Df K "are_sides" kI f27 d27)(u4:Df K "is_words_what" jk f28 d28)(v1:Df K "is_flow_what" jL f29 d29)(h1:Df K "is_leaf_what" ko f30 d30)(g8:Df K "is_lined_what" jz f31 d31)(m2:Df K "is_span" uL f32 d32)(y8:Df K "is_table_what" hJ f33 d33)(x7:Df K "is_over_what" iH f34 d34)(t3:Df K "is_name" pM f35 d35)(D36:Df K "is_what" va f36 d36)(k5:Df K "is_box" Au f37 d37)(y1:Df K "alike_of" rD f38 d38)(k9:Df K "may_be_alike" jZ f39 d39)(l1:Df K "name_told" nP f40 d40)(o3:Df K "is_amiss" nh f41 d41)(a42:SE K (.ref CT) "__init__"=O (O (.ref q)))(i42:W4 K (.ref q)=T')(r5:c_ K "__init__" "BadBox.__init__" jY q d42)(r6:Df K "look_through" hI f43 d43)(s5:Df K "check_tree" lM f44 d44)(a45:SE K (.ref CR) "__init__"=O (O (.ref p)))(i45:W4 K (.ref p)=T')(n2:c_ K "__init__" "TextRow.__init__" jm p d45)(e6:Df K "number_read" iD f46 d46)(y0:Df K "fields_read" jU f47 d47)(s2:Df K "pair_read" kM f48 d48)(q4:Df K "anchors_read" jt f49 d49)(o6:Df K "words_read" jj f50 d50)(q5:Df K "own_read" jR f51 d51)(v4:Df K "what_read" gG f52 d52)(e4:Df K "row_read" mS f53 d53)(f0:Df K "box_read" kn f54 d54)(s8:Df K "outermost_read" eZ f55 d55)(t4:Df K "read_tree" kz f56 d56)(o7:Df K "_law_said" qZ f57 d57)(n3:Df K "_law_odd" vr f58 d58)(q0:Df K "_law_bent" qP f59 d59)(a60:Nv K "law" (.ref c0))(l60:K.lookup c0=O ⟨p7,q3,.func (U9 "law" "law" (jx rE) (fE rE) (aj rE) .none z a0 a4 b0 g a8),g3⟩)(c60:Xu K g "law"=T')(k60:Td K (.ref c0)=T')(n4:Df K "joined" mn f61 d61)(h7:Df K "own_told" l_ f62 d62)(u7:Df K "words_text" zd f63 d63)(o2:Df K "what_told" kC f64 d64)(k1:Df K "part_told" kv f65 d65)(w1:Df K "row_text" kj f66 d66)(u8:Df K "text_rows" kx f67 d67)(u2:Df K "tree_text" kD f68 d68)(c8:Df K "_law_stream" Az f69 d69)(l2:Df K "_law_take" Hw f70 d70)(c3:Df K "_law_names" Dn f71 d71)(v8:Df K "_law_range" oh f72 d72)(v2:Df K "_law_words" Eb f73 d73)(g7:Df K "_law_anchor" lQ f74 d74)(q9:Df K "_law_what" iW f75 d75)(e7:Df K "_law_box" lZ f76 d76)(k8:Df K "_law_own_words" hH f77 d77)(i7:Df K "_law_what_words" gJ f78 d78)(y3:Df K "_law_part_words" sM f79 d79)(m0:Df K "_law_text_words" su f80 d80)(h2:Df K "_law_rows" HJ f81 d81)(h3:Df K "kind_of" Kd f82 d82)(o1:Df K "name_of" JU f83 d83)(m1:Df K "own_of" uR f84 d84)(y5:Df K "parts_of" m_ f85 d85)(p1:WW K CR WV=T')(p2:Wz K CR=T')(p3:X6 K CR=T')(p4:SE K (.ref CR) "__setattr__"=O (O (.builtin "object.__setattr__")))(p5:YA K CR=T')(p6:Td K (.ref CR)=T')(nD:SE K (.ref CR) "depth"=O Y)(nK:SE K (.ref CR) "kind"=O Y)(nN:SE K (.ref CR) "name"=O Y)(nT:SE K (.ref CR) "told"=O Y)(Q:ky K CT=T')(v0:SE K (.ref CT) "__setattr__"=O (O (.builtin "object.__setattr__")))(c2:SE K (.ref CT) "__getattribute__"=O (O (.builtin "BaseException.__getattribute__")))(v9:SE K (.ref CT) "__getattr__"=O Y)(a6:T3 K CT (.type "BaseException")=O T')(w8:T3 K CT (.type "object")=O T')(c9:SE K (.ref CT) "__class__"=O (O (.builtin "object.__class__")))(e0:YY K (.ref CT) (.type "tuple")=O F')(n7:Td K (.ref CT)=T')(x1:ky K CN=T')(k0:SE K (.ref CN) "__setattr__"=O (O (.builtin "object.__setattr__")))(r4:SE K (.ref CN) "__getattribute__"=O (O (.builtin "BaseException.__getattribute__")))(u3:SE K (.ref CN) "__getattr__"=O Y)(l8:T3 K CN (.type "BaseException")=O T')(r0:T3 K CN (.type "object")=O T')(y7:SE K (.ref CN) "__class__"=O (O (.builtin "object.__class__")))(c4:Td K (.ref CN)=T')(w5:X5 K (.builtin "object.__class__") "__get__"=O (O (.builtin "getset_descriptor.__get__")))(x6:Yy K (.builtin "object.__class__")=O T')(y6:ky K CB=T')(j6:T3 K CB (.type "BaseException")=O T')(s9:YY K (.ref CB) (.type "tuple")=O F')(xow:ownIn K CT q=T')(xnm:SE K (.ref CT) "name"=O Y)(x11:T3 K CT (.ref CT)=O T')(xex:T4 K CN gM "ValueError.__new__"=T')(xnb:T3 K CN (.ref CB)=O T')(xk1:TX K (.ref CN) (.ref CT)=O F')(xk2:TX K (.ref CN) (.ref CI)=O F')(xk3:TX K (.ref CN) (.ref CG)=O F')(xk4:TX K (.ref CN) (.ref CN)=O T')(xk5:TX K (.ref CN) (.type "ValueError")=O T')(kq0:Nv K "ANCHOR_FARTHEST" (.int 1000000 b8))(kq1:Nv K "OVER_PARTS" (.int 12 p0))(kq2:Nv K "JOINT_MOST" (.int 999 o0))(kq3:Nv K "PIECE_LONGEST" (.int 12 x2))(kq4:Nv K "WORD_PIECES" (.int 6 i5))(kq5:Nv K "WORDS_PIECES" (.int 60 h6))(kq6:Nv K "FLOW_PARTS" (.int 12 r2))(kq7:Nv K "FIRST_SIGN" (.int 33 k3))(kq8:Nv K "LAST_SIGN" (.int 126 s7))(kq9:Nv K "PERCENT_SIGN" (.int 37 g6))(w3:Nv K "BAR_SIGN" (.int 124 T))(x5:Nv K "NAME_LONGEST" (.int 8 I))(j3:Nv K "SIZE_MOST" (.int 1000000 a7))(r8:Nv K "WEIGHT_MOST" (.int 99 u))(g4:Nv K "RANK_MOST" (.int 9 a3))(i0:Nv K "ALIKE_MOST" (.int 9 t))(n6:Nv K "LINED_PARTS" (.int 20 a2))(r9:Nv K "GAP_MOST" (.int 1000 F))(p8:Nv K "TABLE_PARTS" (.int 40 D))(t2:Nv K "TABLE_COLUMNS" (.int 12 S))(d0:Nv K "SPAN_MOST" (.int 12 J))(u1:Nv K "BOXES_MOST" (.int 60 B))(l6:Nv K "DEEPEST" (.int 8 a9))(c5:Nv K "TABLE_ROWS" (.int 60 C))(o8:Nv K "FIGURES_MOST" (.int 7 E))(tq0:Nv K "ANCHOR_WORDS" (.ref b6))(lq0:K.lookup b6=O ⟨.type "tuple",n8,.seq #[.str "start" l9,.str "mid" t1,.str "mid2" v3,.str "end" i4] na0,c7⟩)(tq1:Nv K "SIDES" (.ref b5))(lq1:K.lookup b5=O ⟨.type "tuple",oda1,.seq #[.str "left" j9,.str "right" j2] na1,v7⟩)(tq2:Nv K "LINED" (.ref b3))(lq2:K.lookup b3=O ⟨.type "tuple",h9,.seq #[.str "row" v6,.str "column" q8,.str "wrap" g9] na2,g5⟩)(tq3:Nv K "ALIGNS" (.ref b7))(lq3:K.lookup b7=O ⟨.type "tuple",u9,.seq #[.str "start" x3,.str "end" k2,.str "mid" w0,.str "mid2" w2] na3,o5⟩)(tq4:Nv K "ALIKE_KINDS" (.ref b2))(lq4:K.lookup b2=O ⟨.type "tuple",x0,.seq #[.str "leaf" tk38,.str "row" g2,.str "column" s6,.str "wrap" j7] na4,e9⟩){aP:B4}{tI eP:M'}{pp0 qq0 pp1 qq1 pp2 qq2 pp3 qq3 pp4 qq4 pp5 qq5 pp6 qq6 pp7 qq7 pp8 qq8 pp9 qq9 e3 i6 r7 v5 m3 q2 y2 t8 m6 q7 g1 s3:M'}(aPL:SI K SC "PLAIN"=O (O (.ref aP)))(lPL:K.lookup aP=O {cls:= .type "dict",data:= .dict (List.toArray [⟨Ts w.params "wide",.str "wide" pp0,.str "0..1000000" qq0⟩,⟨Ts w.params "high",.str "high" pp1,.str "0..1000000" qq1⟩,⟨Ts w.params "grow",.str "grow" pp2,.str "0" qq2⟩,⟨Ts w.params "shrink",.str "shrink" pp3,.str "1" qq3⟩,⟨Ts w.params "rank",.str "rank" pp4,.str "0" qq4⟩,⟨Ts w.params "alike",.str "alike" pp5,.str "0" qq5⟩,⟨Ts w.params "wish",.str "wish" pp6,.str "0,0" qq6⟩,⟨Ts w.params "columns",.str "columns" pp7,.str "1" qq7⟩,⟨Ts w.params "gap",.str "gap" pp8,.str "0" qq8⟩,⟨Ts w.params "align",.str "align" pp9,.str "start" qq9⟩,⟨Ts w.params "side",.str "side" e3,.str "left" i6⟩,⟨Ts w.params "joint",.str "joint" r7,.str "50" v5⟩,⟨Ts w.params "span",.str "span" m3,.str "1,1" q2⟩,⟨Ts w.params "float",.str "float" y2,.str "left" t8⟩,⟨Ts w.params "at",.str "at" m6,.str "start,0,start,0" q7⟩,⟨Ts w.params "text",.str "text" g1,.str "" s3⟩]) eP})(nPL:(aP==UF)=F')(aIN:SI K SC "INDENT"=O (O (.str "  " tI)))(z0:SI K SC "len"=O Y)(z1:SI K SC "max"=O Y)(z2:SI K SC "list"=O Y)(z3:SI K SC "int"=O Y)(z4:SI K SC "isinstance"=O Y)(z5:SI K SC "range"=O Y)(z6:SI K SC "all"=O Y)(z7:SI K SC "bool"=O Y)(z8:SI K SC "sum"=O Y)(z9:SI K SC "zip"=O Y)(z10:SI K SC "str"=O Y)(z11:SI K SC "tuple"=O Y)(z12:SI K SC "ord"=O Y)(z13:SI K SC "enumerate"=O Y)(z14:SI K SC "any"=O Y)(z15:SI K SC "dict"=O Y)(z16:SI K SC "reversed"=O Y)(z17:SI K SC "min"=O Y)(z18:SI K SC "abs"=O Y)(z19:SI K SC "ValueError"=O Y):
  ∃fd:Ud,(∀(s:FM)(v:B5),YP s fd ⟨[v],[]⟩ [("_law_script",v)])/\∀B':T9,K.In B'->B'.Ns SC mg->aS l.prog w K mg B' dz 53 fa fd Zk (AJ K):=by
 have e:=hfa.symm.trans (Sl X G a60)
 cases e
 have N:aQ mg:=⟨SM X G z0,SM X G z1,SM X G z2,SM X G z3,SM X G z4,SM X G z5,SM X G z6,SM X G z7,SM X G z8,SM X G z9,SM X G z10,SM X G z11,SM X G z12,SM X G z13,SM X G z14,SM X G z15,SM X G z16⟩;have A:=SM X G z17;have s1:=SM X G z18;have nve:=SM X G z19;have mCR:=Sl X G aCR;have mCN:=Sl X G aCN;have b1:=Sl X G aCT;have mCB:=Sl X G aCB;have mCI:=Sl X G aCI;have mCG:=Sl X G aCG;have b:pH K mg (λi=>[b8,p0,o0,x2,i5,h6,r2,k3,s7,g6,T,I,a7,u,a3,t,a2,F,D,S,J,B,a9,C,E].getD i b8) (λi=>[b6,b5,b3,b7,b2].getD i 0):=⟨Sl X G kq0,Sl X G kq1,Sl X G kq2,Sl X G kq3,Sl X G kq4,Sl X G kq5,Sl X G kq6,Sl X G kq7,Sl X G kq8,Sl X G kq9,Sl X G w3,Sl X G x5,Sl X G j3,Sl X G r8,Sl X G g4,Sl X G i0,Sl X G n6,Sl X G r9,Sl X G p8,Sl X G t2,Sl X G d0,Sl X G u1,Sl X G l6,Sl X G c5,Sl X G o8,Sl X G tq0,λH=> .inr ⟨_,_,_,lq0,U,U,az (by show 4<=100000;decide),.cons ⟨_,U⟩ (.cons ⟨_,U⟩ (.cons ⟨_,U⟩ (.cons ⟨_,U⟩ .nil)))⟩,Sl X G tq1,λH=> .inr ⟨_,_,_,lq1,U,U,az (by show 2<=100000;decide),.cons ⟨_,U⟩ (.cons ⟨_,U⟩ .nil)⟩,Sl X G tq2,λH=> .inr ⟨_,_,_,lq2,U,U,az (by show 3<=100000;decide),.cons ⟨_,U⟩ (.cons ⟨_,U⟩ (.cons ⟨_,U⟩ .nil))⟩,Sl X G tq3,λH=> .inr ⟨_,_,_,lq3,U,U,az (by show 4<=100000;decide),.cons ⟨_,U⟩ (.cons ⟨_,U⟩ (.cons ⟨_,U⟩ (.cons ⟨_,U⟩ .nil)))⟩,Sl X G tq4,λH=> .inr ⟨_,_,_,lq4,U,U,az (by show 4<=100000;decide),.cons ⟨_,U⟩ (.cons ⟨_,U⟩ (.cons ⟨_,U⟩ (.cons ⟨_,U⟩ .nil)))⟩⟩;have J1:=dY (ps:=Zb) X G D1;have J2:=dY (ps:=["taken","row","column","span"]) X G D2;have J3:=dY (ps:=["taken","columns","span"]) X G D3;have J4:=dY (ps:=["taken","place","span"]) X G D4;have J5:=dY (ps:=["columns","spans"]) X G D5;have J6:=dY (ps:=Zb) X G D6;have J7:=dY (ps:=["places","spans"]) X G D7;have J8:=dY (ps:=Zb) X G D8;have J9:=dY (ps:=Zb) X G D9;have J10:=dY (ps:=Za) X G q6;have J11:=dY (ps:=["thing","least","most"]) X G t6;have J12:=dY (ps:=Zj) X G j0;have J13:=dY (ps:=Za) X G m4;have J14:=dY (ps:=Za) X G r3;have J15:=dY (ps:=Za) X G l0;have J16:=dY (ps:=Za) X G j1;have J17:=dY (ps:=Za) X G x8;have J18:=dY (ps:=Za) X G o9;have J19:=dY (ps:=Za) X G j5;have J20:=dY (ps:=Za) X G u0;have J21:=dY (ps:=Za) X G w7;have J22:=dY (ps:=Za) X G e2;have J23:=dY (ps:=["sign"]) X G t7;have J24:=dY (ps:=Za) X G y4;have J25:=dY (ps:=Za) X G e5;have J26:=dY (ps:=Za) X G u5;have J27:=dY (ps:=Zj) X G h4;have J28:=dY (ps:=Zc) X G u4;have J29:=dY (ps:=Zc) X G v1;have J30:=dY (ps:=Zc) X G h1;have J31:=dY (ps:=Zc) X G g8;have J32:=dY (ps:=["thing","columns"]) X G m2;have J33:=dY (ps:=Zc) X G y8;have J34:=dY (ps:=Zc) X G x7;have J35:=dY (ps:=Za) X G t3;have J36:=dY (ps:=["kind","what","many"]) X G D36;have J37:=dY (ps:=Za) X G k5;have J38:=dY (ps:=Zb) X G y1;have J39:=dY (ps:=["box","in_table"]) X G k9;have J40:=dY (ps:=Za) X G l1;have J41:=dY (ps:=Zh) X G o3
 have b42:=r5.binds (ps:=Zl) λ_ _ _ _ _ _ us hl=>by obtain⟨_,_,rfl⟩:=QE hl;rfl
 have m9:=dY (ps:=Zh) X G r6;have J44:=dY (ps:=Za) X G s5
 have b45:=n2.binds (ps:=Zn) λ_ _ _ _ _ _ us hl=>by obtain⟨_,_,_,_,_,rfl⟩:=Sb hl;rfl
 have J46:=dY (ps:=["text"]) X G e6;have J47:=dY (ps:=["text","sign","many"]) X G y0;have J48:=dY (ps:=["text","sign"]) X G s2;have J49:=dY (ps:=["text"]) X G q4;have J50:=dY (ps:=["text"]) X G o6;have J51:=dY (ps:=["told"]) X G q5;have J52:=dY (ps:=["kind","told","parts_told"]) X G v4;have J53:=dY (ps:=["row"]) X G e4;have J54:=dY (ps:=["row","parts"]) X G f0;have J55:=dY (ps:=["rows"]) X G s8;have J56:=dY (ps:=["text"]) X G t4;have J57:=dY (ps:=["_law_text"]) X G o7;have J58:=dY (ps:=["_law_at"]) X G n3;have J59:=dY (ps:=["_law_stream_here","_law_text"]) X G q0;have F60:=zN (st:=rE) l60 c60 k60;have J61:=dY (ps:=Zp) X G n4;have J62:=dY (ps:=["own"]) X G h7;have J63:=dY (ps:=["words"]) X G u7;have J64:=dY (ps:=["kind","what"]) X G o2;have J65:=dY (ps:=["elder","place"]) X G k1;have J66:=dY (ps:=["box","as_part"]) X G w1;have e8:=dY (ps:=["box","depth","as_part"]) X G u8;have J68:=dY (ps:=["tree"]) X G u2;have J69:=dY (ps:=Zk) X G c8;have J70:=dY (ps:=Zm) X G l2;have J71:=dY (ps:=Zm) X G c3;have J72:=dY (ps:=Zf) X G v8;have J73:=dY (ps:=Zf) X G v2;have J74:=dY (ps:=Zf) X G g7;have J75:=dY (ps:=["_law_stream_here","_law_kind","_law_many"]) X G q9;have l5:=dY (ps:=Zs) X G e7;have J77:=dY (ps:=["_law_own"]) X G k8;have J78:=dY (ps:=Zg) X G i7;have J79:=dY (ps:=["_law_kind","_law_what_here","_law_at"]) X G y3;have J80:=dY (ps:=Zg) X G m0;have p9:=dY (ps:=["_law_box_here","_law_deep","_law_extra"]) X G h2;have J82:=dY (ps:=Zb) X G h3;have J83:=dY (ps:=Zb) X G o1;have J84:=dY (ps:=Zb) X G m1;have J85:=dY (ps:=Zb) X G y5;have TC:RowC K CR:=⟨⟨p1,p2,p3,p4⟩,nD,nK,nN,nT⟩;have MC:Mk K CR p:=⟨p5,a45,i45,p6⟩;have GB:NW l.prog w K mg aP tI:=⟨Sl X G aPL,G_ (ps:=bo) lPL (.cons ⟨U,⟨_,U⟩,_,U⟩ (.cons ⟨U,⟨_,U⟩,_,U⟩ (.cons ⟨U,⟨_,U⟩,_,U⟩ (.cons ⟨U,⟨_,U⟩,_,U⟩ (.cons ⟨U,⟨_,U⟩,_,U⟩ (.cons ⟨U,⟨_,U⟩,_,U⟩ (.cons ⟨U,⟨_,U⟩,_,U⟩ (.cons ⟨U,⟨_,U⟩,_,U⟩ (.cons ⟨U,⟨_,U⟩,_,U⟩ (.cons ⟨U,⟨_,U⟩,_,U⟩ (.cons ⟨U,⟨_,U⟩,_,U⟩ (.cons ⟨U,⟨_,U⟩,_,U⟩ (.cons ⟨U,⟨_,U⟩,_,U⟩ (.cons ⟨U,⟨_,U⟩,_,U⟩ (.cons ⟨U,⟨_,U⟩,_,U⟩ (.cons ⟨U,⟨_,U⟩,_,U⟩ .nil)))))))))))))))) (by decide +kernel) nPL,Sl X G aIN⟩;have r:B10P.aQ mg:=⟨N.len,N.range,N.list,N.tuple,A,s1,N.enum,N.str,N.inst⟩;have GG:B10P.NW l.prog w K mg _ aP:=⟨b.tLINED,b.sLINED,GB.mP,GB.dP,tI,GB.mI⟩;have eT:vM K CT:=⟨Q,v0,c2,v9,a6,w8,c9,w5,x6⟩;have eN:vM K CN:=⟨x1,k0,r4,u3,l8,r0,y7,w5,x6⟩;have cT:Cy K CT:=⟨(Vq Q).elim λcd h=>⟨cd,h.1⟩,e0,a6⟩;have cB:Cy K CB:=⟨(Vq y6).elim λcd h=>⟨cd,h.1⟩,s9,j6⟩;have o:=xex;have m:=mCN;have n:=c4;refine⟨U9 "law" "law" (jx rE) (fE rE) (aj rE) .none z a0 a4 b0 g a8,λs v=> .of_eq U,λB' _ _=>?_⟩;have m7:=eR (CM (P:=l.prog) (w:=w) (mg:=mg) (B':=B') D1.2 N) J1;have C_2:=eR (IU (P:=l.prog) (w:=w) (mg:=mg) (B':=B') D2.2 N) J2;have C_3:=eR (GJ D3.2 N C_2) J3;have C_4:=eR (FT (P:=l.prog) (w:=w) (mg:=mg) (B':=B') D4.2 N) J4;have C_5:=eR (MR D5.2 C_3 C_4) J5;have l4:=eR (yU D6.2 N m7) J6;have C_7:=eR (vN (P:=l.prog) (w:=w) (mg:=mg) (B':=B') D7.2 N) J7;have C_8:=eR (yV D8.2 N C_5 m7 l4) J8;have C_9:=eR (vD D9.2 N C_7 C_8 l4) J9;have t0:=eR (C9 (P:=l.prog) (w:=w) (mg:=mg) (B':=B') q6.2 N) J10;have c:=eR (xw t6.2 N t0) J11;have a:=eR (xI (P:=l.prog) (w:=w) (mg:=mg) (B':=B') j0.2 N) J12;have V:=eR (HE b m4.2 N c) J13;have R:=eR (IS b r3.2 N c) J14;have a1:=eR (Cm b l0.2 N c) J15;have x9:=eR (zp j1.2 N a V) J16;have t9:=eR (Jt b x8.2 N a x9 c) J17;have CK:=eR (B10P.KG (P:=l.prog) (w:=w) (mg:=mg) (B':=B') h3.2) J82;have j:=eR (B10P.La (P:=l.prog) (w:=w) (mg:=mg) (B':=B') o1.2) J83;have b4:=eR (B10P.E7 (P:=l.prog) (w:=w) (mg:=mg) (B':=B') m1.2) J84;have b9:=eR (B10P.Cv (P:=l.prog) (w:=w) (mg:=mg) (B':=B') D1.2) J1;have c1:=eR (B10P.yS (P:=l.prog) (w:=w) (mg:=mg) (B':=B') y5.2) J85;have k:=eR (FV (P:=l.prog) (w:=w) (mg:=mg) (B':=B') b o9.2 N) J18;have j8:=eR (Ea (P:=l.prog) (w:=w) (mg:=mg) (B':=B') b j5.2 N) J19;have w6:=eR (qx (P:=l.prog) (w:=w) (mg:=mg) (B':=B') b u0.2 N) J20;have i8:=eR (Ag b w7.2 N a w6 c) J21;have t5:=eR (qO e2.2 N a i8) J22;have C_23:=eR (IC (P:=l.prog) (w:=w) (mg:=mg) (B':=B') b t7.2 N) J23;have i9:=eR (Er b y4.2 N C_23) J24;have n5:=eR (Hl b e5.2 N i9) J25;have a5:=eR (DS b u5.2 N n5) J26;have w4:=eR (CU h4.2 N a k) J27;have k4:=eR (sy u4.2 N a a5 a1) J28;have j4:=eR (uy b v1.2 N a w4 a5 a1) J29;have h0:=eR (vE h1.2 N a V) J30;have q1:=eR (sH b g8.2 N a R j8 k) J31;have g0:=eR (Gf b m2.2 N a c) J32;have l7:=eR (sP b y8.2 N a c R k g0) J33;have k6:=eR (vL b x7.2 N a t5) J34;have y:=eR (E9 (P:=l.prog) (w:=w) (mg:=mg) (B':=B') b t3.2 N) J35;have k7:=eR (HD b D36.2 N q1 h0 l7 k4 j4 k6) J36;have o4:=eR (IP k5.2 N a y j t9 b4 c1 k7 CK b9) J37;have h8:=eR (DO y1.2 N b4) J38;have m5:=eR (Je b k9.2 N CK) J39;have s0:=eR (uQ l1.2 N a y j) J40;have r1:=eR (EJ b o3.2 N o4 j h8 m5 CK C_9) J41;have y9:=L_ (P:=l.prog) (w:=w) (mg:=mg) (B':=B') r5 eT xnm;have u6:=CD (yf r6.2 N m9 xow i42 n7 b1 y9 b42 r1 s0 j c1 CK 40) m9;have i3:=CD (Em s5.2 u6) J44;have l3:=qW (P:=l.prog) (w:=w) (mg:=mg) (B':=B') TC n2 N;have f:=CD (rP (P:=l.prog) (w:=w) (mg:=mg) (B':=B') o m n b e6.2 N) J46;have x:=CD (q_ (P:=l.prog) (w:=w) (mg:=mg) (B':=B') o m n y0.2 N) J47;have M:=CD (vm o m n s2.2 N f x) J48;have n1:=CD (oW o m n q4.2 N f x) J49;have e1:=eR (sk (P:=l.prog) (w:=w) (mg:=mg) (B':=B') o6.2 N) J50;have s4:=CD (xK o m n q5.2 N f M) J51;have h5:=CD (uG o m n b v4.2 N f M e1 n1) J52;have w9:=CD (wF o m n GB e4.2 N l3 b45 mCR MC) J53;have x4:=CD (xf o m n TC f0.2 N s4 h5) J54;have c6:=CD (mr o m n TC s8.2 N x4) J55;have CJ:=eR (B10P.DA (P:=l.prog) (w:=w) (mg:=mg) (B':=B') n4.2 r) J61;have CWT:=eR (B10P.yo o2.2 r GG CJ (eR (B10P.He u7.2) J63)) J64;have CPT:=eR (B10P.yF k1.2 CJ CK b9) J65;have CRT:=eR (B10P.yO w1.2 GG (eR (B10P.y_ h7.2 r CJ) J62) CWT CK j b4 b9) J66;have CTR:=eR (B10P.yC u8.2 r GG CRT CPT c1 e8 12) e8;have m8:=eR (B10P.xQ u2.2 CTR) J68;have d:=eR (B10P.K6 (P:=l.prog) (w:=w) (mg:=mg) (B':=B') l2.2) J70;have CWw:=eR (Gh q9.2 N d (eR (B10P.Cs v2.2 r d) J73) (eR (zc g7.2 N d) J74)) J75;have CBx:=eR (Be A e7.2 N d (eR (CS v8.2 N d) J72) CWw l5 8) l5;have CRw:=eR (B10P.ID (P:=l.prog) (w:=w) (mg:=mg) (B':=B') h2.2 r (eR (Ff k8.2 N) J77) (eR (C_ i7.2 N) J78) (eR (B10P.Cg y3.2 r) J79) (eR (B10P.Ec m0.2) J80) p9 12) p9;have i2:=CD (uA o m n b1 cT x11 t4.2 N c6 w9 i3 m8) J56;have n0:=eR (HG mCB cB xnb b1 mCI mCG m nve eN xk1 xk2 xk3 xk4 xk5 o7.2 N i2 m8) J57;have i1:=eR (IJ (P:=l.prog) (w:=w) (mg:=mg) (B':=B') n3.2 N) J58;have n9:=eR (Fd q0.2 N d) J59;exact Ma F60 N (eR (B10P.CL c8.2 r) J69) d (eR (B10P.Cp c3.2 r d) J71) CBx CRw n9 n0 i1
def walk{l:YB}{q:To}{b:L Z}{j:(Z->O' B5)->T9->Prop}{g:TV->T9->Prop}{d:DefRec}{K:Params->B0}(p:l.most=O 63)(c:d.params.defaults=[])(o:∀(w:TV)(h:T9),g w h->(K w.params).In h)(F:∀(w:TV)(mg:Z->O' B5)(e:B4)(h:T9),(K w.params).In h->h.Ns SC mg->mg d.name=O (.ref e)->
   ∃fd:Ud,(∀(s:FM)(u:B5),YP s fd ⟨[u],[]⟩ [("_law_script",u)])/\∀B':T9,(K w.params).In B'->B'.Ns SC mg->aS l.prog w (K w.params) mg B' dz 53 e fd Zk (AJ (K w.params))):
  PySem.W.WalkO q b j g l.row.toRowW d [] (λf t=>aaX f t):=
 L2.KN (n:=63) (k:=53) (x:="_law_script") (CX:=λ_=>dz) (sp:=λw=>AJ (K w.params)) p (by decide) c ⟨U,by decide,by decide⟩ o F (λ_ _ a r i _ m=>⟨a,r,U,m,i,λ_=>U⟩) λ_ _ _ _ _ z=>z
end B10
inductive PySem.W.Fast:Prop|tw14993900409845993241|tw8044427898855204456|tw13821825602174270189|tw142199709050351205|tw9057266305809209291|tw16070414722096435088|tw510822846425534284|tw3297428107316867117|tw15771490528873102711|tw4092058028464496094|tw17347892174906916683|tw17017576067445561187|tw13075225537879926090|tw1966344365871612121|tw5886162709483559828|tw283134581876270087|tw735477776080196985|tw5062340946300972058|tw7279102516859290391|tw13142882709340228114|tw17002349662306520819|tw14400815868970539482|tw4196879609062839044|tw2054034774071543000|tw2516375668354209736|tw534349107544300500|tw16759076107333148066|tw6132572525827628895|tw16013341097443726865|tw15671386030858539996|tw8418881792769824338|tw5437198051282142193|tw1373284197735373789|tw17863507073296376462|tw6216135372003394605|tw9438460009667065602|tw7448643657346543172|tw11232129218437255768|tw2234719505978165073|tw14728090902367954820|tw11782683472246992308|tw14257203649648466647|tw7977733878743399826|tw17917920301187052362|tw14656366622513193790|tw5536220317144489440|tw7688631848243396559|tw6258709927414259433|tw11413410679053153573|tw11796718897906941931|tw18093905945978349916|tw9386681050305881322|tw13602893460846911754|tw4567460811860882332|tw8772787234345894746|tw10233863297672287372|tw589219202106805357|tw14671910118952466732|tw12264680129928230855|tw9400419658530980477|tw11453696003278206710|tw3973668427231481121|tw4459693033802314255|tw230974151262498912|tw12587015945661419634|tw7466133378285321211|tw8065999562433166691|tw8382035925093029849|tw14796496830714696657|tw515380016529432824|tw15602314414461587356|tw10463061682828152282|tw11676592852706268857|tw1669705539462493960|tw12305842029005250807|tw12215287087773930909|tw10491973523508643327|tw7512506092438962771|tw9258398187608553158|tw1276315125867205340|tw4155067231986930810|tw16820472040013148468|tw12647159133743830969|tw17843156751846919074|tw12202880538672897634|tw6815979284359193036|tw9564804276271091085|tw6067526419989494905|tw12326978878882562482|tw10781931190098130505|tw11515380298357985358|tw6438558926949761360|tw534969781614390081|tw8785099049818917219|tw17400090168041020793|tw13282020836740771217|tw14107416426860426907|tw5168075067352860264|tw17053336796166955954|tw848994307610640573|tw9359449803507077447|tw13225034317852075686|tw7710461807428104140|tw7391160218182743896|tw5074710924947702729|tw18001261818390455183|tw10231524825081016220|tw18259129963363556614|tw4894738298114712248|tw8127094211677445909|tw15959446479208507676|tw10028876243582639106|tw16011488003177129739|tw9373717320221116337|tw5902071970266487878|tw12177828283621038097|tw8928535498343334437|tw1781113431419147338|tw518536350047159093|tw14982972364653326045|tw5205571015296839728|tw18360124353559436781|tw18418266526323939141|tw13675241377667349289|tw3858242998116906923|tw14836736140318482363|tw18247105097895707173|tw12166772411746183128|tw10822058412868137318|tw17828942386987165776|tw12858662413910676517|tw5949214334473099679|tw13406649993631658136|tw3274425418586842860|tw2634699198101993130|tw2678459207218557696|tw14184023656456753760|tw10898070505758502512|tw1160272026836656261|tw9048125334067272718|tw14464512281869967664|tw9885288560505560275|tw9866450744610064329|tw10542571899714645756|tw7486815819198273459|tw5516178488202337661|tw6254925252516852735|tw13953364879528046196|tw7398134725946397643|tw6883531303712017199|tw13160369947840865692|tw16434077432744830864|tw16302109741331989588|tw1018127410811104610|tw11245505630467244239|tw8495312337540221605|tw4073235021035752023|tw3816782557014116096|tw12355578994424373|tw24012479265054386|tw8563127439266134269|tw13005864059413438901|tw6288872117689233962|tw5900202277631248456|tw14795500570235753593
open PySem PySem.W PyProof.Rows
set_option maxRecDepth 100000 in
theorem PySem.Challenge.cw_boxgalley_k10_texts_that_are_none_holds : PySem.Challenge.rw_boxgalley_k10_texts_that_are_none.Holds := by
  w_on; o_law; k_head; (case hw => w_witness2)
  k_fill
  refine B10.walk (l := PySem.Challenge.rw_boxgalley_k10_texts_that_are_none) rfl rfl (fun w h Y => PySem.W.kIn_of Y) ?F
  case F =>
    intro w mg fa h KX G hmg
    refine' B10.all_mk KX G hmg ?aCR ?aCN ?aCT ?aCB ?aCI ?aCG ?D1 ?D2 ?D3 ?D4 ?D5 ?D6 ?D7 ?D8 ?D9 ?D10 ?D11 ?D12 ?D13 ?D14 ?D15 ?D16 ?D17 ?D18 ?D19 ?D20 ?D21 ?D22 ?D23 ?D24 ?D25 ?D26 ?D27 ?D28 ?D29 ?D30 ?D31 ?D32 ?D33 ?D34 ?D35 ?D36 ?D37 ?D38 ?D39 ?D40 ?D41 ?a42 ?i42 ?F42 ?D43 ?D44 ?a45 ?i45 ?F45 ?D46 ?D47 ?D48 ?D49 ?D50 ?D51 ?D52 ?D53 ?D54 ?D55 ?D56 ?D57 ?D58 ?D59 ?a60 ?l60 ?c60 ?k60 ?D61 ?D62 ?D63 ?D64 ?D65 ?D66 ?D67 ?D68 ?D69 ?D70 ?D71 ?D72 ?D73 ?D74 ?D75 ?D76 ?D77 ?D78 ?D79 ?D80 ?D81 ?D82 ?D83 ?D84 ?D85 ?p1 ?p2 ?p3 ?p4 ?p5 ?p6 ?nD ?nK ?nN ?nT ?xtov ?xtsa ?xtga ?xtgt ?xtmb ?xtmo ?xtcl ?xttp ?xtkp ?xnov ?xnsa ?xnga ?xngt ?xnmb ?xnmo ?xncl ?xnkp ?xcg ?xct ?xbov ?xbmb ?xbtp ?xow ?xnm ?x11 ?xex ?xnb ?xk1 ?xk2 ?xk3 ?xk4 ?xk5 ?kq0 ?kq1 ?kq2 ?kq3 ?kq4 ?kq5 ?kq6 ?kq7 ?kq8 ?kq9 ?kq10 ?kq11 ?kq12 ?kq13 ?kq14 ?kq15 ?kq16 ?kq17 ?kq18 ?kq19 ?kq20 ?kq21 ?kq22 ?kq23 ?kq24 ?tq0 ?lq0 ?tq1 ?lq1 ?tq2 ?lq2 ?tq3 ?lq3 ?tq4 ?lq4 ?aPL ?lPL ?nPL ?aIN ?z0 ?z1 ?z2 ?z3 ?z4 ?z5 ?z6 ?z7 ?z8 ?z9 ?z10 ?z11 ?z12 ?z13 ?z14 ?z15 ?z16 ?z17 ?z18 ?z19
    case aPL | lPL | aIN => k_is
    case nPL => rfl
    case aCR | aCN | aCT | aCB | aCI | aCG => k_is
    case a42 | a45 | a60 | kq0 | kq1 | kq2 | kq3 | kq4 | kq5 | kq6 | kq7 | kq8 | kq9 | kq10 | kq11 | kq12 | kq13 | kq14 | kq15 | kq16 | kq17 | kq18 | kq19 | kq20 | kq21 | kq22 | kq23 | kq24 | tq0 | tq1 | tq2 | tq3 | tq4 => show _ = _; k_is
    case i42 | i45 | l60 | c60 | k60 | p1 | p2 | p3 | p4 | p5 | p6 | nD | nK | nN | nT | xtsa | xtga | xtgt | xtmb | xtmo | xtcl | xttp | xtkp | xnsa | xnga | xngt | xnmb | xnmo | xncl | xnkp | xcg | xct | xbmb | xbtp | xnm | x11 | xnb | lq0 | lq1 | lq2 | lq3 | lq4 | z0 | z1 | z2 | z3 | z4 | z5 | z6 | z7 | z8 | z9 | z10 | z11 | z12 | z13 | z14 | z15 | z16 | z17 | z18 | z19 => k_is
    case D1 | D2 | D3 | D4 | D5 | D6 | D7 | D8 | D9 | D10 | D11 | D12 | D13 | D14 | D15 | D16 | D17 | D18 | D19 | D20 | D21 | D22 | D23 | D24 | D25 | D26 | D27 | D28 | D29 | D30 | D31 | D32 | D33 | D34 | D35 | D36 | D37 | D38 | D39 | D40 | D41 | D43 | D44 | D46 | D47 | D48 | D49 | D50 | D51 | D52 | D53 | D54 | D55 | D56 | D57 | D58 | D59 | D61 | D62 | D63 | D64 | D65 | D66 | D67 | D68 | D69 | D70 | D71 | D72 | D73 | D74 | D75 | D76 | D77 | D78 | D79 | D80 | D81 | D82 | D83 | D84 | D85 => exact ⟨(by show _ = _; k_is), L2.zN (by k_is) (by k_is) (by k_is)⟩
    case F42 | F45 => exact L2.zN (by k_is) (by k_is) (by k_is)
    case xtov | xnov | xbov | xk1 | xk2 | xk3 | xk4 | xk5 => rfl
    case xow => with_unfolding_all exact Eq.refl true
    case xex => k_exc
