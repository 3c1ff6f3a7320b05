import PyProof.Rows.All
import Wide.All
import OpenK.AllK
import PySem.Challenge.RW_handpromise_k69_weavings_refused
set_option genSizeOf false
set_option genInjectivity false
set_option bootstrap.genMatcherCode false
set_option Elab.async false
set_option linter.all false
set_option maxRecDepth 100000
noncomputable section
noncomputable section
open PySem renaming wpAny_bind->Aa,wpAny_pure->Ac,Shared->Ad,wpAny->An,model->Ay,Program->AB,Expr->AE,mainGlobals->AG,wpAny_field->AH,wpAny_setField_rec->AS,wpAny_callSpecial?_slot->AT,World->AV,starEach->AW,wpAny_newObj_type->Be,wpAny_mono->Bk,wpAny_call_entry->Bl,rawInt->Br,wpAny_holding->Bt,wpAny_Call_Name_kw->Bv,mem_of_lookup->B0,wpAny_loadPart_at->B3,Around->B6,bootBuiltins->BA,wpAny_truthy_bool->BF,compareOp->BN,codeAny_builtin->BW,wpAny_standAt->Cd,foldedSetIterable->Cg,Stmt->Cj,wpAny_setField->Cz,wpAny_seqItems->C4,wpAny_passesOwn->C8,NameKind->CA,wpAny_pyIter_list->CG,codeAny_call_builtin->CH,excClassObj->CU,assignEach->CV,codeAny_mono->Da,eval->De,wpAny_execs_nil->Df,PassesOwn->Di,noteFrame->Dj,pyNext->Dm,binaryOp->Dt,sizeLine_eq->Du,call_meets->Dw,IsPair->Dz,wpAny_askSetting->D3,wpAny_isSubtype_exc->D7,Scope->DA,wpAny_attempt->DE,codeAny->DF,sliceBounds->DN,scanBound->DO,wpAny_typeOf->DS,wpAny_setState_of->DT,sysModules->DY,backTo->DZ,wpAny_rule->Ec,wpAny_isInstance->Ef,wpAny_onRaise->Eh,plainId_quiet->Ei,GenState->Ek,wpAny_updateSeq_pair->Em,letOwnedTupleGo->Eo,codeAny_of_tree->Er,wpAny_setEntries_of->Ey,DictEntry->E5,FuncData->E9,wpAny_newFunctionEnv_cells->EA,firstArgMember->EK,wpAny_binaryOp_repeat_ref->EN,wpAny_Call_ofName->EZ,Paired->Fc,wpAny_comprehension_free->Ff,noFill_tuple_add->Fo,setFlight->Fq,checkBuiltinCall->Ft,builtinsNs->Fz,wpAny_pyNext_range_end->F0,wpAny_pyIter_rangeiter->F1,concat_meets->F4,IsPart->F5,getItem->F6,typeIs_int->F8,wpAny_Call_method_late->F9,callerA->FB,wpAny_call->FD,valueAt->FG,OsState->FH,importedModules->FP,codeAny_call_function->FQ,weight_type_call_type->FS,IsRangeIter->FX,recursionLimit->FY,wpAny_setFlight_none->Gb,compEnvC->Gc,wpAny_runValue->Ge,isSubtype_stop->Gg,field->Gh,IsZip->Gi,wpAny_letGo->Gk,intKind->Gn,holding->Go,Arguments->Gp,OwnTail->Gq,behindInMarks->G0,attributeBase->G1,seq_tuple_add->G2,pyIter->G8,wpAny_pyIter_range->G9,wpAny_entryPlaceOf->GF,wpAny_pyIter_tuple->GL,wpAny_assign_Name->GU,wpAny_sequenceKey->GV,seqIndex_neg->GW,slot_list_getitem->GX,list_append->GY,wpAny_frameOf_fun->Hg,wpAny_pyIter_slot->Hn,ZipApart->Ho,wpAny_pyIter_enum->Hr,Pos->Ht,wpAny_execs_cons->Hw,cellsFrom->Hx,seqIndex?->H0,wpAny_Try_except->HE,check_set_init_1->HG,wpAny_pyIter_zip->HJ,treeTable->HL,Tok->HQ,Env->HS,cLine->HU,seqIndex_of->HV,wpAny_throw->HX,wpAny_of_eq->HY,typeLookup_type->Ig,hashInt->Ip,isTrue->Iu,wpAny_Name->Iv,assign->Iw,bindArgs->Iz,bindL->I9,bindC->IA,fitsIndex_both->IE,call->IG,setField->IH,handleBy->IK,wpAny_loadPart->IL,refuseLoop_ref->IM,intKind_is->IO,entryFor_alias->IQ,setsByText->IT,wpAny_fieldsOf->IU,wpAny_newTuple->IV,IsEnum->IW,Thread->IX,intBits_le_64->Jf,evalPart_none->Jj,call_list_seq->Jl,wpAny_handled->Jm,fenceModules?->Js,swapsWith->Ju,lastMarks->Jv,Fin->Jw,seqItems?->Jz,Result->J3,BindsTo->J4,codeAny_func->J5,entryPlaceOf->J8,relabel->J9,passOn->JA,setAddHashed->JB,setNext->JC,callType_new->JE,denote->JG,interactive->JP,Meets->JS,subscripted->JT,entryFor->Ka,slotArgs->Kb,newTuple->Kd,setAdd->Kq,argsOk->Ks,newExc->Kt,Params->Kw,hashStr->Kx,Drawn->Ky,Sem->Kz,spliced->K0,standAt->K1,getAttr->K3
open PySem.Heap renaming get?_push_of_some->Ab,lt_size->Ag,get?_push_size->Ak,get?_update_other->A2,size_push->AX,get?_update_self->Bh,SameBut->Cc,get?_update_ne->D8,get?_none_of_le->Ej,MadeExcOf->EF,size_after_update->FC,ExtBut->Gf,get?_push_at->Hj
open List renaming getElem?_eq_getElem->Ae,replicate->Af,size_toArray->Ah,mem_cons_of_mem->Aj,getD_eq_getElem?_getD->Am,range->Ap,mem_cons_self->Ar,mem_cons->As,getElem?_set_ne->Au,mem_singleton->Av,getElem?_eq_some_iff->Ax,mem_map->A0,getElem?_map->A3,map_map->A4,mem_append_right->A5,map_append->A7,length_take->A8,length_replicate->A9,getElem_map->AC,getElem?_append_right->AD,length_set->AF,getElem_mem->AI,getElem?_set_self->AK,not_mem_nil->AM,getElem_range->AN,all_eq_true->AO,getElem?_append_left->AQ,mem_append_left->Bc,zip_cons_cons->Bf,length_range->Bm,forall_mem_cons->Bo,length_drop->Bs,take_of_length_le->Bw,map_congr_left->B1,mem_range->B5,mem_append->B8,replicate_succ->BC,append_assoc->BG,getElem?_eq_none->BJ,mem_filter->BK,getElem?_replicate->BO,flatten_cons->BR,take_succ_eq_append_getElem->BS,take_length->BZ,filterMap_cons_none->Cf,nodup_cons->Ck,foldl_cons->Cm,filterMap_cons->Cp,map_drop->Cs,pairwise_cons->C0,length_singleton->C5,append_nil->C9,getElem?_of_mem->CD,length_eq_zero_iff->CN,mem_filterMap->CW,length_append->CY,range_succ_eq_map->Dc,map_take->Dk,filterMap_append->Dq,foldl_append->Ds,mem_of_mem_take->D1,drop_eq_getElem_cons->D5,getElem?_zip_eq_some->D6,getElem?_range->D9,of_mem_zip->DG,nil_append->DH,getElem?_take->DL,map_inj_left->DU,getElem?_toArray->DV,length_filter_le->DW,any_eq_true->Eb,lookup_cons->Ed,isEmpty_nil->Ee,all_cons->Eg,lookup->En,toList_toArray->Ew,take_succ->EG,length_eraseIdx_of_lt->EJ,filterMap->EM,findIdx?_eq_none_iff->EQ,length->EU,zip_nil_left->EV,flatMap_cons->Fb,filterMap_cons_some->Fi,length_cons->Fm,mem_flatMap->Fr,filter_cons_of_pos->Fv,filter_cons_of_neg->Fw,pairwise_singleton->Fx,all_map->FE,drop_of_length_le->FK,length_map->FL,length_nil->FM,forIn_cons->FO,contains_iff_mem->FU,take_append_drop->FV,forIn_nil->Gj,pairwise_append->Gm,flatMap_append->Gy,filter_eq_self->Gz,any_cons->G4,zip_nil_right->GB,contains_cons->GJ,map_replicate->GS,zipIdx_cons->HH,drop_length->HK,cons_append->HN,zipIdx_nil->Ii,range_succ->Ij,map_const'->Im,foldl->ID,drop_zero->II,foldl_nil->Ja,map_cons->Ji,map_nil->J6,set_set->JF
open PySem.W renaming Frag->Ai,boot_heap->Ca,kia_one->Co,nsIn->Cq,findIn->CL,findIn->CO,kitOne->Dx,looks_findIn->D2,excIn->DC,cellsFrom_some->DQ,keepIn->EE,methodObj->ET,kitx_none->EX,fnOf->F3,SharedT->Gs,codeRec_of->GA,tail_of_in->GI,boot_drawn->GM,hasDictIn->Hk,boot_toks->HM,kia_tup->Id,OpenLaw->Ik,lookIn->Iy,codeIn->IB,tailIn->IJ,kitAny->IN,namesBound->IY,clsIn->Jq,mroIn->Jr,mroIn->Jx,staticsOk->J0,stepOk->JH,subIn->JW,looks_clsIn->JX,gensDone->Ke,laidKept->Kf,openGood->Kg,OpenLaw->K4,clsIn->K5,through->K9,stepT->KA,topStub->KB,topFrom->KC,LeftO->KJ
open Nat renaming le_refl->Al,ne_of_lt->Aw,lt_of_lt_of_le->A1,le_trans->AJ,lt_irrefl->AU,ne_of_gt->Bq,lt_succ_self->Bx,lt_succ_of_lt->B4,zero_le->B7,le_succ->CC,add_sub_cancel_left->CQ,not_lt->Db,not_lt_zero->DI,le_of_lt->DP,lt_trans->E1,sub_zero->FF,mul_comm->Hb,le_succ_of_le->Hi,min_eq_right->HP,min_eq_left->Io,mod_lt->IS,succ_mul->J7,sub_self->JJ,zero_add->JK
open Option.some renaming inj->Aq,injEq->Ci
open Array renaming getElem?_eq_some_iff->A6,length_toList->Bj,getElem?_toList->BX,getElem?_eq_getElem->C7,replicate->FN,mk->IZ
open PySem.F renaming called_set->AL,slot_tuple_iterator_next->C3,plainAttrs_list->CT,attrBase_ValueError->Dn,slot_enumerate_next->Dp,excBase_ValueError->Dy,args_tuple_add_2->DB,entry_tuple_add->DM,slot_tuple_add->DR,slot_tuple_mul->Ea,slot_int_rmul->Ep,args_tuple_iterator_next_1->Eu,slot_zip_next->Ev,entry_tuple_iterator_next->E3,sub_list_frozenset->EH,slot_list_append->Fj,type_list_append->Fk,args_enumerate_next_1->Fu,typeCall_set_1->FI,entry_enumerate_next->FJ,slot_dict_get->FR,slot_set_iter->FT,args_list_append_2->Ga,sub_list_set->Gd,entry_list_append->Gv,slot_list_append->GD,args_tuple_mul_2->GE,args_int_rmul_2->Ha,entry_tuple_mul->Hf,entry_type_call->Hl,args_zip_next_1->Hq,slot_int_index->HB,entry_int_rmul->HC,entry_set_init->HF,entry_zip_next->HI,fills_int_mul->Ia,entry_bexc_ga->Ic,plain_set_new->Ie
open PySem.Builtin.SmallTypes renaming nextOf->AR,ownedTupleIsFree->Bd,ownedTupleHandOut->BE
open PyProof.Rows.F renaming plain_set_update_loop->AY,entry_set_update_loop->BD
open PySem.Value renaming none->AZ,ref->Bu,int->BU,bool->Cw,builtin->DD,type->DX,isInt->FW,notImplemented->FZ,str->Hv,isStrOf->Jd,bytes->JN,float->JO
open PyProof.Rows renaming callWith_type1->Ba,slot_tuple_getitem->Bp,callWith_builtin1->BB,IntsAre->CB,AllBare->Ez,envOfC->Fd,subscriptTail_builtinR->F7,entry_tuple_getitem->Gu,args_tuple_getitem->GC,slot_str_getitem->H9,get?_update_seq->Ih,boot_range->Ix,slicePart_none->IC,tupleItemsOf_->Jh,subscriptTail->Jk,listUpdate_at->Jp,SetOf_congr->JY,TupTab->Kh,lt_int->Ki,Call_->K2
open Option renaming map_eq_some_iff->Bb,isSome_iff_exists->Ce,getD_none->Fp,none->JV
open PySem.Obj renaming data_mapFields->Bg,isFreed_of_fields->BI,mapFields->Cr,mapSeq->DJ,cls_mapFields->EW
open PySem.NameKind renaming free->Bz
open PySem.Builtin.Str renaming strSliceIndices->B2,occurrences->CM,occurrences->HW
open Bool renaming or_eq_true->B9,false_ne_true->BL,not_eq_true'->Ch,eq_iff_iff->Dg,not_true->Dl,or_true->E0,false_and->E8,and_false->ED,not_false->EL,and_true->Fe,or_false->G3,and_eq_true->Hy
open Int renaming toNat_natCast->BH,toNat_of_nonneg->BV,le_trans->E4,ofNat->Gr,natCast_nonneg->GQ,emod_lt_of_pos->GR,natCast_mul->Ib,emod_nonneg->Il,mul_le_mul->Jb
open PySem.Builtin.Range renaming rangeSize->BM,small->Gx,rangeFitsLong->Ir
open Sum renaming inr->BP,inl->Fy
open Ne renaming symm->BQ
open PySem.Calls renaming spliced_cons->BY,spliced_nil->Dr,evalArgs_plain->Dv,Name_function_global->E7,callWith_builtin->FA
open Prod.mk renaming injEq->Cu
open PySem.Challenge renaming rw_handpromise_k69_weavings_refused->Cv,pw_handpromise_k69_weavings_refused->E6
open False renaming elim->Cy
open PySem.Builtin.Slice renaming slicePlaces->C6,sliceAdjust->D4,sliceApplied->EB,slicePartIndex->HZ,sliceFields->Jc
open PySem.StrLaws renaming sliceText->CF
open PySem.Around renaming under_plainId->CI,under_plain->GK,under->J1
open PySem.Builtin.Tuple renaming tupleExact->CJ,tupleItemsOf->EC,tupleHashOf->EO,tupleCompareSizes->Hu
open PySem.Builtin.List renaming listTooLong->CK,listExtendWith->E2,listSameRef->Fh,listLengthHint->Iq,listFitsIndex->IF,listTouch->JD
open PySem.AutoSeq1 renaming wpAny_loadPart'->CP,list_extend_list_list_0->GZ,sub_tuple_tuple->Jg
open PySem.Str renaming ofString->CZ,length->Kn
open ForInStep renaming yield->Dh
open PySem.Code renaming quiet_builtin->DK,isFrame->J2
open PySem.Builtin.Frozenset renaming updateFrom->Et,newClass->IP,addrOf->Jn,sizeOf->Jo,slot0->Jy
open PySem.Heap.SameBut renaming update->Ex,refl->K7
open PySem.SetTable renaming below->EI,insertAt->Fa,orStandIn->Kr
open Classical renaming byContradiction->ES
open PySem.PassesOwn renaming looking->EY,leaving->K8,never->KG
open Sum.inr renaming injEq->Fl,inj->HR
open PyProof renaming noPylong_small->F2
open PySem.EntryCells renaming newEntry->Gw
open PySem.W.Fast renaming te10156331382660048174->G5,te11892475500146522536->G6,te14364793385576792824->G7,te6613529449190102663->GN,te4187177175401517315->GO,te5923862056798008813->GP,sEq->Hs,sEq_iff->JI
open PySem.Walks renaming list->GG,range->JQ
open True renaming intro->GH
open PySem.AutoListH renaming list___mul___list_int_3->GT
open List.Pairwise renaming nil->He,sublist->JM
open PySem.pickOrder renaming go->Hm
open PyProof.Rows.IsTup renaming new->Hz
open PySem.IsL renaming update->HA
open PySem.Builtin.ObjectAttr renaming storeTaker?->HD
open List.Perm renaming refl->IR,append_left->JL,cons_inv->Ku,swap->KI
open PySem.Paired renaming length->Je
open List.cons renaming inj->Jt
open PySem.IsRange renaming new->JR
open PySem.MeetsSeq renaming list_pop_at->JU
open PySem.Moved renaming trans->JZ
open PySem.SeqAt.EqAt renaming int_str->Kj,str_int->Kk,int_int->Kl
open PySem.Heap.IsSliceOf renaming new->Km
open PySem.W.WShape renaming has->Ko
open PySem.ScopeKind renaming function->Kv
open PySem.Heap.Ns1 renaming of_empty->K6
open PySem.DictEntry renaming refKey->KD
open PySem.W.WData renaming int->KF
open Prod renaming ext->KH
def Ao:=@decide_eq_true
def Az:=@decide_eq_false
def AA:=@decide_eq_true_eq
def El:=@or_false
theorem nf{p:Prop}(h:false=true):p:=absurd h BL
def gS:=@List.getElem?_cons_succ.{0}
def gZ:=@List.getElem?_cons_zero.{0}
def lS:=@List.set_cons_succ.{0}
def lZ:=@List.set_cons_zero.{0}
def bF:=@Bool.false_eq_true
def lC:=@List.length_cons.{0}
def lN:=@List.length_nil.{0}
def lA:=@List.length_append.{0}
def mC:=@List.map_cons.{0,0}
def mN:=@List.map_nil.{0,0}
def lM:=@List.length_map.{0,0}
def mG:=@List.mem_of_getElem?.{0}
def bN:=@Bool.false_ne_true
def bA:=@Bool.and_eq_true
noncomputable section
namespace L2
open PySem PySem.Spec PyProof.Rows
abbrev Key:=Sum Int Str
def tR:Key->Value->Bool
 | .inl k,v=>FW k v|.inr x,v=>Jd x v
def aPF(w:AV):Key->Int
 | .inl k=>Ip k|.inr x=>Kx w x
theorem keyIs_shape:∀{k:Key} {v:Value},tR k v=true->(∃i t,k=Fy i/\v=BU i t)\/(∃x t,k=BP x/\v=Hv x t)
 | .inl i,v,h=>by obtain⟨t,e⟩:=Value.isInt_shape (k:=i) (v:=v) h;exact .inl ⟨i,t,rfl,e⟩|.inr x,v,h=>by obtain⟨t,e⟩:=Value.isStrOf_shape (x:=x) (v:=v) h;exact .inr ⟨x,t,rfl,e⟩
theorem aDa(i:Int)(t:HQ):tR (.inl i) (.int i t)=true:=by simp[tR,FW]
theorem kM(x:Str)(t:HQ):tR (.inr x) (.str x t)=true:=by simp[tR,Jd]
theorem aJO(a b:Int):decide ((Fy a:Key)=Fy b)=(a==b):=by by_cases e:a=b;subst e;simp;have h:¬ (Fy a:Key)=Fy b:=λq=>e (Sum.inl.inj q);rw[Az h];exact(beq_eq_false_iff_ne.mpr e).symm
theorem aJP(a b:Str):decide ((BP a:Key)=BP b)=decide (a=b):=by by_cases e:a=b;subst e;simp;have h:¬ (BP a:Key)=BP b:=λq=>e (HR q);rw[Az h,Az e]
theorem aJQ(a:Int)(b:Str):decide ((Fy a:Key)=BP b)=false:=Az (λq=>nomatch q)
theorem aJR(a:Str)(b:Int):decide ((BP a:Key)=Fy b)=false:=Az (λq=>nomatch q)
def bX(prog:AB)(w:AV):PySem.KeyKind prog w Key where
 is:=tR
 hash:=aPF w
 inj:=λv a b ha hb=>by
  rcases keyIs_shape ha with⟨i,t,rfl,rfl⟩|⟨x,t,rfl,rfl⟩
  rcases keyIs_shape hb with⟨j,u,rfl,e⟩|⟨y,u,rfl,e⟩
  injection e with e1 _;rw[e1]
  exact nomatch e;rcases keyIs_shape hb with⟨j,u,rfl,e⟩|⟨y,u,rfl,e⟩
  exact nomatch e;injection e with e1 _;rw[e1]
 byValue:=λk v h=>by rcases keyIs_shape h with⟨i,t,rfl,rfl⟩|⟨x,t,rfl,rfl⟩ <;> rfl
 pyHash:=λhv h=>by
  rcases keyIs_shape hv with⟨i,t,rfl,rfl⟩|⟨x,t,rfl,rfl⟩
  exact wpAny_pyHash_int h;exact wpAny_pyHash_str h
 eqBool:=λhu hv h=>by
  rcases keyIs_shape hu with⟨i,t,rfl,rfl⟩|⟨x,t,rfl,rfl⟩
  rcases keyIs_shape hv with⟨j,u,rfl,rfl⟩|⟨y,u,rfl,rfl⟩
  rw[aJO] at h;exact wpAny_eqBool_int h;rw[aJQ] at h;exact Kj i t y u _ _ _ _ h;rcases keyIs_shape hv with⟨j,u,rfl,rfl⟩|⟨y,u,rfl,rfl⟩
  rw[aJR] at h;exact Kk x t j u _ _ _ _ h;rw[aJP] at h;exact wpAny_eqBool_str h
 «strs»:=λk x t v h=>by
  rcases keyIs_shape h with⟨i,u,rfl,e⟩|⟨y,u,rfl,e⟩
  exact nomatch e;injection e with e1 _
  subst e1;cases v <;> rfl
theorem xZ(prog:AB)(w:AV)(i:Int)(t:HQ):(bX prog w).is (.inl i) (.int i t)=true:=aDa i t
theorem yA(prog:AB)(w:AV)(x:Str)(t:HQ):(bX prog w).is (.inr x) (.str x t)=true:=kM x t
inductive V where
 | non|bl (b:Bool)|int (i:Int)|str (x:Str)|byt (b:Array UInt8)|flt (b:UInt64)|ref (a:Addr)|ty (n:String)
 deriving DecidableEq
def bV:V->Value->Prop
 | .non,u=>u=AZ|.bl b,u=>u=Cw b|.int i,u=>∃t,u=BU i t|.str x,u=>∃t,u=Hv x t|.byt b,u=>∃t,u=JN b t|.flt b,u=>∃t,u=JO b t|.ref a,u=>u=Bu a|.ty n,u=>u=DX n
abbrev bJ:List V->List Value->Prop:=Fc bV
theorem bJ.length{xs:List V}{us:List Value}(r:bJ xs us):xs.length=us.length:=Je r
theorem bJ.get:∀{xs:List V} {us:List Value} {i:Nat} {x:V},bJ xs us->xs[i]? = some x->∃u,us[i]? = some u/\bV x u
 | _,_,_,_,.nil,e=>by simp at e|_,_,0,_,.cons r _,e=>by simp at e;subst e;exact⟨_,rfl,r⟩|_,_,i+1,x,.cons _ t,e=>by obtain⟨u,h1,h2⟩:=bJ.get (i:=i) (x:=x) t (by simpa using e);exact⟨u,by simpa using h1,h2⟩
theorem bJ.set(r:bV x u):∀{xs:List V} {us:List Value} (i:Nat),bJ xs us->bJ (xs.set i x) (us.set i u)
 | _,_,_,.nil=>.nil|_,_,0,.cons _ t=>.cons r t|_,_,i+1,.cons q t=>.cons q (bJ.set r i t)
theorem bJ.append:∀{xs B:List V} {us ws:List Value},bJ xs us->bJ B ws->bJ (xs++B) (us++ws)
 | _,_,_,_,.nil,s=>s|_,_,_,_,.cons r t,s=>.cons r (bJ.append t s)
theorem bJ.take:∀{xs:List V} {us:List Value} (n:Nat),bJ xs us->bJ (xs.take n) (us.take n)
 | _,_,0,_=>.nil|_,_,_+1,.nil=>.nil|_,_,n+1,.cons r t=>.cons r (bJ.take n t)
theorem bJ.drop:∀{xs:List V} {us:List Value} (n:Nat),bJ xs us->bJ (xs.drop n) (us.drop n)
 | _,_,0,r=>r|_,_,_+1,.nil=>.nil|_,_,n+1,.cons _ t=>bJ.drop n t
def aEj:Option V->Option Value->Prop
 | some v,some u=>bV v u|none,none=>True|_,_=>False
def KV{κ:Type}:List (κ×V)->List (κ×Value)->Prop:=Fc λ(p:κ×V) (q:κ×Value)=>p.1=q.1/\bV p.2 q.2
def kV:Key->V
 | .inl i=>.int i|.inr x=>.str x
set_option genInjectivity true in
inductive HO where
 | lst (xs:List V)
 | tup (xs:List V)
 | dK (kvs:List (Key×V))|dT (kvs:List (List Key×V))
 | set (S:Int->Bool) (n:Nat)
 | ins (C dx:Addr) (fs:List (Str×V))
 | own (x:Addr)
 | xd (fs:List (Str×V))
 | met (f x:Addr)
 | rng (lo hi:Int)
 | frz (o:Obj) (u:HO)
 | tbl (ps:Array Value)
 | ext (φ:Heap->Prop)
abbrev Hp:=Addr->Option HO
def upd(H:Hp)(a:Addr)(o:HO):Hp:=λb=>if b=a then some o else H b
theorem bE:upd H a o a=some o:=by unfold upd;rw[if_pos rfl]
theorem aP(h:b≠a):upd H a o b=H b:=by unfold upd;rw[if_neg h]
theorem bO{H:Hp}{a b:Addr}{o:HO}(h:H a=some o)(h':H b=none):a≠b:=by intro e;subst e;rw[h] at h';cases h'
section
variable (P:AB) (w:AV)
def eC(H:Hp)(h:Heap)(a:Addr):HO->Prop
 | .lst xs=>xs.length<=sizeLine/\∃(its:List Value) (n:Nat),bJ xs its/\h.get? a=some { cls:=.type "list",data:=.seq its.toArray n }|.tup xs=>xs.length<=sizeLine/\∃its:List Value,bJ xs its/\IsTup h a its.toArray|.dK kvs=>kvs.length<=sizeLine/\(a==DY)=false/\∃vs,KV kvs vs/\h.DictOf (bX P w) a vs|.dT kvs=>kvs.length<=sizeLine/\(a==DY)=false/\∃xs:List (List Key×Addr×Value),
  Fc (λ(p:List Key×V) (q:List Key×Addr×Value)=>p.1=q.1/\H q.2.1=some (.tup (p.1.map kV))/\bV p.2 q.2.2) kvs xs /\
  ∃o es ep,h.get? a=some o/\o.ExactDict/\o.data=.dict es ep/\es.toList=xs.map (entryOfKey (tupleKind (bX P w)))/\(xs.map (·.1)).Nodup
 | .set S n=>h.SetOf (Gn P w) a S n|.ins C dx fs=>H dx=some (.own a)/\fs.length<=1000/\dx≠a/\h.get? a=some (PySem.W.instObj C dx) /\
  ∃mA,h.Ns1 dx mA/\(∀f,aEj (fs.lookup f) (mA f))/\PySem.Within mA (fs.map (·.1))
 | .own _=>∃o,h.get? a=some o|.xd fs=>∃mA,h.Ns1 a mA/\∀f,aEj (fs.lookup f) (mA f)|.rng lo hi=>∃t u v,h.get? a=some { cls:=.type "range",data:=.fields #[.int lo t,.int hi u,.int 1 v] }|.frz o u=>h.get? a=some o/\eC H h a u|.tbl ps=>h.get? a=some { cls:=.none,data:=.fields ps }|.met f x=>h.get? a=some (ET (.ref f) (.ref x))|.ext φ=>φ h/\(∃o,h.get? a=some o)/\∀h1 h2:Heap,φ h1->(∀o,h1.get? a=some o->h2.get? a=some o)->φ h2
def HOk(H:Hp)(h:Heap):Prop:=∀a o,H a=some o->eC P w H h a o
end
theorem eC.lt(x:eC P w H h a o):a<h.objs.size:=by
 cases o with
 | lst xs=>obtain⟨_,_,_,_,e⟩:=x;exact Ag e|tup xs=>obtain⟨_,_,_,p⟩:=x;exact p.lt|dK kvs=>obtain⟨_,_,_,_,o,_,_,e,_⟩:=x;exact Ag e|dT kvs=>obtain⟨_,_,_,_,o,_,_,e,_⟩:=x;exact Ag e|set S n=>obtain⟨o,_,_,_,e,_⟩:=x;exact Ag e|ins C dx fs=>obtain⟨_,_,_,e,_⟩:=x;exact Ag e|own y=>obtain⟨_,e⟩:=x;exact Ag e|xd fs=>obtain⟨_,⟨_,_,_,e,_⟩,_⟩:=x;exact Ag e|rng lo hi=>obtain⟨_,_,_,e⟩:=x;exact Ag e|frz B u=>obtain⟨e,_⟩:=x;exact Ag e|tbl ps=>exact Ag (show h.get? a=some _ from x)|met f y=>exact Ag (show h.get? a=some _ from x)|ext φ=>obtain⟨_,⟨_,e⟩,_⟩:=x;exact Ag e
theorem Paired.mapP{α L:Type}{F G:α->L->Prop}:∀{B:List α} {I:List L},Fc F B I->(∀a b,F a b->G a b)->Fc G B I
 | _,_,.nil,_=>.nil|_,_,.cons r t,f=>.cons (f _ _ r) (Paired.mapP t f)
theorem eC.stay(x:eC P w H h a o)(k:∀b u,(b=a\/H b=some (.own a))->h.get? b=some u->h'.get? b=some u)
 (U:∀b,H b=some (.own a)->H' b=some (.own a)) (W:∀b xs,H b=some (.tup xs)->H' b=some (.tup xs)):eC P w H' h' a o:=by
 induction o with
 | lst xs=>obtain⟨z,G,n,r,e⟩:=x;exact⟨z,G,n,r,k _ _ (.inl rfl) e⟩|tup xs=>obtain⟨z,G,r,B,e,c⟩:=x;exact⟨z,G,r,B,k _ _ (.inl rfl) e,c⟩|dK kvs=>obtain⟨z,y,vs,r,B,es,ep,e,c⟩:=x;exact⟨z,y,vs,r,B,es,ep,k _ _ (.inl rfl) e,c⟩|dT kvs=>obtain⟨z,y,xs,r,B,es,ep,e,c⟩:=x;exact⟨z,y,xs,Paired.mapP r λp q z=>⟨z.1,W _ _ z.2.1,z.2.2⟩,B,es,ep,k _ _ (.inl rfl) e,c⟩|set S n=>obtain⟨B,es,ep,t,e,c⟩:=x;exact⟨B,es,ep,t,k _ _ (.inl rfl) e,c⟩|ins C dx fs=>obtain⟨d,z,ne,e,I,⟨od,es,ep,L,c⟩,r⟩:=x;exact⟨U _ d,z,ne,k _ _ (.inl rfl) e,I,⟨od,es,ep,k _ _ (.inr d) L,c⟩,r⟩|own y=>obtain⟨B,e⟩:=x;exact⟨B,k _ _ (.inl rfl) e⟩|xd fs=>obtain⟨I,⟨od,es,ep,e,c⟩,r⟩:=x;exact⟨I,⟨od,es,ep,k _ _ (.inl rfl) e,c⟩,r⟩|rng lo hi=>obtain⟨t,u,v,e⟩:=x;exact⟨t,u,v,k _ _ (.inl rfl) e⟩|frz B u ih=>obtain⟨e,q⟩:=x;exact⟨k _ _ (.inl rfl) e,ih q⟩|tbl ps=>have e:h.get? a=some { cls:=.none,data:=.fields ps }:=x;show h'.get? a=some { cls:=.none,data:=.fields ps };exact k a _ (.inl rfl) e|met f y=>have e:h.get? a=some (ET (.ref f) (.ref y)):=x;show h'.get? a=some (ET (.ref f) (.ref y));exact k a _ (.inl rfl) e|ext φ=>obtain⟨p,⟨o,e⟩,st⟩:=x;exact⟨st _ _ p λo q=>k _ _ (.inl rfl) q,⟨o,k _ _ (.inl rfl) e⟩,st⟩
theorem HOk.lt(x:HOk P w H h)(e:H a=some o):a<h.objs.size:=(x a o e).lt
theorem HOk.fresh(x:HOk P w H h)(e:h.objs.size<=a):H a=none:=by
 cases q:H a with
 | none=>rfl|some u=>exact absurd (A1 (x.lt q) e) (AU _)
theorem HOk.kept(x:HOk P w H h)(k:∀b u,h.get? b=some u->h'.get? b=some u):HOk P w H h':=λa o e=>(x a o e).stay (λb u _ q=>k b u q) (λ_ q=>q) λ_ _ q=>q
theorem HOk.laid(x:HOk P w H h)(k:∀b u,h.get? b=some u->h'.get? b=some u)(hp:h.objs.size<=a)(new:eC P w (upd H a o) h' a o):HOk P w (upd H a o) h':=λb u e=>by have B:=x.fresh hp;by_cases hb:b=a;subst hb;rw[bE] at e;cases e;exact new;rw[aP hb] at e;exact(x b u e).stay (λc v _ q=>k c v q) (λc q=>by rw[aP (bO q B)];exact q) λc xs q=>by rw[aP (bO q B)];exact q
def Rd(H:Hp)(a:Addr)(u:HO):Prop:=H a=some u\/∃o,H a=some (.frz o u)
theorem Rd.ok(r:Rd H a u)(x:HOk P w H h):eC P w H h a u:=by
 rcases r with r|⟨o,r⟩
 exact x a u r;obtain⟨_,q⟩:=x a _ r;exact q
def Mut:Option HO->Prop
 | some (.lst _)=>True|some (.dK _)=>True|some (.dT _)=>True|some (.set _ _)=>True|some (.ins _ _ _)=>True|some (.ext _)=>True|_=>False
theorem HOk.write(ok:HOk P w H h)(U:Mut (H x))(he:e=x\/H e=some (.own x))(k:∀b u,b≠e->h.get? b=some u->h'.get? b=some u)(W:∃u,h'.get? e=some u)
 (new:eC P w (upd H x o') h' x o'):HOk P w (upd H x o') h':=λb u q=>by
 have G:∀c y,H c=some (.own y)->c≠x:=λc y r z=>by subst z;rw[r] at U;exact U
 have I:∀c xs,H c=some (.tup xs)->c≠x:=λc xs r z=>by subst z;rw[r] at U;exact U
 by_cases hb:b=x;subst hb;rw[bE] at q;cases q;exact new;rw[aP hb] at q;by_cases B:b=e;have q':H b=some (.own x):=by rcases he with z|z;exact absurd (B.trans z) hb;rw[B];exact z
 rw[q] at q';cases q';obtain⟨v,hv⟩:=W;exact⟨v,by rw[B];exact hv⟩;refine(ok b u q).stay (λc v L r=>k c v ?_ r) (λc r=>by rw[aP (G c b r)];exact r) λc xs r=>by rw[aP (I c xs r)];exact r
 rcases L with rfl|L;exact B;rintro rfl;rcases he with z|z;exact G c b L z;rw[L] at z;cases z;exact hb rfl
structure Un (fs ex:List Addr) (H H':Hp) (h h':Heap):Prop where
 keep:∀b o,h.get? b=some o->H b=none->b∉fs->b∉ex->h'.get? b=some o
 slot:∀b o,h.get? b=some o->H b=none->b∈fs->b∉ex->∃sl,h'.get? b=some { o with slots:=sl }
 free:∀b o,h.get? b=some o->H b=none->b∉ex->H' b=none
 there:∀b o,h.get? b=some o->b∉ex->∃o',h'.get? b=some o'
 tups:∀b xs,H b=some (.tup xs)->H' b=some (.tup xs)
 frzs:∀b o u,H b=some (.frz o u)->H' b=some (.frz o u)
 tbls:∀b ps,H b=some (.tbl ps)->∃more,H' b=some (.tbl (ps++more))
theorem Un.any(u:Un fs ex H H1 h h1)(q:h.get? b=some ob)(n:H b=none)(hx:b∉ex):∃sl,h1.get? b=some { ob with slots:=sl }:=by by_cases hb:b∈fs;exact u.slot b ob q n hb hx;exact⟨ob.slots,u.keep b ob q n hb hx⟩
theorem Un.kept(k:∀b u,h.get? b=some u->h'.get? b=some u):Un fs ex H H h h':=
 ⟨λb B q _ _ _=>k b B q,λb B q _ _ _=>⟨B.slots,k b B q⟩,λ_ _ _ n _=>n,λb B q _=>⟨B,k b B q⟩,λ_ _ q=>q,λ_ _ _ q=>q,λ_ ps q=>⟨#[],by rw[q];simp⟩⟩
theorem Un.refl:Un fs ex H H h h:=Un.kept λ_ _ q=>q
theorem Un.laid(k:∀b u,h.get? b=some u->h'.get? b=some u)(hp:h.objs.size<=a)(B:H a=none):Un fs ex H (upd H a o) h h' where
 keep:=λb u q _ _ _=>k b u q
 slot:=λb u q _ _ _=>⟨u.slots,k b u q⟩
 free:=λb u q n _=>by rw[aP (Aw (A1 (Ag q) hp))];exact n
 there:=λb u q _=>⟨u,k b u q⟩
 tups:=λb xs q=>by rw[aP (bO q B)];exact q
 frzs:=λb u xs q=>by rw[aP (bO q B)];exact q
 tbls:=λb ps q=>⟨#[],by rw[aP (bO q B),q];simp⟩
theorem Un.write(G:Mut (H x))(L:e=x\/H e=some (.own x))(k:∀b u,b≠e->h.get? b=some u->h'.get? b=some u)(I:∃u,h'.get? e=some u):Un fs ex H (upd H x o) h h':=by
 have hx:∀b,H b=none->b≠x:=λb n z=>by subst z;rw[n] at G;exact G
 have hb:∀b,H b=none->b≠e:=λb n z=>by subst z;rcases L with r|r;exact hx b n r;rw[n] at r;cases r
 have hm:∀b u,H b=some u->¬ Mut (some u)->b≠x:=λb u q nm z=>by subst z;rw[q] at G;exact nm G
 refine⟨λb u q n _ _=>k b u (hb b n) q,λb u q n _ _=>⟨u.slots,k b u (hb b n) q⟩,λb u q n _=>by rw[aP (hx b n)];exact n,λb u q _=>?_,
  λb xs q=>by rw[aP (hm b _ q λz=>z)];exact q,λb u xs q=>by rw[aP (hm b _ q λz=>z)];exact q,λb ps q=>⟨#[],by rw[aP (hm b _ q λz=>z),q];simp⟩⟩
 by_cases B:b=e;subst B;exact I;exact⟨u,k b u B q⟩
def trk(h:Heap)(H:Hp):List Addr:=(Ap h.objs.size).filter λa=>(H a).isSome
def vP(h:Heap)(H:Hp):Heap:=PySem.W.hideAll h (trk h H)
theorem aDb(h:Heap)(H:Hp):(vP h H).objs.size=h.objs.size:=PySem.W.hideAll_size _ _
theorem aEk{h:Heap}(e:h.get? b=some o)(n:H b=none):(vP h H).get? b=some o:=
 PySem.W.hideAll_get _ e λhm=>by have q:(H b).isSome=true:=(BK.mp hm).2;rw[n] at q;simp at q
theorem aHp{h:Heap}(e:(vP h H).get? b=some o):h.get? b=some o/\H b=none:=by
 have B:h.get? b=some o:=PySem.W.of_hideAll (trk h H) e;refine⟨B,?_⟩;cases q:H b with
 | none=>rfl|some x=>have hm:b∈trk h H:=BK.mpr ⟨B5.mpr (Ag B),by simp[q]⟩;have z:(vP h H).get? b=none:=PySem.W.hideAll_none (trk h H) hm;rw[z] at e;cases e
def aHq(g h:Heap)(L:Addr):List (Addr×Obj):=(Ap h.objs.size).filterMap λa=>if a=L\/(g.get? a).isSome=true then none else (h.get? a).map λo=>(a,o)
def rest(g h:Heap)(L d:Addr):List (Addr×Obj):=(aHq g h L).filter λp=>decide (p.1≠d)
structure Mod (K:Ai) (mg:Str->Option Value) (base:Heap):Prop where
 kin:K.In base
 glob:base.Ns AG mg
 blt:∃mb,base.Ns Fz mb/\∀x:Str,x ≠ "__name__" -> mb x=BA x
 nolimit:base.NoLimit
set_option genInjectivity true in
structure Cx where
 prog:AB
 w:AV
 K:Ai
 mg:Str->Option Value
 base:Heap
 A:B6
 N:List Str
 s₀:Ad
 H₀:Hp
 env:HS
 outer:List HS
 stack:List HS
 ex:List Addr
 fn:Str->Bool
 calm:Bool
 pn:List (Addr×Obj)
 xe:Value->Ad->Prop
def frs(l:List HS):List Addr:=l.filterMap (·.frame)
abbrev Cx.fs(X:Cx):List Addr:=frs X.outer
def Vis(sc:DA)(x:Str):Prop:=sc.names.lookup x=some .local\/sc.names.lookup x=some .cell\/sc.names.lookup x=some .free
def Loc(sc:DA)(x:Str):Prop:=sc.names.lookup x=some .local\/sc.names.lookup x=some .cell
def aPG(env:HS)(h:Heap)(m:Str->Option Value)(x:Str)(u:Value):Prop:=
 (env.kindOf x=some .local/\m x=some u)\/((env.kindOf x=some .cell\/env.kindOf x=some .free)/\∃c,env.cells.lookup x=some c/\h.IsCell c (some u))
structure Cx.Ok (X:Cx):Prop where
 mod:Mod X.K X.mg X.base
 kind:X.env.scope.kind=.function
 glob:X.env.globals=AG
 blt:X.env.builtins=Fz
 above:X.s₀.heap.objs.size<=X.env.locals
 inj:∀x y c,X.env.cells.lookup x=some c->X.env.cells.lookup y=some c->x=y
 has:∀x,(X.env.kindOf x=some .cell\/X.env.kindOf x=some .free)->∃c,X.env.cells.lookup x=some c
 cab:∀x c,X.fn x=true->X.env.cells.lookup x=some c->X.s₀.heap.objs.size<=c
 hd:X.calm=true->X.A.handled=none
 frames:X.A.frames=some X.stack
 stk:X.stack=X.outer\/(X.stack=X.env::X.outer/\X.env.frame=some X.env.locals)
 exf:∀b∈X.ex,b≠X.env.locals/\∀x c,X.env.cells.lookup x=some c->c≠b
 bs:∀b o,X.base.get? b=some o->X.s₀.heap.get? b=some o/\X.H₀ b=none
 bsz:X.base.objs.size<=X.s₀.heap.objs.size
 noex:∀b o,X.base.get? b=some o->b∉X.ex
 exfs:∀b∈X.ex,b∉X.fs
 funs:X.s₀.heap.FunFrames X.base X.outer
 frf:∀b∈X.fs,X.H₀ b=none
structure Inv (X:Cx) (pins:List (Addr×Obj)) (Z:List (Option V)) (H:Hp) (s:Ad):Prop where
 ok:X.Ok
 os:s.os=X.s₀.os
 bare:Ez s.gens
 base:Un X.fs X.ex X.H₀ H X.s₀.heap s.heap
 loc:∃m,s.heap.Ns X.env.locals m/\∀(i:Nat) (x:Str) (v:V),X.N[i]? = some x->Z[i]? = some (some v)->Vis X.env.scope x->∃u,bV v u/\aPG X.env s.heap m x u
 cell:∀x c,X.env.cells.lookup x=some c->∃v,s.heap.IsCell c v
 free:H X.env.locals=none
 freeC:∀x c,X.env.cells.lookup x=some c->H c=none
 pin:∀p∈X.pn++pins,s.heap.get? p.1=some p.2/\H p.1=none/\p.1≠X.env.locals/\p.1∉X.fs/\∀v,p.2.data≠.cell v
 hok:HOk X.prog X.w H s.heap
 len:Z.length=X.N.length
section
variable {X:Cx} {pins:List (Addr×Obj)} {Z:List (Option V)} {H H':Hp} {s:Ad}
theorem Cx.Ok.nofr(ok:X.Ok)(e:X.base.get? b=some o):b∉X.fs:=λhb=>by have:=(ok.funs.mem hb).1;rw[e] at this;cases this
theorem Inv.bs(I:Inv X pins Z H s):∀b o,X.base.get? b=some o->s.heap.get? b=some o/\H b=none:=λb o e=>⟨I.base.keep b o (I.ok.bs b o e).1 (I.ok.bs b o e).2 (I.ok.nofr e) (I.ok.noex b o e),I.base.free b o (I.ok.bs b o e).1 (I.ok.bs b o e).2 (I.ok.noex b o e)⟩
theorem Inv.bk(I:Inv X pins Z H s):∀b o,X.base.get? b=some o->s.heap.get? b=some o:=λb o e=>(I.bs b o e).1
theorem Inv.mod(I:Inv X pins Z H s):Mod X.K X.mg X.base:=I.ok.mod
theorem Inv.kIn(I:Inv X pins Z H s):X.K.In s.heap:=I.ok.mod.kin.keeps I.bk
theorem Inv.lt(I:Inv X pins Z H s):X.env.locals<s.heap.objs.size:=let ⟨_,hn,_⟩:=I.loc;hn.lt
theorem Inv.sz(I:Inv X pins Z H s):X.s₀.heap.objs.size<=s.heap.objs.size:=AJ I.ok.above (DP I.lt)
theorem Inv.nofs(I:Inv X pins Z H s)(h:s.heap.objs.size<=a):a∉X.fs:=λhb=>by obtain⟨_,o,B,_⟩:=I.ok.funs.mem hb;exact absurd (A1 (Ag B) (AJ I.sz h)) (AU _)
theorem Inv.cne(I:Inv X pins Z H s):∀x c,X.env.cells.lookup x=some c->c≠X.env.locals:=λx c e z=>by obtain⟨v,o,L,hd⟩:=I.cell x c e;obtain⟨m,⟨o',es,ep,G,B,_⟩,_⟩:=I.loc;rw[z,G] at L;cases L;rw[B] at hd;cases hd
theorem Inv.funs(I:Inv X pins Z H s):s.heap.FunFrames X.base X.outer:=by
 have all:∀(l:List HS),(∀b∈frs l,b∈X.fs)->X.s₀.heap.FunFrames X.base l->s.heap.FunFrames X.base l:=by
  intro l
  induction l with
  | nil=>intro _ _;trivial|cons env r ih=>intro hs W;obtain⟨U,⟨L,o,G,hn,ho,hd⟩,hr⟩:=W;have B:L∈X.fs:=hs L (by unfold frs;rw[Cp,G];exact Ar);obtain⟨sl,e⟩:=I.base.slot L o ho (I.ok.frf L B) B λz=>I.ok.exfs L z B;exact⟨U,⟨L,_,G,hn,e,hd⟩,ih (λb hb=>hs b (by unfold frs;rw[Cp,G];exact Aj _ hb)) hr⟩
 exact all X.outer (λ_ hb=>hb) I.ok.funs
theorem Inv.stack(I:Inv X pins Z H s):s.heap.FunFrames X.base X.stack:=by
 rcases I.ok.stk with e|⟨e,B⟩
 rw[e];exact I.funs;rw[e];obtain⟨m,G,_⟩:=I.loc;refine .cons (by rw[I.ok.kind];decide) B G ?_ I.funs;exact Ej (AJ I.ok.bsz I.ok.above)
theorem Inv.stkSub(I:Inv X pins Z H s):∀b∈frs X.stack,b∈X.env.locals::X.fs:=λb hb=>by
 rcases I.ok.stk with e|⟨e,B⟩
 rw[e] at hb;exact Aj _ hb;rw[e] at hb;unfold frs at hb;rw[Cp,B] at hb;exact hb
theorem Inv.stkFree(I:Inv X pins Z H s):∀b∈frs X.stack,H b=none:=λb hb=>by rcases As.mp (I.stkSub b hb) with e|hb;rw[e];exact I.free;obtain⟨_,o,B,_⟩:=I.ok.funs.mem hb;exact I.base.free b o B (I.ok.frf b hb) λz=>I.ok.exfs b z hb
theorem Inv.step{g':Array Ek}{t':Nat}{d':Ky}{ch:List Addr}(I:Inv X pins Z H s)
 (G:∀b∈ch,(b∈X.ex\/X.s₀.heap.objs.size<=b)/\b≠X.env.locals/\(∀x c,X.env.cells.lookup x=some c->c≠b)/\∀p∈X.pn++pins,p.1≠b)
 (keep:∀b o,b≠X.env.locals->b∉X.fs->b∉ch->s.heap.get? b=some o->H b=none->h'.get? b=some o)
 (slot:∀b o,b≠X.env.locals->b∈X.fs->b∉ch->s.heap.get? b=some o->H b=none->∃sl,h'.get? b=some { o with slots:=sl }) (free:∀b o,b∉ch->s.heap.get? b=some o->H b=none->H' b=none)
 (there:∀b o,b∉ch->s.heap.get? b=some o->∃o',h'.get? b=some o')
 (tups:∀b xs,H b=some (.tup xs)->H' b=some (.tup xs)) (frzs:∀b o u,H b=some (.frz o u)->H' b=some (.frz o u)) (tbls:∀b ps,H b=some (.tbl ps)->∃more,H' b=some (.tbl (ps++more)))
 (ns:∀m,s.heap.Ns X.env.locals m->h'.Ns X.env.locals m) (hok:HOk X.prog X.w H' h') (hg:Ez g') :
 Inv X pins Z H' { s with heap:=h',gens:=g',drawn:=d',toks:=t' }:=by
 have q0:∀b o,X.s₀.heap.get? b=some o->b≠X.env.locals:=λb o e=>Aw (A1 (Ag e) I.ok.above);have W:∀b o,X.s₀.heap.get? b=some o->b∉X.ex->b∉ch:=λb o e hx hb=>by rcases(G b hb).1 with z|z;exact hx z;exact absurd (A1 (Ag e) z) (AU _)
 have B:∀x c,X.env.cells.lookup x=some c->∀v,s.heap.IsCell c v->h'.IsCell c v:=λx c e v ⟨o,ho,hd⟩=>by have L:c∉ch:=λz=>(G c z).2.2.1 x c e rfl;by_cases hc:c∈X.fs;obtain⟨sl,q⟩:=slot c o (I.cne x c e) hc L ho (I.freeC x c e);exact⟨_,q,hd⟩;exact⟨o,keep c o (I.cne x c e) hc L ho (I.freeC x c e),hd⟩
 refine⟨I.ok,I.os,hg,⟨λb o e n hb hx=>?_,λb o e n hb hx=>?_,λb o e n hx=>?_,λb o e hx=>?_,λb xs e=>tups b xs (I.base.tups b xs e),λb o xs e=>frzs b o xs (I.base.frzs b o xs e),λb ps e=>?_⟩,?_,λx c e=>?_,?_,λx c e=>?_,λp hp=>?_,hok,I.len⟩;exact keep b o (q0 b o e) hb (W b o e hx) (I.base.keep b o e n hb hx) (I.base.free b o e n hx);obtain⟨sl,U⟩:=I.base.slot b o e n hb hx;obtain⟨q1,e2⟩:=slot b _ (q0 b o e) hb (W b o e hx) U (I.base.free b o e n hx);exact⟨q1,e2⟩;obtain⟨o',U⟩:=I.base.there b o e hx;exact free b o' (W b o e hx) U (I.base.free b o e n hx);obtain⟨o',U⟩:=I.base.there b o e hx;exact there b o' (W b o e hx) U;obtain⟨m1,U⟩:=I.base.tbls b ps e;obtain⟨m2,e2⟩:=tbls b _ U;exact⟨m1++m2,by rw[e2,Array.append_assoc]⟩;obtain⟨m,hn,hl⟩:=I.loc;refine⟨m,ns m hn,λi x v U e2 e3=>?_⟩;obtain⟨u,r,l⟩:=hl i x v U e2 e3;refine⟨u,r,?_⟩;rcases l with l|⟨k,c,e,z⟩
 exact .inl l;exact .inr ⟨k,c,e,B x c e _ z⟩;obtain⟨v,z⟩:=I.cell x c e;exact⟨v,B x c e v z⟩;obtain⟨m,⟨o,_,_,ho,_⟩,_⟩:=I.loc;exact free _ o (λz=>(G _ z).2.1 rfl) ho I.free;obtain⟨v,o,ho,hd⟩:=I.cell x c e;exact free c o (λz=>(G c z).2.2.1 x c e rfl) ho (I.freeC x c e);obtain⟨e,n,ne,nf,d⟩:=I.pin p hp;have L:p.1∉ch:=λz=>(G p.1 z).2.2.2 p hp rfl;exact⟨keep p.1 p.2 ne nf L e n,free p.1 p.2 L e n,ne,nf,d⟩
theorem Inv.un{t':Nat}(I:Inv X pins Z H s)(u:Un X.fs [] H H' s.heap h')(hok:HOk X.prog X.w H' h'):Inv X pins Z H' { s with heap:=h',toks:=t' }:=by
 obtain⟨m,⟨o,es,ep,U,r⟩,_⟩:=id I.loc;obtain⟨sl,W⟩:=u.any U I.free (by simp);exact I.step (g':=s.gens) (d':=s.drawn) (ch:=[]) (λ_ z=>nomatch z) (λb o _ hb _ e n=>u.keep b o e n hb (by simp)) (λb o _ hb _ e n=>u.slot b o e n hb (by simp)) (λb o _ e n=>u.free b o e n (by simp)) (λb o _ e=>u.there b o e (by simp)) u.tups u.frzs u.tbls (λm' hm=>by
  obtain⟨o',L,G,B,r'⟩:=hm;rw[U] at B;cases B;exact⟨_,L,G,W,r'⟩) hok I.bare
theorem Inv.call{g':Array Ek}{t':Nat}{d':Ky}{ch:List Addr}(I:Inv X pins Z H s)(u:Un (frs X.stack) ch H H' s.heap h')(hok:HOk X.prog X.w H' h')(hg:Ez g')
 (G:∀b∈ch,(b∈X.ex\/X.s₀.heap.objs.size<=b)/\b≠X.env.locals/\(∀x c,X.env.cells.lookup x=some c->c≠b)/\∀p∈X.pn++pins,p.1≠b) :
 Inv X pins Z H' { s with heap:=h',gens:=g',drawn:=d',toks:=t' }:=by
 obtain⟨m,⟨o,es,ep,ho,r⟩,_⟩:=id I.loc;obtain⟨sl,hL⟩:=u.any ho I.free λz=>(G _ z).2.1 rfl;exact I.step (ch:=ch) G (λb o hL hb B e n=>u.keep b o e n (λz=>(As.mp (I.stkSub b z)).elim hL hb) B) (λb o _ _ B e n=>u.any e n B) (λb o B e n=>u.free b o e n B) (λb o B e=>u.there b o e B) u.tups u.frzs u.tbls (λm' hm=>by
  obtain⟨o',W,U,L,r'⟩:=hm;rw[ho] at L;cases L;exact⟨_,W,U,hL,r'⟩) hok hg
theorem Inv.turned{t':Nat}{it:Addr}(I:Inv X pins Z H s)(k:∀b o,b≠it->s.heap.get? b=some o->h'.get? b=some o)(W:H it=none)(L:it≠X.env.locals)
 (h1:it∈X.ex\/X.s₀.heap.objs.size<=it) (h2:∀x c,X.env.cells.lookup x=some c->c≠it) (U:∀p∈X.pn++pins,p.1≠it):Inv X pins Z H { s with heap:=h',toks:=t' }:=by
 have G:∀b u,H b=some u->b≠it:=λb u e z=>by rw[z,W] at e;cases e
 refine I.step (g':=s.gens) (d':=s.drawn) (ch:=[it]) (λb hb=>?_) (λb o _ _ B e _=>k b o (λz=>B (by simp[z])) e) (λb o _ _ B e _=>⟨o.slots,k b o (λz=>B (by simp[z])) e⟩) (λ_ _ _ _ n=>n)
  (λb o B e=>⟨o,k b o (λz=>B (by simp[z])) e⟩) (λ_ _ e=>e) (λ_ _ _ e=>e) (λb ps e=>⟨#[],by rw[e];simp⟩) (λm hm=>?_) (λb u e=>?_) I.bare
 have e:b=it:=by simpa using hb
 subst e;exact⟨h1,L,h2,U⟩;obtain⟨o,es,ep,ho,r⟩:=hm;exact⟨o,es,ep,k _ o (BQ L) ho,r⟩;refine(I.hok b u e).stay (λc v B q=>k c v ?_ q) (λ_ q=>q) λ_ _ q=>q;rcases B with z|z;rw[z];exact G b u e;exact G c _ z
theorem Inv.tok(I:Inv X pins Z H s)(t:Nat):Inv X pins Z H { s with toks:=t }:=I.un (h':=s.heap) (t':=t) Un.refl I.hok
theorem Inv.kept{t':Nat}(I:Inv X pins Z H s)(k:∀b u,s.heap.get? b=some u->h'.get? b=some u):Inv X pins Z H { s with heap:=h',toks:=t' }:=I.un (Un.kept k) (I.hok.kept k)
theorem Inv.laid{t':Nat}(I:Inv X pins Z H s)(k:∀b u,s.heap.get? b=some u->h'.get? b=some u)(hp:s.heap.objs.size<=a)(new:eC X.prog X.w (upd H a o) h' a o) :
 Inv X pins Z (upd H a o) { s with heap:=h',toks:=t' }:=I.un (Un.laid k hp (I.hok.fresh hp)) (I.hok.laid k hp new)
theorem Inv.write{t':Nat}(I:Inv X pins Z H s)(L:Mut (H x))(G:e=x\/H e=some (.own x))(k:∀b u,b≠e->s.heap.get? b=some u->h'.get? b=some u)(B:∃u,h'.get? e=some u)
 (new:eC X.prog X.w (upd H x o) h' x o):Inv X pins Z (upd H x o) { s with heap:=h',toks:=t' }:=I.un (Un.write L G k B) (I.hok.write L G k B new)
theorem Inv.pins_of(I:Inv X pins Z H s)(h:∀p∈pins',s.heap.get? p.1=some p.2/\H p.1=none/\p.1≠X.env.locals/\p.1∉X.fs/\∀v,p.2.data≠.cell v):Inv X pins' Z H s:=
 ⟨I.ok,I.os,I.bare,I.base,I.loc,I.cell,I.free,I.freeC,λp hp=>(B8.mp hp).elim (λz=>I.pin p (Bc _ z)) (h p),I.hok,I.len⟩
theorem qP{N:List Str}(I:N.Nodup){i j:Nat}{x:Str}(a:N[i]? = some x)(b:N[j]? = some x):i=j:=by obtain⟨h1,B⟩:=Ax.mp a;obtain⟨h2,G⟩:=Ax.mp b;exact(List.getElem_inj I).mp (B.trans G.symm)
theorem tS{M:Model}{A:B6}{E:Value->Ad->Prop}{i:Nat}{x:Str}{v:V}{u:Value}{Q:Unit->Ad->Prop}(I:Inv X pins Z H s)(hN:X.N.Nodup)(hi:X.N[i]? = some x)(hx:Loc X.env.scope x)(r:bV v u)
 (h:∀s',Inv X pins (Z.set i (some v)) H s'->(∃a,Cc a s.heap s'.heap/\(a=X.env.locals\/X.env.cells.lookup x=some a))->Q () s') (hf:X.fn x=true\/X.env.scope.names.lookup x=some .local:=by first|exact .inl rfl|exact .inr rfl|assumption):An M A (storeName X.env x u) Q E s:=by
 obtain⟨m,hn,hl⟩:=id I.loc;have q3:(X.env.scope.kind==.class||(X.env.scope.kind==.module&&X.env.locals != X.env.globals))=false:=by rw[I.ok.kind];rfl
 have q4:i<Z.length:=by rw[I.len];exact(Ax.mp hi).1
 have cne:=I.cne;have G:∀{a:Addr} {h':Heap},(∃o,s.heap.get? a=some o/\H a=none)->Cc a s.heap h'->HOk X.prog X.w H h':=λ{a h'} ha hs b ob e=>by obtain⟨_,_,U⟩:=ha;refine(I.hok b ob e).stay (λc w' L q=>(hs.2 c ?_).trans q) (λ_ q=>q) λ_ _ q=>q;rintro rfl;rcases L with rfl|L;rw[U] at e;cases e;rw[U] at L;cases L
 rcases hx with hk|hk;refine wpAny_storeName_local hk hn (λh' q7 hs=>?_) q3;obtain⟨oL,_,_,q8,_⟩:=id hn;refine h _ ⟨I.ok,I.os,I.bare,⟨λb o e n hb hx=>?_,λb o e n hb hx=>?_,I.base.free,λb o e hx=>?_,I.base.tups,I.base.frzs,I.base.tbls⟩,⟨_,q7,λj y v' B W e3=>?_⟩,λy c e=>?_,I.free,I.freeC,λp hp=>?_,G ⟨oL,q8,I.free⟩ hs,by simpa using I.len⟩ ⟨_,hs,.inl rfl⟩;exact(hs.2 b (Aw (A1 (Ag e) I.ok.above))).trans (I.base.keep b o e n hb hx);obtain⟨sl,B⟩:=I.base.slot b o e n hb hx;exact⟨sl,(hs.2 b (Aw (A1 (Ag e) I.ok.above))).trans B⟩;obtain⟨o',B⟩:=I.base.there b o e hx;exact⟨o',(hs.2 b (Aw (A1 (Ag e) I.ok.above))).trans B⟩;by_cases hj:j=i;subst hj;rw[hi] at B;cases B;rw[AK q4] at W;cases W;exact⟨u,r,.inl ⟨hk,by simp⟩⟩;rw[Au (BQ hj)] at W;obtain⟨u',r',q⟩:=hl j y v' B W e3;refine⟨u',r',?_⟩;rcases q with⟨k,e⟩|⟨k,c,e,z⟩
 refine .inl ⟨k,?_⟩;have:y≠x:=λe=>hj (qP hN B (e▸hi));simp[this,e];exact .inr ⟨k,c,e,z.sameBut hs (cne y c e)⟩;obtain⟨w',z⟩:=I.cell y c e;exact⟨w',z.sameBut hs (cne y c e)⟩;obtain⟨e,n,ne,nf,d⟩:=I.pin p hp;exact⟨(hs.2 p.1 ne).trans e,n,ne,nf,d⟩;have q0:X.fn x=true:=by rcases hf with z|z;exact z;rw[z] at hk;cases hk
 obtain⟨c,L⟩:=I.ok.has x (.inl hk);obtain⟨w',z⟩:=I.cell x c L;refine wpAny_storeName_cell I.ok.kind hk L z (λh' q1 hs=>?_);obtain⟨oc,q5,q6⟩:=id z;refine h { s with heap:=h' } ⟨I.ok,I.os,I.bare,⟨λb o e n hb hx=>?_,λb o e n hb hx=>?_,I.base.free,λb o e hx=>?_,I.base.tups,I.base.frzs,I.base.tbls⟩,⟨m,hn.sameBut hs (BQ (cne x c L)),λj y v' B W e3=>?_⟩,λy c' e=>?_,I.free,I.freeC,λp hp=>?_,G ⟨oc,q5,I.freeC x c L⟩ hs,by simpa using I.len⟩ ⟨c,hs,.inr L⟩;exact(hs.2 b (Aw (A1 (Ag e) (I.ok.cab x c q0 L)))).trans (I.base.keep b o e n hb hx);obtain⟨sl,B⟩:=I.base.slot b o e n hb hx;exact⟨sl,(hs.2 b (Aw (A1 (Ag e) (I.ok.cab x c q0 L)))).trans B⟩;obtain⟨o',B⟩:=I.base.there b o e hx;exact⟨o',(hs.2 b (Aw (A1 (Ag e) (I.ok.cab x c q0 L)))).trans B⟩;by_cases hj:j=i;subst hj;rw[hi] at B;cases B;rw[AK q4] at W;cases W;exact⟨u,r,.inr ⟨.inl hk,c,L,q1⟩⟩;rw[Au (BQ hj)] at W;obtain⟨u',r',q⟩:=hl j y v' B W e3;refine⟨u',r',?_⟩;rcases q with q|⟨k,c',e,z'⟩
 exact .inl q;refine .inr ⟨k,c',e,z'.sameBut hs ?_⟩;rintro rfl;exact hj (qP hN B (I.ok.inj _ _ _ e L▸hi));by_cases q2:c'=c;subst q2;exact⟨_,q1⟩;obtain⟨w2,z2⟩:=I.cell y c' e;exact⟨w2,z2.sameBut hs q2⟩;obtain⟨e,n,ne,nf,d⟩:=I.pin p hp;refine⟨(hs.2 p.1 ?_).trans e,n,ne,nf,d⟩;intro q;rw[q,q5] at e;have q':oc=p.2:=Aq e;exact d w' (by rw[<-q'];exact q6)
theorem mM{E:Value->Ad->Prop}{Q:Unit->Ad->Prop}(I:Inv X pins Z H s)(L:X.N.Nodup)(hi:X.N[i]? = some x)(hx:Loc X.env.scope x)(r:bV v u)
 (h:∀B,Inv X pins (Z.set i (some v)) H B->Q () B) (U:X.fn x=true\/X.env.scope.names.lookup x=some .local:=by first|exact .inl rfl|exact .inr rfl|assumption):An M A (storeName X.env x u) Q E s:=
 tS I L hi hx r (λB G _=>h B G) U
theorem Inv.call'{B:Ad}(I:Inv X pins Z H s)(U:B.os=s.os)(u:Un (frs X.stack) ch H H' s.heap B.heap)(hok:HOk X.prog X.w H' B.heap)(L:Ez B.gens)
 (G:∀b∈ch,(b∈X.ex\/X.s₀.heap.objs.size<=b)/\b≠X.env.locals/\(∀x c,X.env.cells.lookup x=some c->c≠b)/\∀p∈X.pn++pins,p.1≠b):Inv X pins Z H' B:=by obtain⟨h',g',d',t',o'⟩:=B;have e:o'=s.os:=U;subst e;exact I.call (g':=g') (t':=t') (d':=d') u hok L G
end
abbrev XK:=Value->Option Addr->Hp->Prop
abbrev St:=List (Option V)
abbrev VK:=V->Hp->Prop
abbrev TE:=St->Hp->VK->Prop
abbrev TT:=St->Hp->(Bool->Hp->Prop)->Prop
abbrev TA:=St->Hp->(List V->Hp->Prop)->Prop
structure Ends where
 nx:St->Hp->Prop
 rt:VK
 bk:St->Hp->Prop:=λ_ _=>False
 ct:St->Hp->Prop:=λ_ _=>False
abbrev TS:=Ends->St->Hp->Prop
def EP(X:Cx)(pins:List (Addr×Obj))(Z:St)(Q:VK)(u:Value)(s':Ad):Prop:=∃v H',Inv X pins Z H' s'/\bV v u/\Q v H'
def TP(X:Cx)(pins:List (Addr×Obj))(Z:St)(Q:Bool->Hp->Prop)(b:Bool)(s':Ad):Prop:=∃H',Inv X pins Z H' s'/\Q b H'
def AP(X:Cx)(pins:List (Addr×Obj))(Z:St)(Q:List V->Hp->Prop)(us:List Value)(s':Ad):Prop:=∃vs H',Inv X pins Z H' s'/\bJ vs us/\Q vs H'
def SP(X:Cx)(pins:List (Addr×Obj))(D:Ends)(f:Flow)(s':Ad):Prop:=
 match f with
 | .next=>∃Z' H',Inv X pins Z' H' s'/\D.nx Z' H'|.brk=>∃Z' H',Inv X pins Z' H' s'/\D.bk Z' H'|.cont=>∃Z' H',Inv X pins Z' H' s'/\D.ct Z' H'|.ret u=>∃v Z' H',Inv X pins Z' H' s'/\bV v u/\D.rt v H'
def PE(X:Cx)(e:AE)(t:TE):Prop:=
 ∀(pins:List (Addr×Obj)) (s:Ad) (Z:St) (H:Hp) (Q:VK),Inv X pins Z H s->t Z H Q->An (Ay X.prog X.w) X.A (De e X.env) (EP X pins Z Q) X.xe s
def PT(X:Cx)(e:AE)(t:TT):Prop:=
 ∀(pins:List (Addr×Obj)) (s:Ad) (Z:St) (H:Hp) (Q:Bool->Hp->Prop),Inv X pins Z H s->t Z H Q->An (Ay X.prog X.w) X.A (Iu e X.env (De e X.env)) (TP X pins Z Q) X.xe s
def PW(X:Cx)(e:AE)(t:TT):Prop:=
 ∀(whole:Kz Value) (pins:List (Addr×Obj)) (s:Ad) (Z:St) (H:Hp) (Q:Bool->Hp->Prop),Inv X pins Z H s->t Z H Q->An (Ay X.prog X.w) X.A (Iu e X.env whole) (TP X pins Z Q) X.xe s
theorem PW.pt(h:PW X e t):PT X e t:=h _
def PA(X:Cx)(es:List AE)(t:TA):Prop:=
 ∀(pos:Ht) (pins:List (Addr×Obj)) (s:Ad) (Z:St) (H:Hp) (Q:List V->Hp->Prop),Inv X pins Z H s->t Z H Q->An (Ay X.prog X.w) X.A (K0 (DZ pos (AW es X.env))) (AP X pins Z Q) X.xe s
def PS(X:Cx)(st:Cj)(t:TS):Prop:=
 ∀(pins:List (Addr×Obj)) (s:Ad) (Z:St) (H:Hp) (D:Ends),Inv X pins Z H s->t D Z H->An (Ay X.prog X.w) X.A (exec st X.env) (SP X pins D) X.xe s
def PSs(X:Cx)(st:List Cj)(t:TS):Prop:=
 ∀(pins:List (Addr×Obj)) (s:Ad) (Z:St) (H:Hp) (D:Ends),Inv X pins Z H s->t D Z H->An (Ay X.prog X.w) X.A (execs st X.env) (SP X pins D) X.xe s
theorem thn{α:Type}{t:Kz α}{Q B:α->Ad->Prop}{M:Model}{A:B6}{E:Value->Ad->Prop}{s:Ad}(h:An M A t Q E s)(G:∀a s,Q a s->B a s):An M A t B E s:=Bk h G λ_ _ x=>x
section
variable {X:Cx}
def aAB(i:Nat):TE:=λZ H Q=>∃v,Z[i]? = some (some v)/\Q v H
def tC(v:V):TE:=λ_ H Q=>Q v H
theorem nZ(hN:X.N[i]? = some x)(hv:Vis X.env.scope x)(hd:(x==("__debug__" : Str))=false:=by decide)(U:(x==("__classdict__" : Str))=false:=by decide):PE X (.Name x pos) (aAB i):=by
 intro pins s Z H Q I h;obtain⟨v,e,h⟩:=h;obtain⟨m,hn,hl⟩:=I.loc;obtain⟨u,r,l⟩:=hl i x v hN e hv;have G:EP X pins Z Q u s:=⟨v,H,I,r,h⟩
 rcases l with⟨L,hm⟩|⟨L,c,W,B⟩
 exact Iv (wpAny_loadName_local I.ok.kind L hn hm G) hd;rcases L with L|L;exact Iv (wpAny_loadName_cell I.ok.kind L W B G) hd;exact Iv (wpAny_loadName_free I.ok.kind L W B G U) hd
theorem aEl{i j pos}:PE X (.Constant (.int i) j pos) (tC (.int i)):=λ_ _ _ H _ I h=>wpAny_Constant_int ⟨.int i,H,I.tok _,⟨_,rfl⟩,h⟩
theorem aMF{b j pos}:PE X (.Constant (.bool b) j pos) (tC (.bl b)):=λ_ _ _ H _ I h=>Constant_bool ⟨.bl b,H,I,rfl,h⟩
theorem aJS{j pos}:PE X (.Constant .none j pos) (tC .non):=λ_ _ _ H _ I h=>Constant_none ⟨.non,H,I,rfl,h⟩
theorem aJT{x j pos}:PE X (.Constant (.str x) j pos) (tC (.str x)):=λ_ _ _ H _ I h=>Calls.Constant_str ⟨.str x,H,I.tok _,⟨_,rfl⟩,h⟩
def Gl(X:Cx)(x:Str):Prop:=X.env.kindOf x=some .globalImplicit
theorem kN{E:Value->Ad->Prop}{Q:Value->Ad->Prop}(I:Inv X pins Z H s)(B:Gl X x)(hm:X.mg x=some u)(h:Q u s)
 (hd:(x==("__debug__" : Str))=false:=by decide):An (Ay X.prog X.w) X.A (De (.Name x pos) X.env) Q E s:=
 E7 I.ok.kind B (Calls.loadGlobal_global (by rw[I.ok.glob];exact I.mod.glob.keeps I.bk) hm h) hd
theorem eI{E:Value->Ad->Prop}{Q:Value->Ad->Prop}(I:Inv X pins Z H s)(B:Gl X x)(hm:X.mg x=none)(L:BA x=some u)(h:Q u s)
 (G:x ≠ "__name__" := by decide) (hd:(x==("__debug__" : Str))=false:=by decide):An (Ay X.prog X.w) X.A (De (.Name x pos) X.env) Q E s:=by obtain⟨mb,h1,h2⟩:=I.mod.blt;exact E7 I.ok.kind B (Calls.loadGlobal_builtin (by rw[I.ok.glob];exact I.mod.glob.keeps I.bk) hm (by rw[I.ok.blt];exact h1.keeps I.bk) ((h2 x G).trans L) h) hd
theorem pU(B:Gl X x)(hm:X.mg x=some u)(r:bV v u)(hd:(x==("__debug__" : Str))=false:=by decide):PE X (.Name x pos) (tC v):=
 λ_ _ _ H _ I h=>kN I B hm ⟨v,H,I,r,h⟩ hd
theorem aHr(B:Gl X x)(hm:X.mg x=none)(L:BA x=some u)(r:bV v u)(G:x ≠ "__name__" := by decide)(hd:(x==("__debug__" : Str))=false:=by decide):PE X (.Name x pos) (tC v):=
 λ_ _ _ H _ I h=>eI I B hm L ⟨v,H,I,r,h⟩ G hd
variable {a b:AE} {ta tb:TE} {pos:Ht}
variable {tA tB':TT} {rest:List AE}
def aPH(t u:TT):TT:=λZ H Q=>t Z H λc H1=>if c=true then u Z H1 Q else Q false H1
def tOr(t u:TT):TT:=λZ H Q=>t Z H λc H1=>if c=true then Q true H1 else u Z H1 Q
def aPI(t:TT):TT:=λZ H Q=>t Z H λc H1=>Q (!c) H1
theorem aHs(B:PT X a tA):PW X (.BoolOp .And [a] pos) tA:=by
 intro G pins s Z H Q I h;refine isTrue_and (thn (B pins s Z H Q I h) λc s1 e=>?_);cases c with
 | true=>exact isTrue_and_nil e|false=>exact e
theorem aJU(B:PT X a tA):PW X (.BoolOp .Or [a] pos) tA:=by
 intro G pins s Z H Q I h;refine isTrue_or (thn (B pins s Z H Q I h) λc s1 e=>?_);cases c with
 | false=>exact isTrue_or_nil e|true=>exact e
theorem aJV(L:PT X a tA)(hb:PW X (.BoolOp .And (b::rest) pos) tB'):PW X (.BoolOp .And (a::b::rest) pos) (aPH tA tB'):=by
 intro U pins s Z H Q I h;refine isTrue_and (thn (L pins s Z H _ I h) λc s1 ⟨H1,B,G⟩=>?_);cases c with
 | true=>exact hb U pins s1 Z H1 Q B G|false=>exact⟨H1,B,G⟩
theorem aMG(L:PT X a tA)(hb:PW X (.BoolOp .Or (b::rest) pos) tB'):PW X (.BoolOp .Or (a::b::rest) pos) (tOr tA tB'):=by
 intro U pins s Z H Q I h;refine isTrue_or (thn (L pins s Z H _ I h) λc s1 ⟨H1,B,G⟩=>?_);cases c with
 | true=>exact⟨H1,B,G⟩|false=>exact hb U pins s1 Z H1 Q B G
theorem aJW(B:PT X a tA):PT X (.UnaryOp .Not a pos) (aPI tA):=by intro pins s Z H Q I h;exact isTrue_not (B pins s Z H (λc H1=>Q (!c) H1) I h)
def aMH(ta tb:TE):TE:=λZ H Q=>ta Z H λx H1=>∃c,x=.bl c/\if c=true then tb Z H1 Q else Q (.bl false) H1
def aPJ(ta tb:TE):TE:=λZ H Q=>ta Z H λx H1=>∃c,x=.bl c/\if c=true then Q (.bl true) H1 else tb Z H1 Q
theorem aEm{op}(h:PE X a t):PE X (.BoolOp op [a] pos) t:=λpins s Z H Q I B=>BoolOp_one (h pins s Z H Q I B)
theorem aJX(L:PE X a ta)(hb:PE X (.BoolOp .And (b::rest) pos) tb):PE X (.BoolOp .And (a::b::rest) pos) (aMH ta tb):=by
 intro pins s Z H Q I h;refine BoolOp_and (thn (L pins s Z H _ I h) λv s1 ⟨x,H1,G,U,B⟩=>?_);obtain⟨c,rfl,B⟩:=B;cases U;refine BF ?_;cases c with
 | true=>exact hb pins s1 Z H1 Q G B|false=>exact⟨.bl false,H1,G,rfl,B⟩
theorem aMI(L:PE X a ta)(hb:PE X (.BoolOp .Or (b::rest) pos) tb):PE X (.BoolOp .Or (a::b::rest) pos) (aPJ ta tb):=by
 intro pins s Z H Q I h;refine BoolOp_or (thn (L pins s Z H _ I h) λv s1 ⟨x,H1,G,U,B⟩=>?_);obtain⟨c,rfl,B⟩:=B;cases U;refine BF ?_;cases c with
 | false=>exact hb pins s1 Z H1 Q G B|true=>exact⟨.bl true,H1,G,rfl,B⟩
def tIf(t:TT)(ta tb:TE):TE:=λZ H Q=>t Z H λc H1=>if c=true then ta Z H1 Q else tb Z H1 Q
theorem aEn(U:PT X c tA)(L:PE X a ta)(hb:PE X b tb):PE X (.IfExp c a b pos) (tIf tA ta tb):=by
 intro pins s Z H Q I h;refine wpAny_IfExp (thn (U pins s Z H _ I h) λd s1 ⟨H1,B,G⟩=>?_);cases d with
 | true=>exact L pins s1 Z H1 Q B G|false=>exact hb pins s1 Z H1 Q B G
end
def SqL(K:Ai)(H:Hp)(a:Addr)(xs:List V):Prop:=
 Rd H a (.lst xs) \/
  ∃(o:Obj) (its:Array Value) (n:Nat),K.lookup a=some o/\o.cls=.type "list" /\ o.dict=none/\o.data=.seq its n/\its.size<=sizeLine/\bJ xs its.toList
def SqT(K:Ai)(H:Hp)(a:Addr)(xs:List V):Prop:=
 Rd H a (.tup xs) \/
  ∃(o:Obj) (its:Array Value) (n:Nat),K.lookup a=some o/\o.cls=.type "tuple" /\ o.data=.seq its n/\its.size<=sizeLine/\bJ xs its.toList
noncomputable def aPK:Value->Option V
 | .none=>some .non|.bool b=>some (.bl b)|.int i _=>some (.int i)|.str x _=>some (.str x)|.bytes b _=>some (.byt b)|.float b _=>some (.flt b)|.ref a=>some (.ref a)|.type n=>some (.ty n)|_=>none
theorem bV.abs(r:bV x u):aPK u=some x:=by
 cases x with
 | non=>cases r;rfl|bl _=>cases r;rfl|int _=>obtain⟨t,rfl⟩:=r;rfl|str _=>obtain⟨t,rfl⟩:=r;rfl|byt _=>obtain⟨t,rfl⟩:=r;rfl|flt _=>obtain⟨t,rfl⟩:=r;rfl|ref _=>cases r;rfl|ty _=>cases r;rfl
theorem bV.inj(r:bV x u)(q:bV y u):x=y:=Aq (r.abs.symm.trans q.abs)
theorem bJ.inj:∀{xs B:List V} {us:List Value},bJ xs us->bJ B us->xs=B
 | _,_,_,.nil,.nil=>rfl|_,_,_,.cons r t,.cons r' t'=>by rw[r.inj r',bJ.inj t t']
theorem SqL.of{K:Ai}(h:H a=some (.lst xs)):SqL K H a xs:=.inl (.inl h)
theorem SqT.of{K:Ai}(h:H a=some (.tup xs)):SqT K H a xs:=.inl (.inl h)
theorem Inv.list(I:Inv X pins Z H s)(h:SqL X.K H a xs):∃B:List Value,bJ xs B/\PlainL s.heap a B.toArray/\xs.length<=sizeLine:=by
 rcases h with h|⟨o,B,n,L,G,hd,hs,U,r⟩
 obtain⟨z,B,n,r,e⟩:=h.ok I.hok;exact⟨B,r,⟨_,n,e,rfl,rfl,rfl⟩,z⟩;refine⟨B.toList,r,⟨o,n,I.kIn a o L,G,hd,by simpa using hs⟩,?_⟩;have e:=r.length;simp only[Bj] at e;omega
theorem Inv.tuple(I:Inv X pins Z H s)(h:SqT X.K H a xs):∃B:List Value,bJ xs B/\IsTup s.heap a B.toArray/\xs.length<=sizeLine:=by
 rcases h with h|⟨o,B,n,L,G,hs,U,r⟩
 obtain⟨z,B,r,p⟩:=h.ok I.hok;exact⟨B,r,p,z⟩;refine⟨B.toList,r,⟨o,I.kIn a o L,G,n,by simpa using hs⟩,?_⟩;have e:=r.length;simp only[Bj] at e;omega
theorem Inv.list_inj(I:Inv X pins Z H s)(h:SqL X.K H a xs)(h':SqL X.K H a ys):xs=ys:=by
 obtain⟨B,r,⟨o,n,e,_,_,d⟩,_⟩:=I.list h;obtain⟨its',L,⟨o',U,G,_,_,d'⟩,_⟩:=I.list h';rw[e] at G;cases G;rw[d] at d';injection d' with d1 _
 have:B=its':=by simpa using congrArg Array.toList d1
 subst this;exact r.inj L
theorem Inv.tuple_inj(I:Inv X pins Z H s)(h:SqT X.K H a xs)(h':SqT X.K H a ys):xs=ys:=by
 obtain⟨B,r,⟨o,e,_,n,d⟩,_⟩:=I.tuple h;obtain⟨its',L,⟨o',G,_,U,d'⟩,_⟩:=I.tuple h';rw[e] at G;cases G;rw[d] at d';injection d' with d1 _
 have:B=its':=by simpa using congrArg Array.toList d1
 subst this;exact r.inj L
section
variable {X:Cx} {st:Cj} {rest:List Cj} {t u:TS}
def aJp:TS:=λD Z H=>D.nx Z H
def aPL(t u:TS):TS:=λD Z H=>t { D with nx:=u D } Z H
theorem aHt:PSs X [] aJp:=λ_ _ Z H _ I h=>Df ⟨Z,H,I,h⟩
theorem aEo(h1:PS X st t)(h2:PSs X rest u):PSs X (st::rest) (aPL t u):=by
 intro pins s Z H D I h;refine Hw (thn (h1 pins s Z H { D with nx:=u D } I h) λf s1 q=>?_);cases f with
 | next=>obtain⟨Z',H',B,q⟩:=q;exact h2 pins s1 Z' H' D B q|ret v=>exact q|brk=>exact q|cont=>exact q
theorem aBM(h1:PS X st t):PSs X [st] t:=by
 intro pins s Z H D I h;refine Hw (thn (h1 pins s Z H D I h) λf s1 q=>?_);cases f with
 | next=>exact Df q|ret v=>exact q|brk=>exact q|cont=>exact q
def aJY:TS:=λD Z H=>D.bk Z H
def aMJ:TS:=λD Z H=>D.ct Z H
theorem aHu:PS X (.Pass pos) aJp:=λ_ _ Z H _ I h=>wpAny_Pass ⟨Z,H,I,h⟩
theorem aEp:PS X (.Break pos) aJY:=λ_ _ Z H _ I h=>wpAny_Break ⟨Z,H,I,h⟩
theorem yB:PS X (.Continue pos) aMJ:=λ_ _ Z H _ I h=>wpAny_Continue ⟨Z,H,I,h⟩
theorem Inv.quiet(I:Inv X pins Z H s):JP X.env=false:=by simp[JP,I.ok.kind]
def aMK(te:TE):TS:=λD Z H=>te Z H λ_ H1=>D.nx Z H1
theorem pV(G:PE X e te)(hs:Ju e none pos.line X.env=pure false:=by rfl):PS X (.Expr e pos) (aMK te):=by intro pins s Z H D I h;exact wpAny_Expr_any (thn (G pins s Z H _ I h) λv s1 ⟨x,H1,B,U,L⟩=>⟨Z,H1,B,L⟩) I.quiet hs
def aPM(te:TE):TS:=λD Z H=>te Z H D.rt
theorem aEq(G:PE X e te):PS X (.Return (some e) pos) (aPM te):=by intro pins s Z H D I h;exact wpAny_Return_some (thn (G pins s Z H _ I h) λv s1 ⟨x,H1,B,U,L⟩=>⟨x,Z,H1,B,U,L⟩)
def aML:TS:=λD _ H=>D.rt .non H
theorem aHv:PS X (.Return none pos) aML:=λ_ _ Z H _ I h=>wpAny_Return_none ⟨.non,Z,H,I,rfl,h⟩
def aPN(c:TT)(t u:TS):TS:=λD Z H=>c Z H λb H1=>if b=true then t D Z H1 else u D Z H1
theorem aMM(U:PT X c tc)(L:PSs X a t)(hb:PSs X b u):PS X (.If c a b pos) (aPN tc t u):=by
 intro pins s Z H D I h;refine wpAny_If (thn (U pins s Z H _ I h) λd s1 ⟨H1,B,G⟩=>?_);cases d with
 | true=>exact L pins s1 Z H1 D B G|false=>exact hb pins s1 Z H1 D B G
def aJZ:TS:=λ_ _ _=>False
theorem aEr:PS X st aJZ:=λ_ _ _ _ _ _ h=>h.elim
end
abbrev TG:=V->St->Hp->(St->Hp->Prop)->Prop
abbrev TGs:=List V->St->Hp->(St->Hp->Prop)->Prop
def PG(X:Cx)(target:AE)(t:TG):Prop:=
 ∀(pins:List (Addr×Obj)) (s:Ad) (Z:St) (H:Hp) (v:V) (u:Value) (Q:St->Hp->Prop),Inv X pins Z H s->bV v u->t v Z H Q ->
  An (Ay X.prog X.w) X.A (Iw target X.env u) (λ_ s'=>∃Z' H',Inv X pins Z' H' s'/\Q Z' H') X.xe s
def PGs(X:Cx)(ts:List AE)(t:TGs):Prop:=
 ∀(pins:List (Addr×Obj)) (s:Ad) (Z:St) (H:Hp) (vs:List V) (us:List Value) (Q:St->Hp->Prop),Inv X pins Z H s->bJ vs us->t vs Z H Q ->
  An (Ay X.prog X.w) X.A (assignInOrder ((CV ts X.env).map (·.2)) us) (λ_ s'=>∃Z' H',Inv X pins Z' H' s'/\Q Z' H') X.xe s
abbrev aMN:=V->V->V->Hp->(Hp->Prop)->Prop
def aMO(X:Cx)(t:aMN):Prop:=
 ∀(pins:List (Addr×Obj)) (s:Ad) (Z:St) (H:Hp) (o i v:V) (ov iv u:Value) (Q:Hp->Prop),Inv X pins Z H s->bV o ov->bV i iv->bV v u->t o i v H Q ->
  An (Ay X.prog X.w) X.A (setItem ov iv u) (λ_ s'=>∃H',Inv X pins Z H' s'/\Q H') X.xe s
def yC(i:Nat):TG:=λv Z H Q=>Q (Z.set i (some v)) H
theorem aBN(G:X.N.Nodup)(hi:X.N[i]? = some x)(hx:Loc X.env.scope x)(L:X.fn x=true\/X.env.scope.names.lookup x=some .local:=by first|exact .inl rfl|exact .inr rfl|assumption):PG X (.Name x pos) (yC i):=by intro pins s Z H v u Q I r h;exact GU (mM I G hi hx r (λU B=>⟨_,H,B,h⟩) L)
def aMP:TGs:=λvs Z H Q=>vs=[]/\Q Z H
def aJq(t:TG)(u:TGs):TGs:=λvs Z H Q=>∃v r,vs=v::r/\t v Z H λZ' H'=>u r Z' H' Q
theorem aHw:PGs X [] aMP:=by intro pins s Z H vs us Q I r h;obtain⟨e,h⟩:=h;subst e;cases r;exact assignInOrder_nil ⟨Z,H,I,h⟩
theorem aEs(h1:PG X e t)(h2:PGs X es u)
 (hs:(CV (e::es) X.env).map (·.2)=Iw e X.env::(CV es X.env).map (·.2):=by rfl):PGs X (e::es) (aJq t u):=by
 intro pins s Z H vs us Q I r h;obtain⟨v,W,L,h⟩:=h;subst L;cases r with
 | cons r rr=>rw[hs];refine assignInOrder_cons (thn (h1 pins s Z H _ _ _ I r h) λ_ s1 ⟨G,H1,B,U⟩=>?_);exact h2 pins s1 G H1 _ _ Q B rr U
def aMQ(K:Ai)(n:Nat)(t:TGs):TG:=λv Z H Q=>∃a xs,v=.ref a/\SqT K H a xs/\xs.length=n/\t xs Z H Q
theorem aKa(W:X.calm=true)(h:PGs X es t)
 (hn:(CV es X.env).length=n:=by rfl) (B:(CV es X.env).findIdx? (·.1)=none:=by rfl):PG X (.Tuple es k pos) (aMQ X.K n t):=by intro pins s Z H v u Q I r G;obtain⟨a,xs,U,hq,hl,G⟩:=G;subst U;cases r;obtain⟨q0,rv,ht,hz⟩:=I.tuple hq;refine assign_Tuple_tuple (I.ok.hd W) ht (by simp[hn,<-hl,rv.length]) B λh' hx=>?_;have L:Inv X pins Z H { s with heap:=h' }:=I.kept (t':=s.toks) λb o e=>hx b o (Aw (Ag e)) e;exact h pins _ Z H xs _ Q L (by simpa using rv) G
def aPO(to ti:TE)(t:aMN):TG:=λv Z H Q=>to Z H λo H1=>ti Z H1 λi H2=>t o i v H2 λH3=>Q Z H3
theorem aKb(ho:PE X o to)(hi:PE X i ti)(hs:aMO X t)
 (ha:∀v,Iw (.Subscript o i pos) X.env v=(do
  let B<-Go [v] (De o X.env)
  let G<-Go [v,B] (De i X.env)
  K1 pos
  Go [v,B,G] (setItem B G v)
  release [v,B,G] []):=by intro _;rfl):PG X (.Subscript o i pos) (aPO to ti t):=by intro pins s Z H v u Q I r h;rw[ha];refine Aa (Bt (thn (ho pins s Z H _ I h) λB s1 ⟨x,H1,W,r1,q1⟩=>?_));refine Aa (Bt (thn (hi pins s1 Z H1 _ W q1) λG s2 ⟨y,L,I2,r2,q2⟩=>?_));refine Aa (Cd (Aa (Bt (thn (hs pins s2 Z L x y v B G u _ I2 r1 r2 r q2) λ_ s3 ⟨U,I3,q3⟩=>?_))));exact wpAny_release ⟨Z,U,I3,q3⟩
def aKc(te:TE)(g:TG):TS:=λD Z H=>te Z H λx H1=>g x Z H1 D.nx
theorem aEt(G:PE X e te)(L:PG X tg g)(hs:swapsWithSole [tg] e pos.line X.env=pure false:=by rfl)(U:swappedStores [tg] e X.env=pure none:=by rfl)
 (h1:(CV [tg] X.env).map (·.2)=[Iw tg X.env]:=by rfl):PS X (.Assign [tg] e pos) (aKc te g):=by intro pins s Z H D I h;refine wpAny_Assign_stores (thn (G pins s Z H _ I h) λv s1 ⟨x,H1,B,r1,W⟩=>?_) hs U;rw[h1];exact thn (L pins s1 Z H1 x v _ B r1 W) λ_ s2 q=>q
theorem vQ(L:X.N.Nodup)(hi:X.N[i]? = some x)(hx:Loc X.env.scope x)(U:PE X e te)(hs:Ju e (some (.Name x pos')) pos.line X.env=pure false:=by rfl)(W:X.fn x=true\/X.env.scope.names.lookup x=some .local:=by first|exact .inl rfl|exact .inr rfl|assumption) :
 PS X (.Assign [.Name x pos'] e pos) (aKc te (yC i)):=by intro pins s Z H D I h;refine wpAny_Assign_Name (thn (U pins s Z H _ I h) λv s1 ⟨y,H1,B,r1,q1⟩=>?_) hs;exact mM B L hi hx r1 (λs2 G=>⟨_,H1,G,q1⟩) W
def aKd(c:TT)(tb:TS):TS:=λD Z H=>∃W0:Nat->St->Hp->Prop,(∃m,W0 m Z H)/\∀m Z H,W0 m Z H ->
 c Z H λb H1=>if b=true then ∃N:St->Hp->Prop,(∀Z' H',N Z' H'->∃m',m'<m/\W0 m' Z' H')/\tb { D with nx:=N,ct:=N,bk:=D.nx } Z H1 else D.nx Z H1
theorem aEu(hp:Di (Ay X.prog X.w) X.A X.env X.xe)(hc:PT X c tc)(hb:PSs X body tb):PS X (.While c body [] pos) (aKd tc tb):=by
 intro pins s Z H D I h;obtain⟨W0,⟨m0,w0⟩,L⟩:=h;refine wpAny_While (codeAny_whileLoop (λn s'=>∃Z' H',Inv X pins Z' H' s'/\W0 n Z' H') ?_ m0 ⟨Z,H,I,w0⟩);rintro n s1 ⟨U,H1,I1,w1⟩;refine C8 hp (thn (hc pins s1 U H1 _ I1 (L n U H1 w1)) λb s2 ⟨H2,I2,W⟩=>?_);cases b with
 | true=>
  obtain⟨N,hN,W⟩:=W;rw[if_pos rfl];refine C8 hp (thn (hb pins s2 U H2 _ I2 W) λf s3 q3=>?_);cases f with
  | next=>obtain⟨G,B,I3,n3⟩:=q3;obtain⟨m',hm,w3⟩:=hN G B n3;exact⟨m',hm,G,B,I3,w3⟩|cont=>obtain⟨G,B,I3,n3⟩:=q3;obtain⟨m',hm,w3⟩:=hN G B n3;exact⟨m',hm,G,B,I3,w3⟩|brk=>exact q3|ret v=>exact q3
 | false=>rw[if_neg BL];exact Df ⟨U,H2,I2,W⟩
structure It where
 go:Nat->Hp->Prop
 yld:Nat->Hp->V->Hp->Prop
 stop:Nat->Hp->Prop
def mO(X:Cx)(pins:List (Addr×Obj))(H:Hp)(b:Addr):Prop:=
 H b=none/\b≠X.env.locals/\b∉X.fs/\(b∈X.ex\/X.s₀.heap.objs.size<=b)/\(∀x c,X.env.cells.lookup x=some c->c≠b)/\∀p∈X.pn++pins,p.1≠b
theorem Inv.fpOk{s:Ad}(I:Inv X pins Z H s)(hb:s.heap.objs.size<=b)(B:H' b=none):mO X pins H' b:=by refine⟨B,Bq (A1 I.lt hb),I.nofs hb,.inr (AJ I.sz hb),λx c e z=>?_,λp hp z=>?_⟩;obtain⟨v,q⟩:=I.cell x c e;exact absurd (A1 q.lt (by rw[z];exact hb)) (AU _);exact absurd (A1 (Ag (I.pin p hp).1) (by rw[z];exact hb)) (AU _)
structure vR (P:AB) (w:AV) (K:Ai) (tg:AE) (J:It) (fp:List Addr) (it:Addr) (tn:Nat->Heap->Prop):Prop where
 mem:it∈fp
 obj:∀i h,tn i h->∀b∈fp,∃o,h.get? b=some o/\∀v,o.data≠.cell v
 keep:∀i h h',tn i h->(∀b∈fp,∀o,h.get? b=some o->h'.get? b=some o)->tn i h'
 item:∀(X:Cx),X.prog=P->X.w=w->X.K=K->X.calm=true->∀(i:Nat) (pins:List (Addr×Obj)) (s:Ad) (Z:St) (H:Hp) (E:Value->Ad->Prop),Inv X pins Z H s->(∀b∈fp,mO X pins H b)->tn i s.heap->J.go i H ->
  An (Ay P w) X.A (Dm (.ref it)) (λr s1=>∃u,r=some u /\
   An (Ay P w) X.A (Eo tg (.ref it) u) (λ_ s2=>∃x H',Inv X pins Z H' s2/\bV x u/\J.yld i H x H'/\tn (i+1) s2.heap/\∀b∈fp,H' b=none) E s1) E s
 done:∀(X:Cx),X.prog=P->X.w=w->X.K=K->X.calm=true->∀(i:Nat) (pins:List (Addr×Obj)) (s:Ad) (Z:St) (H:Hp) (E:Value->Ad->Prop),Inv X pins Z H s->(∀b∈fp,mO X pins H b)->tn i s.heap->J.stop i H ->
  An (Ay P w) X.A (Dm (.ref it)) (λr s1=>r=none/\Inv X pins Z H s1) E s
 self:∀(A:B6) (i:Nat) (s:Ad) (Q:Value->Ad->Prop) (E:Value->Ad->Prop),tn i s.heap->Q (.ref it) s->An (Ay P w) A (G8 (.ref it)) Q E s
abbrev TI:=St->Hp->(It->Hp->Prop)->Prop
def PIE(X:Cx)(pins:List (Addr×Obj))(Z:St)(tg:AE)(R:It->Hp->Prop)(itv:Value)(s2:Ad):Prop:=
 ∃(it:Addr) (fp:List Addr) (tn:Nat->Heap->Prop) (J:It) (H':Hp),itv=.ref it/\Inv X pins Z H' s2/\vR X.prog X.w X.K tg J fp it tn/\tn 0 s2.heap/\(∀b∈fp,mO X pins H' b)/\R J H'
def PI(X:Cx)(tg iter:AE)(wi:TI):Prop:=
 ∀(pins:List (Addr×Obj)) (s:Ad) (Z:St) (H:Hp) (R:It->Hp->Prop),Inv X pins Z H s->wi Z H R ->
  An (Ay X.prog X.w) X.A (De iter X.env) (λv s1=>An (Ay X.prog X.w) X.A (G8 v) (PIE X pins Z tg R) X.xe s1) X.xe s
theorem pC{E:Value->Ad->Prop}{s:Ad}{o:Obj}{Q:Unit->Ad->Prop}(L:s.heap.get? it=some o)(G:o.cls=.type n)(hd:o.data=.fields vs)
 (I:["enumerate", "zip", "dict_itemiterator", "dict_reverseitemiterator", "odict_iterator", "itertools.zip_longest", "itertools.pairwise"].contains n=false) (B:Q () s):An M A (Eo tg (.ref it) u) Q E s:=by
 unfold Eo;cases tg <;> first
  | exact Ac B
  | (cases u <;> first
   | exact Ac B
   | (refine Aa (wpAny_load L ?_)
      rw[G,hd];show An M A (if (["enumerate", "zip", "dict_itemiterator", "dict_reverseitemiterator", "odict_iterator", "itertools.zip_longest", "itertools.pairwise"].contains n&&vs[0]?==some (Br _))=true then _ else _) Q E s;rw[if_neg (by intro h;rw[I,E8] at h;cases h)];exact Ac B))
def Itl(K:Ai)(a:Addr):It:=
 ⟨λi H=>∃xs x,SqL K H a xs/\xs[i]? = some x,λi H x H'=>H'=H/\∀xs,SqL K H a xs->xs[i]? = some x,λi H=>∃xs,SqL K H a xs/\xs.length<=i⟩
def Itt(K:Ai)(a:Addr):It:=
 ⟨λi H=>∃xs x,SqT K H a xs/\xs[i]? = some x,λi H x H'=>H'=H/\∀xs,SqT K H a xs->xs[i]? = some x,λi H=>∃xs,SqT K H a xs/\xs.length<=i⟩
def Itr(lo:Int)(n:Nat):It:=⟨λi _=>i<n,λi H x H'=>H'=H/\x=.int (lo+i),λi _=>n<=i⟩
theorem aDc{P:AB}{w:AV}{K:Ai}{tg:AE}(a it:Addr):vR P w K tg (Itl K a) [it] it (λi h=>h.IsListIter it a i) where
 mem:=by simp
 obj:=λi h st b hb=>by
  have e:b=it:=by simpa using hb
  subst e;obtain⟨o,e,c,d⟩:=st;exact⟨o,e,λv z=>by rw[d] at z;cases z⟩
 keep:=λi h h' st k=>st.at λo e=>k it (by simp) o e
 item:=by intro X W hw U hc i pins s Z H E I G st hg;subst W hw U;obtain⟨xs,x,L,hx⟩:=hg;obtain⟨q0,rv,p,hz⟩:=I.list L;obtain⟨u,hu,ru⟩:=rv.get hx;obtain⟨f0,f1,f2,f3,f4,f5⟩:=G it (by simp);refine wpAny_pyNext_list_item st p.isList (x:=u) (by simpa using hu) λh' B sb=>?_;have I1:Inv X pins Z H { s with heap:=h' }:=I.turned (t':=s.toks) (λb o hb e=>(sb.2 b hb).trans e) f0 f1 f3 f4 f5;obtain⟨o,e,c,d⟩:=id B;exact⟨u,rfl,pC (s:={ s with heap:=h' }) e c d (by decide) ⟨x,H,I1,ru,⟨rfl,λys hy=>by rw[I.list_inj hy L];exact hx⟩,B,λb hb=>(G b hb).1⟩⟩
 done:=by intro X W hw U hc i pins s Z H E I G st hg;subst W hw U;obtain⟨xs,L,hx⟩:=hg;obtain⟨q0,rv,p,hz⟩:=I.list L;obtain⟨f0,f1,f2,f3,f4,f5⟩:=G it (by simp);have hl:=rv.length;exact wpAny_pyNext_list_end (I.ok.hd hc) st p.isList (by simp;omega) λh' eb=>⟨rfl,I.turned (t':=s.toks) (λb o hb e=>eb b o hb e) f0 f1 f3 f4 f5⟩
 self:=λ_ _ _ _ _ st h=>wpAny_pyIter_listiter st h
theorem aAC{P:AB}{w:AV}{K:Ai}{tg:AE}(a it:Addr):vR P w K tg (Itt K a) [it] it (λi h=>h.IsTupleIter it a i) where
 mem:=by simp
 obj:=λi h st b hb=>by
  have e:b=it:=by simpa using hb
  subst e;obtain⟨o,e,c,d⟩:=st;exact⟨o,e,λv z=>by rw[d] at z;cases z⟩
 keep:=λi h h' st k=>st.at λo e=>k it (by simp) o e
 item:=by intro X hP hw W hc i pins s Z H E I L st hg;subst hP hw W;obtain⟨xs,x,U,hx⟩:=hg;obtain⟨B,rv,p,hz⟩:=I.tuple U;obtain⟨u,hu,ru⟩:=rv.get hx;obtain⟨f0,f1,f2,f3,f4,f5⟩:=L it (by simp);refine wpAny_pyNext_tuple_item st (show s.heap.IsTuple a B.toArray from p) (x:=u) (by simpa using hu) λh' G sb=>?_;have I1:Inv X pins Z H { s with heap:=h' }:=I.turned (t':=s.toks) (λb o hb e=>(sb.2 b hb).trans e) f0 f1 f3 f4 f5;obtain⟨o,e,c,d⟩:=id G;exact⟨u,rfl,pC (s:={ s with heap:=h' }) e c d (by decide) ⟨x,H,I1,ru,⟨rfl,λys hy=>by rw[I.tuple_inj hy U];exact hx⟩,G,λb hb=>(L b hb).1⟩⟩
 done:=by intro X hP hw W hc i pins s Z H E I L st hg;subst hP hw W;obtain⟨xs,U,hx⟩:=hg;obtain⟨B,rv,p,hz⟩:=I.tuple U;obtain⟨f0,f1,f2,f3,f4,f5⟩:=L it (by simp);have hl:=rv.length;exact wpAny_pyNext_tuple_end (I.ok.hd hc) st (show s.heap.IsTuple a B.toArray from p) (by simp;omega) λh' eb=>⟨rfl,I.turned (t':=s.toks) (λb o hb e=>eb b o hb e) f0 f1 f3 f4 f5⟩
 self:=λ_ _ _ _ _ st h=>wpAny_pyIter_tupleiter st h
theorem aAD{P:AB}{w:AV}{K:Ai}{tg:AE}(it:Addr)(lo:Int)(n:Nat):vR P w K tg (Itr lo n) [it] it (λi h=>FX h it (lo+(i:Nat)*1) ((n:Int)-(i:Nat)) 1) where
 mem:=by simp
 obj:=λi h st b hb=>by
  have e:b=it:=by simpa using hb
  subst e;exact⟨_,st,λv z=>by
   have z':Data.fields _=Data.cell v:=z;cases z'⟩
 keep:=λi h h' st k=>k it (by simp) _ st
 item:=by intro X U hw L W i pins s Z H E I G st hg;subst U hw L;obtain⟨f0,f1,f2,f3,f4,f5⟩:=G it (by simp);have W0:=JQ (prog:=X.prog) (w:=X.w) (I.ok.hd W) it lo 1 n;refine W0.item i s _ _ hg st λv h' tk hv B kk=>?_;obtain⟨t,rfl⟩:=hv;have I1:Inv X pins Z H { s with heap:=h',toks:=tk }:=I.turned (λb o hb e=>kk b o (by simpa using hb) e) f0 f1 f3 f4 f5;refine⟨_,rfl,pC (s:={ s with heap:=h',toks:=tk }) (n:= "range_iterator") B rfl rfl (by decide) ⟨.int (lo+i),H,I1,⟨t,?_⟩,⟨rfl,rfl⟩,B,λb hb=>(G b hb).1⟩⟩;rw[Int.mul_one]
 done:=by intro X U hw L W i pins s Z H E I G st hg;subst U hw L;obtain⟨f0,f1,f2,f3,f4,f5⟩:=G it (by simp);exact F0 (I.ok.hd W) st (by have:n<=i:=hg;omega) λh' eb=>⟨rfl,I.turned (t':=s.toks) (λb o hb e=>eb b o hb e) f0 f1 f3 f4 f5⟩
 self:=λ_ _ _ _ _ st h=>F1 st h
theorem yD{pins:List (Addr×Obj)}{Z:St}{H:Hp}{s:Ad}{R:It->Hp->Prop}{E:Value->Ad->Prop}{lo hi:Int}{t u v:HQ}{tk:Nat}(I:Inv X pins Z H s)(h1:-(2 ^ 62)<=lo)(h2:lo<2 ^ 62)(U:-(2 ^ 62)<=hi)(W:hi<2 ^ 62)
 (q:R (Itr lo (hi-lo).toNat) H):An (Ay X.prog X.w) X.A (G8 (.ref s.heap.objs.size)) (PIE X pins Z tg R) E { s with heap:=s.heap.push { cls:=.type "range",data:=.fields #[.int lo t,.int hi u,.int 1 v] },toks:=tk }:=by
 refine G9 (JR ..) (small_one h1 h2 U W) ?_;have B:Inv X pins Z H { s with heap:=s.heap.push { cls:=.type "range",data:=.fields #[.int lo t,.int hi u,.int 1 v] },toks:=tk }:=I.kept λb o e=>Ab _ e;refine⟨(s.heap.push { cls:=.type "range",data:=.fields #[.int lo t,.int hi u,.int 1 v] }).objs.size,[(s.heap.push { cls:=.type "range",data:=.fields #[.int lo t,.int hi u,.int 1 v] }).objs.size],_,_,H,rfl,
  B.kept (t':=tk) λb o e=>Ab _ e,aAD _ lo (hi-lo).toNat,?_,λb hb=>?_,q⟩
 have G:lo+((0:Nat):Int)*1=lo:=by simp
 have L:(((hi-lo).toNat:Nat):Int)-((0:Nat):Int)=BM lo hi 1:=by rw[rangeSize_one];split <;> omega
 show FX _ _ (lo+((0:Nat):Int)*1) ((((hi-lo).toNat:Nat):Int)-((0:Nat):Int)) 1;rw[G,L];exact Ak _ rfl;have e:b=(s.heap.push { cls:=.type "range",data:=.fields #[.int lo t,.int hi u,.int 1 v] }).objs.size:=by simpa using hb
 subst e;exact B.fpOk (Al _) (B.hok.fresh (Al _))
def aMR(ta:TA):TI:=λZ H R=>ta Z H λvs H1=>∃j:Int,vs=[.int j]/\-(2 ^ 62)<=j/\j<2 ^ 62/\R (Itr 0 j.toNat) H1
def aMS(ta:TA):TI:=λZ H R=>ta Z H λvs H1=>∃i j:Int,vs=[.int i,.int j]/\(-(2 ^ 62)<=i/\i<2 ^ 62/\-(2 ^ 62)<=j/\j<2 ^ 62)/\R (Itr i (j-i).toNat) H1
theorem aDd{a:AE}{G:TA}{p pos:Ht}(W:Gl X "range")(hm:X.mg "range" = none)(U:PA X [a] G)(hs:AW [a] X.env=[(false,De a X.env)]:=by rfl):PI X tg (.Call (.Name "range" p) [a] [] pos) (aMR G):=by
 intro pins s Z H R I h;refine K2 (eI I W hm Ix (Ba (thn (U pos pins s Z H _ I h) λus s1 ⟨vs,H1,L,r1,B⟩=>?_) hs rfl));obtain⟨j,e,B,q2,q⟩:=B;subst e;cases r1 with
 | cons r rr=>cases rr;obtain⟨t,rfl⟩:=r;exact call_range_1 (yD L (by omega) (by omega) B q2 (by simpa using q))
theorem aDe(W:Gl X "range")(hm:X.mg "range" = none)(U:PA X [a,b] ta)(hs:AW [a,b] X.env=[(false,De a X.env),(false,De b X.env)]:=by rfl)(B:AW [b] X.env=[(false,De b X.env)]:=by rfl) :
 PI X tg (.Call (.Name "range" p) [a,b] [] pos) (aMS ta):=by
 intro pins s Z H R I h;refine K2 (eI I W hm Ix (Ba (thn (U pos pins s Z H _ I h) λus s1 ⟨vs,H1,L,r1,G⟩=>?_) (by rw[hs,B]) (by rw[B];rfl)));obtain⟨i,j,e,⟨G,q2,q3,q4⟩,q⟩:=G;subst e;cases r1 with
 | cons r rr=>
  cases rr with
  | cons r' rr=>cases rr;obtain⟨t,rfl⟩:=r;obtain⟨t',rfl⟩:=r';exact call_range_2 (yD L G q2 q3 q4 q)
def aPP(wi:TI)(g:TG)(tb:TS):TS:=λD Z H=>wi Z H λJ H1=>∃W0:Nat->Nat->St->Hp->Prop,(∃m,W0 0 m Z H1)/\∀i m Z H,W0 i m Z H ->
 (J.stop i H/\D.nx Z H)\/(J.go i H/\∃N:St->Hp->Prop,(∀Z' H',N Z' H'->∃m',m'<m/\W0 (i+1) m' Z' H')/\∀x H',J.yld i H x H'->g x Z H' λZ2 H2=>tb { D with nx:=N,ct:=N,bk:=D.nx } Z2 H2)
def oA(fp:List Addr)(h:Heap):List (Addr×Obj):=fp.filterMap λb=>(h.get? b).map λo=>(b,o)
theorem gF{h:Heap}(hb:b∈fp)(e:h.get? b=some o):(b,o)∈oA fp h:=CW.mpr ⟨b,hb,by rw[e];rfl⟩
theorem aDf{h:Heap}{p:Addr×Obj}(hp:p∈oA fp h):p.1∈fp/\h.get? p.1=some p.2:=by
 obtain⟨b,hb,e⟩:=CW.mp hp;cases q:h.get? b with
 | none=>rw[q] at e;cases e|some o=>rw[q] at e;have B:(b,o)=p:=Aq e;subst B;exact⟨hb,q⟩
theorem Inv.pinned{s:Ad}(I:Inv X pins Z H s)(G:∀b∈fp,mO X pins H b)(L:∀b∈fp,∃o,s.heap.get? b=some o/\∀v,o.data≠.cell v):Inv X (pins++oA fp s.heap) Z H s:=
 I.pins_of λp hp=>(B8.mp hp).elim (λz=>I.pin p (A5 _ z)) λz=>by obtain⟨hb,e⟩:=aDf z;obtain⟨f0,f1,f2,_⟩:=G p.1 hb;obtain⟨o,B,d⟩:=L p.1 hb;rw[e] at B;cases B;exact⟨e,f0,f1,f2,d⟩
theorem Inv.unpinned(I:Inv X (pins++pl) Z H s):Inv X pins Z H s:=I.pins_of λp hp=>I.pin p (A5 _ (Bc _ hp))
theorem aKe(hp:Di (Ay X.prog X.w) X.A X.env X.xe)(hc:X.calm=true)(hi:PI X tg iter wi)(hg:PG X tg g)(hb:PSs X body tb)
 (hs:∀x,Cg iter X.env x=pure x:=by intro _;rfl):PS X (.For tg iter body [] pos) (aPP wi g tb):=by
 intro pins s Z H D I h;refine wpAny_For (thn (hi pins s Z H _ I h) λv s1 h1=>thn h1 λq9 s2 h2=>?_) hs;obtain⟨it,fp,tn,J,H2,e,I2,T,q8,f2,W0,⟨m0,w0⟩,q3⟩:=h2;subst e;have W:∀{H':Hp},(∀b∈fp,H' b=none)->∀b∈fp,mO X pins H' b:=λhn b hb=>⟨hn b hb,(f2 b hb).2⟩
 refine codeAny_forLoop_any (λn s'=>∃i Z' H',Inv X pins Z' H' s'/\tn i s'.heap/\(∀b∈fp,H' b=none)/\W0 i n Z' H') ?_ m0 ⟨0,Z,H2,I2,q8,λb hb=>(f2 b hb).1,w0⟩;rintro n s3 ⟨i,Z3,H3,I3,q2,q1,w3⟩;rcases q3 i n Z3 H3 w3 with⟨stop,qn⟩|⟨go,N,hN,step⟩
 refine C8 hp (thn (T.done X rfl rfl rfl hc i pins s3 Z3 H3 X.xe I3 (W q1) q2 stop) λr s4 ⟨hr,I4⟩=>?_);subst hr;exact Df ⟨Z3,H3,I4,qn⟩;refine C8 hp (thn (T.item X rfl rfl rfl hc i pins s3 Z3 H3 X.xe I3 (W q1) q2 go) λr s4 ⟨u,hr,h4⟩=>?_);subst hr;refine C8 hp (thn h4 λ_ s5 ⟨x,H5,I5,r5,y5,q0,q5⟩=>?_);have q4:=I5.pinned (W q5) (T.obj _ _ q0);refine C8 hp (thn (hg _ s5 Z3 H5 x u _ q4 r5 (step x H5 y5)) λ_ s6 ⟨Z6,H6,I6,q6⟩=>?_);refine C8 hp (thn (hb _ s6 Z6 H6 _ I6 q6) λf s7 q7=>?_);have U:∀{L:St} {B:Hp},Inv X (pins++oA fp s5.heap) L B s7->N L B->∃m,m<n/\∃i Z' H',Inv X pins Z' H' s7/\tn i s7.heap/\(∀b∈fp,H' b=none)/\W0 i m Z' H':=λ{L B} G n7=>by obtain⟨m',hm,w7⟩:=hN L B n7;refine⟨m',hm,i+1,L,B,G.unpinned,T.keep _ _ _ q0 λb hb o e=>(G.pin (b,o) (A5 _ (A5 _ (gF hb e)))).1,λb hb=>?_,w7⟩;obtain⟨o,e,d⟩:=T.obj _ _ q0 b hb;exact(G.pin (b,o) (A5 _ (A5 _ (gF hb e)))).2.1
 cases f with
 | next=>obtain⟨L,B,G,n7⟩:=q7;exact U G n7|cont=>obtain⟨L,B,G,n7⟩:=q7;exact U G n7|brk=>obtain⟨L,B,G,q7⟩:=q7;exact⟨L,B,G.unpinned,q7⟩|ret v=>obtain⟨x7,L,B,G,r7,q7⟩:=q7;exact⟨x7,L,B,G.unpinned,r7,q7⟩
abbrev R2:=V->V->Hp->VK->Prop
def OpR(X:Cx)(f:Value->Value->Kz Value)(r:R2):Prop:=
 ∀(pins:List (Addr×Obj)) (s:Ad) (Z:St) (H:Hp) (x y:V) (v u:Value) (Q:VK),Inv X pins Z H s->bV x v->bV y u->r x y H Q ->
  An (Ay X.prog X.w) X.A (f v u) (EP X pins Z Q) X.xe s
def UnR(X:Cx)(f:Value->Kz Value)(r:V->Hp->VK->Prop):Prop:=
 ∀(pins:List (Addr×Obj)) (s:Ad) (Z:St) (H:Hp) (x:V) (v:Value) (Q:VK),Inv X pins Z H s->bV x v->r x H Q ->
  An (Ay X.prog X.w) X.A (f v) (EP X pins Z Q) X.xe s
def gX(X:Cx)(f:Value)(r:List V->Hp->VK->Prop):Prop:=
 ∀(pins:List (Addr×Obj)) (s:Ad) (Z:St) (H:Hp) (xs:List V) (us:List Value) (Q:VK),Inv X pins Z H s->bJ xs us->r xs H Q ->
  An (Ay X.prog X.w) X.A (call f us) (EP X pins Z Q) X.xe s
def aPQ(X:Cx)(r:V->Hp->(Bool->Hp->Prop)->Prop):Prop:=
 ∀(pins:List (Addr×Obj)) (s:Ad) (Z:St) (H:Hp) (x:V) (v:Value) (Q:Bool->Hp->Prop),Inv X pins Z H s->bV x v->r x H Q ->
  An (Ay X.prog X.w) X.A (truthy v) (TP X pins Z Q) X.xe s
def tOp(r:R2)(ta tb:TE):TE:=λZ H Q=>ta Z H λx H1=>tb Z H1 λy H2=>r x y H2 Q
def tUn(r:V->Hp->VK->Prop)(ta:TE):TE:=λZ H Q=>ta Z H λx H1=>r x H1 Q
def rI(C:Int->Int->Prop)(g:Int->Int->V):R2:=λx y H Q=>∃i j,x=.int i/\y=.int j/\C i j/\Q (g i j) H
def rI0(g:Int->Int->V):R2:=λx y H Q=>∃i j,x=.int i/\y=.int j/\Q (g i j) H
def rU(g:Int->V):V->Hp->VK->Prop:=λx H Q=>∃i,x=.int i/\Q (g i) H
theorem aMT(ha:PE X a ta)(hb:PE X b tb){R:V->V->Hp->Prop}(I:Inv X pins Z H s)
 (h:ta Z H λx H1=>tb Z H1 λy B=>R x y B) {Q:Value->Ad->Prop} {f:Value->Value->Kz Value}
 (hf:∀v u s2 x y B,Inv X pins Z B s2->bV x v->bV y u->R x y B->An (Ay X.prog X.w) X.A (f v u) Q X.xe s2) :
 An (Ay X.prog X.w) X.A (De a X.env) (λv G=>An (Ay X.prog X.w) X.A (De b X.env) (λu L=>An (Ay X.prog X.w) X.A (f v u) Q X.xe L) X.xe G) X.xe s:=by refine thn (ha pins s Z H _ I h) λv s1 ⟨x,H1,U,r1,q1⟩=>?_;refine thn (hb pins s1 Z H1 _ U q1) λu s2 ⟨y,B,W,r2,q2⟩=>?_;exact hf v u s2 x y B W r1 r2 q2
theorem aMU{r:V->Hp->VK->Prop}(L:UnR X (unaryOp op) r)(G:PE X a ta):PE X (.UnaryOp op a pos) (tUn r ta):=by intro pins s Z H Q I h;exact UnaryOp_ (thn (G pins s Z H _ I h) λv s1 ⟨x,H1,B,W,U⟩=>L pins s1 Z H1 x v Q B W U)
theorem opI{f:Value->Value->Kz Value}{C:Int->Int->Prop}{g:Int->Int->Int}
 (B:∀(i j:Int) (t u:HQ) (s:Ad) (Q:Value->Ad->Prop) (E:Value->Ad->Prop),C i j->Q (.int (g i j) s.toks) { s with toks:=s.toks+1 }->An (Ay X.prog X.w) X.A (f (.int i t) (.int j u)) Q E s) :
 OpR X f (rI C λi j=>.int (g i j)):=by intro pins s Z H x y v u Q I L U h;obtain⟨i,j,rfl,rfl,G,q⟩:=h;obtain⟨t,rfl⟩:=L;obtain⟨t',rfl⟩:=U;exact B i j t t' s _ _ G ⟨.int (g i j),H,I.tok _,⟨_,rfl⟩,q⟩
theorem aMV{f:Value->Value->Kz Value}{g:Int->Int->Int}
 (B:∀(i j:Int) (t u:HQ) (s:Ad) (Q:Value->Ad->Prop) (E:Value->Ad->Prop),Q (.int (g i j) s.toks) { s with toks:=s.toks+1 }->An (Ay X.prog X.w) X.A (f (.int i t) (.int j u)) Q E s) :
 OpR X f (rI0 λi j=>.int (g i j)):=by intro pins s Z H x y v u Q I G L h;obtain⟨i,j,rfl,rfl,q⟩:=h;obtain⟨t,rfl⟩:=G;obtain⟨t',rfl⟩:=L;exact B i j t t' s _ _ ⟨.int (g i j),H,I.tok _,⟨_,rfl⟩,q⟩
theorem aKf{f:Value->Value->Kz Value}{g:Int->Int->Bool}
 (B:∀(i j:Int) (t u:HQ) (s:Ad) (Q:Value->Ad->Prop) (E:Value->Ad->Prop),Q (.bool (g i j)) s->An (Ay X.prog X.w) X.A (f (.int i t) (.int j u)) Q E s) :
 OpR X f (rI0 λi j=>.bl (g i j)):=by intro pins s Z H x y v u Q I G L h;obtain⟨i,j,rfl,rfl,q⟩:=h;obtain⟨t,rfl⟩:=G;obtain⟨t',rfl⟩:=L;exact B i j t t' s _ _ ⟨.bl (g i j),H,I,rfl,q⟩
def aPR(i j:Int):Prop:=0<j/\j<1073741824
def aKg(i j:Int):Prop:=(-(2 ^ 64)<i/\i<2 ^ 64)\/(-(2 ^ 64)<j/\j<2 ^ 64)
theorem aKg.ok(h:aKg i j):IntMulOk i j:=by
 rcases h with⟨h1,h2⟩|⟨h1,h2⟩
 exact .of_left (Jf h1 h2);exact .of_right (Jf h1 h2)
theorem aKh:OpR X (Dt .Add) (rI0 λi j=>.int (i+j)):=aMV λ_ _ _ _ _ _ _ q=>add_int q
theorem aKi:OpR X (Dt .Sub) (rI0 λi j=>.int (i-j)):=aMV λ_ _ _ _ _ _ _ q=>sub_int q
theorem aKj:OpR X (Dt .Mult) (rI aKg λi j=>.int (i*j)):=opI λ_ _ _ _ _ _ _ B q=>mul_int q B.ok
theorem aHx:OpR X (Dt .FloorDiv) (rI aPR λi j=>.int (i / j)):=opI λi j _ _ _ _ _ B q=>by have h1:(0:Int)<j:=B.1;have h2:j<1073741824:=B.2;exact floordiv_int (by omega) (by rw[Int.fdiv_eq_ediv_of_nonneg i (by omega)];exact q) (.inl (F2 (by omega)))
theorem aKk:OpR X (Dt .Mod) (rI (λ_ j=>0<j) λi j=>.int (i % j)):=opI λi j _ _ _ _ _ B q=>by have h1:(0:Int)<j:=B;exact mod_int' (by omega) (by rw[Int.fmod_eq_emod_of_nonneg i (by omega)];exact q)
theorem unI{f:Value->Kz Value}{g:Int->Int}
 (B:∀(i:Int) (t:HQ) (s:Ad) (Q:Value->Ad->Prop) (E:Value->Ad->Prop),Q (.int (g i) s.toks) { s with toks:=s.toks+1 }->An (Ay X.prog X.w) X.A (f (.int i t)) Q E s) :
 UnR X f (rU λi=>.int (g i)):=by intro pins s Z H x v Q I G h;obtain⟨i,rfl,q⟩:=h;obtain⟨t,rfl⟩:=G;exact B i t s _ _ ⟨.int (g i),H,I.tok _,⟨_,rfl⟩,q⟩
theorem aKl:UnR X (unaryOp .USub) (rU λi=>.int (-i)):=unI λ_ _ _ _ _ q=>neg_int q
theorem aAE(I:Inv X pins Z H s)(q:Q (.bl k) H)(e:k=k'):EP X pins Z Q (.bool k') s:=by subst e;exact⟨.bl k,H,I,rfl,q⟩
theorem aMW:OpR X (BN .Lt) (rI0 λi j=>.bl (decide (i<j))):=aKf λ_ _ _ _ _ _ _ q=>lt_int q
theorem aMX:OpR X (BN .LtE) (rI0 λi j=>.bl (decide (i<=j))):=aKf λ_ _ _ _ _ _ _ q=>le_int q
theorem aMY:OpR X (BN .Gt) (rI0 λi j=>.bl (decide (j<i))):=aKf λ_ _ _ _ _ _ _ q=>gt_int q
theorem aDg:OpR X (BN .In) (λx y H Q=>∃i j,x=.str i/\y=.str j/\Q (.bl (!(CM j i 0 j.length 1).isEmpty)) H):=by intro pins s Z H x y v u Q I B G h;obtain⟨i,j,rfl,rfl,q⟩:=h;obtain⟨t,rfl⟩:=B;obtain⟨t',rfl⟩:=G;exact in_str (aAE I q rfl)
theorem aKm:OpR X (BN .Is) (λx y H Q=>y=.non/\Q (.bl (decide (x=.non))) H):=by
 intro pins s Z H x y v u Q I B G h;obtain⟨rfl,q⟩:=h;cases G;refine is_none_gen (aAE I q ?_);cases x <;> first
  | (cases B;rfl)
  | (obtain⟨t,rfl⟩:=B;rfl)
theorem aHy:OpR X (BN .IsNot) (λx y H Q=>y=.non/\Q (.bl (!decide (x=.non))) H):=by
 intro pins s Z H x y v u Q I B G h;obtain⟨rfl,q⟩:=h;cases G;refine isnot_none_gen (aAE I q ?_);cases x <;> first
  | (cases B;rfl)
  | (obtain⟨t,rfl⟩:=B;rfl)
theorem aHz(U:OpR X (BN op) r)(L:PE X a ta)(hb:PE X b tb)(hm:G0 op b=false):PE X (.Compare a [op] [b] pos) (tOp r ta tb):=by intro pins s Z H Q I h;exact wpAny_Compare1 (aMT L hb I h λv u s2 x y B G W ry q=>U pins s2 Z B x y v u Q G W ry q) hm
def aJr(t:TE):TT:=λZ H Q=>t Z H λx H'=>∃k,x=.bl k/\Q k H'
theorem aHA(ho:OpR X (BN op) r)(ha:PE X a ta)(hb:PE X b tb)(hm:G0 op b=false):PT X (.Compare a [op] [b] pos) (aJr (tOp r ta tb)):=by
 intro pins s Z H Q I h;refine wpAny_isTrue_Compare1 (thn (ha pins s Z H _ I h) λv s1 ⟨x,H1,L,r1,q1⟩=>thn (hb pins s1 Z H1 _ L q1) λu s2 ⟨y,B,U,r2,q2⟩=>
  thn (ho pins s2 Z B x y v u _ U r1 r2 q2) λc s3 ⟨z,G,W,r3,k,e,q3⟩=>?_) hm
 subst e;cases r3;exact BF ⟨G,W,q3⟩
def aEv(r r':R2)(ta tb tc:TE):TE:=λZ H Q=>ta Z H λx H1=>tb Z H1 λy H2=>r x y H2 λz H3=>∃k,z=.bl k /\
 (if k=true then tc Z H3 λw' H4=>r' y w' H4 Q else Q (.bl false) H3)
theorem aEw(ho:OpR X (BN op) r)(B:OpR X (BN op') r')(ha:PE X a ta)(hb:PE X b tb)(hc:PE X c tc)
 (hm:Jv [op,op'] [b,c]=false:=by with_unfolding_all rfl):PE X (.Compare a [op,op'] [b,c] pos) (aEv r r' ta tb tc):=by
 intro pins s Z H Q I h;refine Compare_chain (thn (ha pins s Z H _ I h) λv s1 ⟨x,H1,I1,r1,q1⟩=>chain_link (thn (hb pins s1 Z H1 _ I1 q1) λu s2 ⟨y,H2,I2,W,q2⟩=>
  thn (ho pins s2 Z H2 x y v u _ I2 r1 W q2) λd s3 ⟨z,G,L,r3,k,e,U⟩=>?_)) hm
 subst e;cases r3;refine BF ?_;cases k with
 | false=>exact ite_ff ⟨.bl false,G,L,rfl,U⟩|true=>exact ite_tt (chain_last (thn (hc pins s3 Z G _ L U) λw' s4 ⟨z',H4,I4,r4,q4⟩=>B pins s4 Z H4 y z' u w' Q I4 W r4 q4))
theorem aEx(ho:OpR X (BN op) r)(B:OpR X (BN op') r')(ha:PE X a ta)(hb:PE X b tb)(hc:PE X c tc)
 (hm:Jv [op,op'] [b,c]=false:=by with_unfolding_all rfl):PT X (.Compare a [op,op'] [b,c] pos) (aJr (aEv r r' ta tb tc)):=by
 intro pins s Z H Q I h;refine isTrue_chain (thn (ha pins s Z H _ I h) λv s1 ⟨x,H1,I1,r1,q1⟩=>test_link (thn (hb pins s1 Z H1 _ I1 q1) λu s2 ⟨y,H2,I2,W,q2⟩=>
  thn (ho pins s2 Z H2 x y v u _ I2 r1 W q2) λd s3 ⟨z,G,L,r3,k,e,U⟩=>?_)) hm
 subst e;cases r3;refine BF ?_;cases k with
 | false=>obtain⟨k',e',q'⟩:=U;cases e';exact ite_ff ⟨G,L,q'⟩|true=>refine ite_tt (test_last (thn (hc pins s3 Z G _ L U) λw' s4 ⟨z',H4,I4,r4,q4⟩=>thn (B pins s4 Z H4 y z' u w' _ I4 W r4 q4) λd' s5 ⟨z2,H5,I5,r5,k2,e2,q5⟩=>?_));subst e2;cases r5;exact BF ⟨H5,I5,q5⟩
def aHB(K:Ai)(x:V)(H:Hp)(k:Bool):Prop:=
 match x with
 | .non=>k=false|.bl b=>k=b|.int i=>k=(i != 0)
 | .str y=>y.length<=sizeLine/\k=((y.length:Int) != 0)
 | .byt y=>y.size<=sizeLine/\k=((y.size:Int) != 0)
 | .ref p=>(∃xs,SqL K H p xs/\k=!xs.isEmpty)\/(∃xs,SqT K H p xs/\k=!xs.isEmpty)\/∃kvs,H p=some (.dK kvs)/\k=!kvs.isEmpty|_=>False
theorem aAF{B:Type}{kvs:List (B×V)}{vs:List (B×Value)}(r:KV kvs vs):(!vs.isEmpty)=!kvs.isEmpty:=by cases r <;> rfl
theorem qQ{xs:List V}{B:List Value}(r:bJ xs B):(!B.toArray.isEmpty)=!xs.isEmpty:=by cases r <;> simp
theorem lQ:(sizeLine:Nat)<2 ^ 63:=by rw[Du];decide
theorem aEy:aPQ X (λx H Q=>∃k,aHB X.K x H k/\Q k H):=by
 intro pins s Z H x v Q I L h;obtain⟨k,e,q⟩:=h;have hl:=lQ;have hs:sizeLine=16777216:=Du;cases x with
 | non=>cases L;have B:k=false:=e;subst B;exact truthy_none ⟨H,I,q⟩|bl b=>cases L;have B:k=b:=e;subst B;exact BF ⟨H,I,q⟩|int i=>obtain⟨t,rfl⟩:=L;have B:k=(i != 0):=e;subst B;exact PySem.P.truthy_int ⟨H,I,q⟩|str y=>obtain⟨t,rfl⟩:=L;obtain⟨hy,B⟩:y.length<=sizeLine/\k=((y.length:Int) != 0):=e;subst B;exact PySem.P.truthy_str (by omega) ⟨H,I.tok _,q⟩|byt y=>obtain⟨t,rfl⟩:=L;obtain⟨hy,B⟩:y.size<=sizeLine/\k=((y.size:Int) != 0):=e;subst B;exact PySem.W.truthy_bytes (by omega) ⟨H,I.tok _,q⟩|ref p=>
  cases L;have B:(∃xs,SqL X.K H p xs/\k=!xs.isEmpty)\/(∃xs,SqT X.K H p xs/\k=!xs.isEmpty)\/∃kvs,H p=some (.dK kvs)/\k=!kvs.isEmpty:=e;rcases B with⟨xs,hx,B⟩|⟨xs,hx,B⟩|⟨kvs,hx,B⟩
  subst B;obtain⟨U,r,pl,W⟩:=I.list hx;have G:=r.length;exact wpAny_truthy_list pl.isList (by simp only[Ah];omega) ⟨H,I.tok _,by rw[qQ r];exact q⟩;subst B;obtain⟨U,r,pl,W⟩:=I.tuple hx;have G:=r.length;exact truthy_tuple pl (by simp only[Ah];omega) ⟨H,I.tok _,by rw[qQ r];exact q⟩;subst B;obtain⟨W,hS,vs,r,m⟩:kvs.length<=sizeLine/\(p==DY)=false/\∃vs,KV kvs vs/\s.heap.DictOf (bX X.prog X.w) p vs:=I.hok p _ hx;have G:kvs.length=vs.length:=Je r;exact wpAny_truthy_dict hS m (by omega) ⟨H,I.tok _,by rw[aAF r];exact q⟩
 | _=>exact(show False from e).elim
theorem aEz(L:PE X a ta)(U:∀B,Iu a X.env B=(do let v<-B;K1 a.pos;Go [v] (truthy v))) :
 PT X a (λZ H Q=>ta Z H λx H'=>∃k,aHB X.K x H' k/\Q k H'):=by intro pins s Z H Q I h;exact isTrue_plain (thn (L pins s Z H _ I h) λv s1 ⟨x,H1,G,r1,W⟩=>aEy pins s1 Z H1 x v Q G r1 W) (U _)
theorem pD(r:bJ [x] us):∃u,us=[u]/\bV x u:=by
 cases r with
 | cons B G=>cases G;exact⟨_,rfl,B⟩
theorem aDh:gX X (.type "int") (λxs H Q=>(∃i,xs=[.int i]/\Q (.int i) H)\/∃k,xs=[.bl k]/\Q (.int (if k then 1 else 0)) H):=by
 intro pins s Z H xs us Q I r h;rcases h with⟨i,rfl,q⟩|⟨k,rfl,q⟩
 obtain⟨u,rfl,t,rfl⟩:=pD r;exact call_int_int ⟨.int i,H,I,⟨_,rfl⟩,q⟩;obtain⟨u,rfl,B⟩:=pD r;cases B;exact call_int_bool ⟨.int (if k then 1 else 0),H,I.tok _,⟨_,rfl⟩,q⟩
theorem aDi{h:Heap}{G:Str->Option Value}(n:h.Ns1 dx G):∃od,h.get? dx=some od/\∀name,Iy name od=some (G name):=by
 obtain⟨o,es,ep,U,hd,L,_,hm⟩:=n;refine⟨o,U,λname=>?_⟩;have e:=hm name;unfold nsFind findBy at e;rw[<-Array.find?_toList] at e;unfold Iy;rw[hd];dsimp only;split;rename_i y q;rw[q] at e;exact congrArg some e;rename_i q;rw[q] at e;have a:es.toList.any (·.refKey)=false:=by rw[List.any_eq_false];intro y W;obtain⟨z,t,B⟩:=L y (Array.mem_toList_iff.mp W);simp[KD,B]
 have I:¬ es.toList.any (·.refKey)=true:=by rw[a];exact BL
 rw[if_neg I];exact congrArg some e
noncomputable def putF(f:Str)(v:V):List (Str×V)->List (Str×V)
 | []=>[(f,v)]
 | (g,x)::r=>if g=f then (g,v)::r else (g,x)::putF f v r
theorem aEj.some_of(r:aEj (some v) o):∃u,o=some u/\bV v u:=by
 cases o with
 | none=>exact(show False from r).elim|some u=>exact⟨u,rfl,r⟩
theorem aDj(r:bV v u):PySem.W.handedIn u=true:=by
 cases v with
 | non=>cases(show u=AZ from r);rfl|bl b=>cases(show u=Cw b from r);rfl|int i=>obtain⟨t,e⟩:=(show ∃t,u=BU i t from r);cases e;rfl|str x=>obtain⟨t,e⟩:=(show ∃t,u=Hv x t from r);cases e;rfl|byt b=>obtain⟨t,e⟩:=(show ∃t,u=JN b t from r);cases e;rfl|flt b=>obtain⟨t,e⟩:=(show ∃t,u=JO b t from r);cases e;rfl|ref a=>cases(show u=Bu a from r);rfl|ty n=>cases(show u=DX n from r);rfl
theorem aHC{Q:Value->Ad->Prop}(hb:G1 e f env (De e env)=De e env)
 (h:An (Ay prog w) A (De e env) (λo B=>An (Ay prog w) A (K3 o f true) Q E B) E s):An (Ay prog w) A (De (.Attribute e f pos) env) Q E s:=
 Attribute_any_ h (by rw[arm_eval_Attribute,hb])
structure lH (k:Nat) (A:B6):Prop where
 hd:A.handled=none
 gd:A.guards=some []
 dp:A.depth+3*k+5<FY
 un:A.units+16*k+200<HU
theorem lH.mono(r:lH k A)(h:j<=k):lH j A:=⟨r.hd,r.gd,by have:=r.dp;omega,by have:=r.un;omega⟩
theorem lH.deeper{A:B6}(r:lH (k+1) A)(env:HS):lH k (A.deeper env):=
 ⟨r.hd,r.gd,by have:=r.dp;show A.depth+1+3*k+5<_;omega,by have:=r.un;show A.units+3+16*k+200<_;omega⟩
theorem aAG{A:B6}:(A.under (.builtin "type.__call__" ⟨.ref C::us,kw⟩)).depth=A.depth+1:=by
 first|rfl|simp[J1,Code.weight,Code.isCreation,Code.isGuard,Code.isCaller,Code.frames,J2,guardIds]
theorem lH.depth{A:B6}(r:lH k A):A.depth<FY:=by have:=r.dp;omega
def aPS:TA:=λ_ H Q=>Q [] H
def aMZ(ta:TE)(tr:TA):TA:=λZ H Q=>ta Z H λx H1=>tr Z H1 λxs H2=>Q (x::xs) H2
theorem gG:PA X [] aPS:=λ_ _ _ _ H Q I h=>Dr ⟨[],H,I,.nil,h⟩
theorem eQ(U:PE X e te)(W:PA X es t)(hs:AW (e::es) X.env=(false,De e X.env)::AW es X.env:=by rfl):PA X (e::es) (aMZ te t):=by intro pos pins s Z H Q I h;rw[hs];show An _ _ (K0 ((false,De e X.env)::DZ pos (AW es X.env))) _ _ s;refine BY (thn (U pins s Z H _ I h) λu s1 ⟨x,H1,G,r1,q1⟩=>?_);exact thn (W pos pins s1 Z H1 _ G q1) λus s2 ⟨xs,B,L,r2,q2⟩=>⟨x::xs,B,L,.cons r1 r2,q2⟩
def aPT(t:TA):TE:=λZ H Q=>t Z H λxs H1=>xs.length<=sizeLine/\∀p,H1 p=none->Q (.ref p) (upd H1 p (.tup xs))
def aPU(t:TA):TE:=λZ H Q=>t Z H λxs H1=>xs.length<=sizeLine/\∀p,H1 p=none->Q (.ref p) (upd H1 p (.lst xs))
theorem aEA{x1}(h:PA X es t):PE X (.Tuple es x1 pos) (aPT t):=by intro pins s Z H Q I L;refine wpAny_Tuple_spliced (thn (h pos pins s Z H _ I L) λus s1 ⟨xs,H1,B,r,z,q⟩=>⟨by rw[<-r.length];exact z,?_⟩);have G:H1 s1.heap.objs.size=none:=B.hok.fresh (Al _);refine⟨.ref s1.heap.objs.size,upd H1 s1.heap.objs.size (.tup xs),B.laid (t':=s1.toks) (λb u e=>Ab _ e) (Al _) ?_,rfl,q _ G⟩;exact⟨z,us,r,⟨_,Ak _ rfl,rfl,_,rfl⟩⟩
theorem aKn(h:PA X es t):PE X (.List es pos) (aPU t):=by intro pins s Z H Q I L;refine wpAny_List_spliced (thn (h pos pins s Z H _ I L) λus s1 ⟨xs,H1,B,r,z,q⟩=>⟨by rw[<-r.length];exact z,?_⟩);have G:H1 s1.heap.objs.size=none:=B.hok.fresh (Al _);refine⟨.ref s1.heap.objs.size,upd H1 s1.heap.objs.size (.lst xs),B.laid (t':=s1.toks) (λb u e=>Ab _ e) (Al _) ?_,rfl,q _ G⟩;exact⟨z,us,0,r,Ak _ rfl⟩
abbrev Sp:=List V->Hp->VK->XK->Prop
abbrev CXT:=List HS->Hp->Ad->XK->Value->Ad->Prop
structure yE (P:AB) (w:AV) (K:Ai) (mg:Str->Option Value) (base:Heap) (A:B6) (outer:List HS) (s:Ad) (H:Hp):Prop where
 frames:A.frames=some outer
 mod:Mod K mg base
 bs:∀b o,base.get? b=some o->s.heap.get? b=some o/\H b=none
 bsz:base.objs.size<=s.heap.objs.size
 funs:s.heap.FunFrames base outer
 frf:∀b∈frs outer,H b=none
 hok:HOk P w H s.heap
 bare:Ez s.gens
def CE(outer:List HS)(P:AB)(w:AV)(H:Hp)(s:Ad)(Q:VK)(u:Value)(s':Ad):Prop:=
 ∃v H',s'.os=s.os/\Ez s'.gens/\Un (frs outer) [] H H' s.heap s'.heap/\HOk P w H' s'.heap/\bV v u/\Q v H'
def CR(CX:CXT)(outer:List HS)(P:AB)(w:AV)(H:Hp)(s:Ad)(Q:VK)(E:XK)(r:J3)(s':Ad):Prop:=
 match r with
 | .ok (.ret u)=>CE outer P w H s Q u s'|.ok _=>False|.error e=>CX outer H s E e s'
structure vS (P:AB) (w:AV) (K:Ai) (mg:Str->Option Value) (base:Heap) (CX:CXT) (k:Nat) (f:Addr) (fd:E9) (ps:List Str) (sp:Sp):Prop where
 len:∀vs H Q E,sp vs H Q E->vs.length=ps.length
 run:∀(A:B6) (outer:List HS) (s:Ad) (H:Hp) (args:Args) (us:List Value) (vs:List V) (Q:VK) (E:XK),lH k A->yE P w K mg base A outer s H->J4 s fd args (ps.zip us)->bJ vs us->sp vs H Q E ->
  DF (Ay P w) A (.call (.ref f) args) (CR CX outer P w H s Q E) s
theorem yE.make{P:AB}{w:AV}{K:Ai}{mg:Str->Option Value}{base:Heap}{A:B6}{outer:List HS}{s:Ad}{H:Hp}(e:yE P w K mg base A outer s H)(C:Addr)(us:List Value)(B:List (Str×Value)) :
 yE P w K mg base (A.under (.builtin "type.__call__" ⟨.ref C::us,B⟩)) outer s H:=⟨by first|exact e.frames|(simpa[J1,Code.envs,J2,pushEnvs] using e.frames),e.mod,e.bs,e.bsz,e.funs,e.frf,e.hok,e.bare⟩
theorem Inv.env0(I:Inv X pins Z H s):yE X.prog X.w X.K X.mg X.base X.A X.stack s H:=
 ⟨I.ok.frames,I.ok.mod,I.bs,AJ I.ok.bsz I.sz,I.stack,I.stkFree,I.hok,I.bare⟩
theorem Inv.after(I:Inv X pins Z H s)(h:CE X.stack X.prog X.w H s Q u s'):EP X pins Z Q u s':=by obtain⟨v,H',os,bare,un,hok,r,q⟩:=h;obtain⟨G,g,d,t,B⟩:=s';obtain rfl:B=s.os:=os;exact⟨v,H',I.call (h':=G) (g':=g) (d':=d) (t':=t) (ch:=[]) un hok bare (λb z=>absurd z (by simp)),r,q⟩
def jP(K:Ai)(fd:E9)(ps:List Str)(ds:List Value):Prop:=
 ∀(s:Ad) (us:List Value),K.In s.heap->(us++ds).length=ps.length->J4 s fd ⟨us,[]⟩ (ps.zip (us++ds))
theorem jP.all{K:Ai}{fd:E9}{ps:List Str}(h:∀us:List Value,us.length=ps.length->Iz fd ⟨us,[]⟩=pure (ps.zip us)):jP K fd ps []:=λs us _ B=>by rw[C9] at B ⊢;exact .of_eq (h us B)
structure pW (N P:List Str) (sc:DA):Prop where
 kind:sc.kind=.function
 co:sc.isCoroutine=false
 gen:sc.isGenerator=false
 nd:N.Nodup
 pre:N.take P.length=P
 par:∀x∈P,sc.names.lookup x=some .local\/sc.names.lookup x=some .cell
 nofree:∀y∈sc.names,y.2≠.free
theorem tT{kindOf:Str->Option CA}:∀{binds:List (Str×Value)} {m:Str->Option Value},(∀v,(x,v)∉binds)->I9 kindOf binds m x=m x
 | [],_,_=>rfl|(n,v)::r,m,h=>by
  unfold I9;rw[tT λw B=>h w (Aj _ B)];split;have:x≠n:=by rintro rfl;exact h v Ar
  simp[this];rfl
theorem tU{kindOf:Str->Option CA}:∀{binds:List (Str×Value)} {m:Str->Option Value},(∀v,(x,v)∉binds)->IA kindOf binds m x=m x
 | [],_,_=>rfl|(n,v)::r,m,h=>by
  unfold IA;rw[tU λw B=>h w (Aj _ B)];split;rfl;have:x≠n:=by rintro rfl;exact h v Ar
  simp[this]
theorem tV{kindOf:Str->Option CA}:∀{P:List Str} {vs:List Value} {i:Nat} {m:Str->Option Value},P.Nodup->P[i]? = some x->vs[i]? = some v->kindOf x=some .local ->
 I9 kindOf (P.zip vs) m x=some v
 | [],_,_,_,_,h,_,_=>by simp at h|_::_,[],_,_,_,_,h,_=>by simp at h|p::P,w::vs,0,m,nd,h1,h2,hk=>by simp at h1 h2;subst h1;subst h2;show I9 kindOf ((p,w)::P.zip vs) m p=_;unfold I9;rw[tT λv B=>(Ck.mp nd).1 (DG B).1,if_pos hk];simp|p::P,w::vs,i+1,m,nd,h1,h2,hk=>by show I9 kindOf ((p,w)::P.zip vs) m x=_;unfold I9;exact tV (i:=i) (Ck.mp nd).2 (by simpa using h1) (by simpa using h2) hk
theorem tW{kindOf:Str->Option CA}:∀{P:List Str} {vs:List Value} {i:Nat} {m:Str->Option Value},P.Nodup->P[i]? = some x->vs[i]? = some v->kindOf x≠some .local ->
 IA kindOf (P.zip vs) m x=some v
 | [],_,_,_,_,h,_,_=>by simp at h|_::_,[],_,_,_,_,h,_=>by simp at h|p::P,w::vs,0,m,nd,h1,h2,hk=>by simp at h1 h2;subst h1;subst h2;show IA kindOf ((p,w)::P.zip vs) m p=_;unfold IA;rw[tU λv B=>(Ck.mp nd).1 (DG B).1,if_neg hk];simp|p::P,w::vs,i+1,m,nd,h1,h2,hk=>by show IA kindOf ((p,w)::P.zip vs) m x=_;unfold IA;exact tW (i:=i) (Ck.mp nd).2 (by simpa using h1) (by simpa using h2) hk
def start(N:List Str)(vs:List V):St:=vs.map some++Af (N.length-vs.length) none
noncomputable def tH(CX:CXT)(P:AB)(w:AV)(K:Ai)(mg:Str->Option Value)(base:Heap)(N:List Str)(qual:Str)(scope:DA)(f:Addr)(cd:Value)(A:B6)(outer:List HS)(s:Ad)(H:Hp)(E:XK):Cx where
 prog:=P
 w:=w
 K:=K
 mg:=mg
 base:=base
 A:=A.deeper (Fd qual scope s.heap.objs.size f cd)
 N:=N
 s₀:=s
 H₀:=H
 env:=Fd qual scope s.heap.objs.size f cd
 outer:=outer
 stack:=Fd qual scope s.heap.objs.size f cd::outer
 ex:=[]
 calm:=true
 fn:=λ_=>true
 pn:=[]
 xe:=λe s'=>An (Ay P w) (A.deeper (Fd qual scope s.heap.objs.size f cd)) (leaving (Fd qual scope s.heap.objs.size f cd) e) (λ_ s''=>CX outer H s E e s'') (λe' s''=>CX outer H s E e' s'') s'
theorem yF{sc:DA}(h:sc.names.lookup x=some .cell):∃c,(Hx n sc.names []).lookup x=some c:=by have q:=DQ sc.names n [] (.inl h);exact Ce.mp q
theorem tX{CX:CXT}{P:AB}{w:AV}{K:Ai}{mg:Str->Option Value}{base:Heap}{N ps:List Str}{qual:Str}{scope:DA}{f:Addr}{cd:Value}{A:B6}{outer:List HS}{s s1:Ad}{H:Hp}{E:XK}{us:List Value}{vs:List V}
 (S:pW N ps scope) (hd:A.handled=none) (B:yE P w K mg base A outer s H) (hl:vs.length=ps.length) (r:bJ vs us)
 (x:InCallC s s.heap.objs.size (I9 (Fd qual scope s.heap.objs.size f cd).kindOf (ps.zip us) λ_=>none) (Hx (s.heap.objs.size+1) scope.names []) (IA (Fd qual scope s.heap.objs.size f cd).kindOf (ps.zip us) λ_=>none) s1) :
 Inv (tH CX P w K mg base N qual scope f cd A outer s H E) [] (start N vs) H s1:=by
 have q0:ps.length<=N.length:=by have:=congrArg EU S.pre;rw[A8] at this;omega
 obtain⟨h1,tk,rfl,U⟩:=x.done;have I:∀b:Addr,b∉(tH CX P w K mg base N qual scope f cd A outer s H E).ex:=λb z=>absurd (show b∈([]:List Addr) from z) (by simp);refine⟨⟨B.mod,S.kind,rfl,rfl,Al _,λy z c h1 h2=>?_,λy G=>?_,λy c _ h=>?_,λ_=>hd,Around.frames_deeper B.frames,.inr ⟨rfl,rfl⟩,λb z=>absurd z (I b),B.bs,B.bsz,λb _ _=>I b,λb z=>absurd z (I b),B.funs,B.frf⟩,
  rfl,B.bare,Un.kept U,⟨_,x.toInCall.ns,λi y v h1 h2 h3=>?_⟩,λy c h=>⟨_,x.cell y c h⟩,B.hok.fresh (Al _),λy c h=>?_,λp hp=>absurd (show p∈([]:List (Addr×Obj)) from hp) (by simp),B.hok.kept U,?_⟩
 exact name_of_addr x.apart (B0 h1) (B0 h2);have G:scope.names.lookup y=some .cell\/scope.names.lookup y=some .free:=G;rcases G with G|G;exact yF G;exact absurd rfl (S.nofree _ (B0 G));exact DP (x.above y c (B0 h));have hi:i<vs.length:=by unfold start at h2;by_cases hi:i<vs.length;exact hi;rw[AD (by simpa using hi)] at h2;rw[BO] at h2;split at h2 <;> cases h2
 have ha:vs[i]? = some v:=by
  unfold start at h2;rw[AQ (by simpa using hi),A3] at h2;cases e:vs[i]? with
  | none=>rw[e] at h2;cases h2|some a=>rw[e] at h2;cases h2;rfl
 obtain⟨u,W,rv⟩:=r.get ha;have hp:ps[i]? = some y:=by rw[<-S.pre,List.getElem?_take_of_lt (by omega)];exact h1
 have L:ps.Nodup:=by rw[<-S.pre];exact S.nd.sublist (List.take_sublist _ _)
 refine⟨u,rv,?_⟩;rcases S.par y (List.mem_of_getElem? hp) with k|k;exact .inl ⟨k,tV L hp W k⟩;obtain⟨c,e⟩:=yF (n:=s.heap.objs.size+1) k;refine .inr ⟨.inl k,c,e,?_⟩;have q:=x.cell y c e;rw[tW L hp W (by show scope.names.lookup y≠_;rw[k];decide)] at q;exact q;exact B.hok.fresh (DP (x.above y c (B0 h)));unfold start;show _=N.length;rw[CY,FL,A9];omega
theorem aNa{CX:CXT}{P:AB}{w:AV}{K:Ai}{mg:Str->Option Value}{base:Heap}{k:Nat}{f:Addr}{name qual:Str}{B:Gp}{body:List Cj}{scope:DA}{dV kV doc pm cdv ct oc:Value}{an od:Option Addr}
 {osl:Array (Option Value)} {N ps:List Str} {sp:Sp} (lk:K.lookup f=some ⟨oc,od,.func (F3 name qual B body scope dV kV doc pm an cdv ct),osl⟩) (q1:IB K cdv qual=true) (S:pW N ps scope)
 (len:∀vs H Q E,sp vs H Q E->vs.length=ps.length)
 (G:∀(A:B6) (outer:List HS) (s:Ad) (H:Hp) (vs:List V) (Q:VK) (E:XK),lH k (A.deeper (Fd qual scope s.heap.objs.size f cdv))->sp vs H Q E ->
  ∃t,PSs (tH CX P w K mg base N qual scope f cdv A outer s H E) body t/\t { nx:=λ_ H'=>Q .non H',rt:=Q } (start N vs) H) :
 vS P w K mg base CX (k+1) f (F3 name qual B body scope dV kV doc pm an cdv ct) ps sp:=by
 refine⟨len,λA outer s H args us vs Q E hr U hb r q0=>?_⟩;have hl:=len _ _ _ _ q0;have KX:K.In s.heap:=U.mod.kin.keeps λb o e=>(U.bs b o e).1;have lim:s.heap.NoLimit:=U.mod.nolimit.keeps λb o e=>(U.bs b o e).1;have L:∀y∈ps.zip us,scope.names.lookup y.1=some .local\/(scope.names.lookup y.1=some .cell/\((Hx (s.heap.objs.size+1) scope.names []).lookup y.1).isSome=true):=λ⟨n,v⟩ hy=>by rcases S.par n (DG hy).1 with q|q;exact .inl q;exact .inr ⟨q,DQ _ _ _ (.inl q)⟩
 refine FQ hr.depth (KX _ _ lk) rfl S.co S.gen rfl (GA KX q1) (hb _ _ _ _ ?_);refine EA S.kind L λenv he s1 x=>?_;subst he;refine⟨lim.keeps x.toInCall.keep,J5 ?_⟩;obtain⟨t,ht,hq⟩:=G A outer s H vs Q E (hr.deeper _) q0;have I:Inv (tH CX P w K mg base N qual scope f cdv A outer s H E) [] (start N vs) H s1:=tX S hr.hd U hl r x;refine Bk (ht [] s1 (start N vs) H _ I hq) (λfl s' hs=>?_) λe s' hs=>hs;have W:∀{Z':St} {H':Hp} {v:V} {u:Value},Inv (tH CX P w K mg base N qual scope f cdv A outer s H E) [] Z' H' s'->bV v u->Q v H'->CE outer P w H s Q u s':=
  λ{Z' H' v u} J rv q=>⟨v,H',J.os,J.bare,J.base,J.hok,rv,q⟩
 cases fl with
 | ret u=>obtain⟨v,Z',H',J,rv,q⟩:=hs;exact W J rv q|next=>obtain⟨Z',H',J,q⟩:=hs;exact W (v:=V.non) (u:=AZ) J rfl q|brk=>obtain⟨_,_,_,q⟩:=hs;exact Cy q|cont=>obtain⟨_,_,_,q⟩:=hs;exact Cy q
section
variable {X:Cx} {x:Str} {p pos:Ht} {e:AE} {es:List AE} {t:TA} {id T:String} {r:List V->Hp->VK->Prop}
def tCB(r:List V->Hp->VK->Prop)(t:TA):TE:=λZ H Q=>t Z H λvs H1=>r vs H1 Q
theorem qR(W:gX X (.builtin id) r)(hg:Gl X x)(hm:X.mg x=none)(hv:BA x=some (.builtin id))(U:PA X (e::es) t)(hn:x ≠ "__name__" := by decide)(B:(x==("__debug__" : Str))=false:=by decide)
 (he:AW (e::es) X.env=(false,De e X.env)::AW es X.env:=by rfl) (G:(DZ pos (AW es X.env)).any (·.1)=false:=by rfl):PE X (.Call (.Name x p) (e::es) [] pos) (tCB r t):=by intro pins s Z H Q I h;refine Bv (eI I hg hm hv ?_ hn B);exact BB (thn (U pos pins s Z H _ I h) λus s1 ⟨vs,H1,L,r1,q1⟩=>W pins s1 Z H1 vs us Q L r1 q1) he G
theorem oE(W:gX X (.type T) r)(hg:Gl X x)(hm:X.mg x=none)(hv:BA x=some (.type T))(U:PA X (e::es) t)(hn:x ≠ "__name__" := by decide)(B:(x==("__debug__" : Str))=false:=by decide)
 (he:AW (e::es) X.env=(false,De e X.env)::AW es X.env:=by rfl) (G:(DZ pos (AW es X.env)).any (·.1)=false:=by rfl):PE X (.Call (.Name x p) (e::es) [] pos) (tCB r t):=by intro pins s Z H Q I h;refine Bv (eI I hg hm hv ?_ hn B);exact Ba (thn (U pos pins s Z H _ I h) λus s1 ⟨vs,H1,L,r1,q1⟩=>W pins s1 Z H1 vs us Q L r1 q1) he G
end
end L2
namespace HT
open PySem PyProof.Rows
def lexLt:List Int->List Int->Bool
 | [],[]=>false|[],_::_=>true|_::_,[]=>false|x::xs,y::ys=>if x=y then lexLt xs ys else decide (x<y)
theorem lexLt_cons(x y:Int)(xs B:List Int):lexLt (x::xs) (y::B)=if x=y then lexLt xs B else decide (x<y):=rfl
theorem tJ:lexLt [] []=false:=rfl
theorem qS(y:Int)(B:List Int):lexLt [] (y::B)=true:=rfl
theorem qT(x:Int)(xs:List Int):lexLt (x::xs) []=false:=rfl
theorem aEB(A:B6)(s:Ad)(a:Int)(t:HQ)(c:Int)(u:HQ):∃e,SeqAt.EqAt A s (.int a t) (.int c u) e/\(e=true↔a=c):=
 ⟨(a==c),Kl a t c u,by simp⟩
theorem aEC(A:B6)(s:Ad)(a:Int)(t:HQ)(c:Int)(u:HQ)(prog:AB)(w:AV)(E:Value->Ad->Prop)(Q:Value->Ad->Prop)(h:Q (.bool (decide (a<c))) s) :
 An (Ay prog w) A (richCompare .Lt (.int a t) (.int c u)) Q E s:=
 (Ki h:An (Ay prog w) A (BN .Lt (.int a t) (.int c u)) Q E s)
section
open PySem.SeqAt
open PySem.AutoSeq1 (wpAny_loadPart')
open PySem.MeetsSeq PySem.MeetsSeq2 PySem.MeetsSeq3
theorem tK(l b:Addr)(items B:Array Value)(n n2:Nat)(dd q5:Option Addr)(sl q7:Array (Option Value))(ns ms:List Int)(hi:CB items.toList ns)(hj:CB B.toList ms) :
 JS (Builtin.«tuple.__lt__» ⟨[.ref l,.ref b],[]⟩)
  (λ_ R s=>s.heap.get? l=some { cls:=.type "tuple",dict:=dd,data:=.seq items n,slots:=sl }/\s.heap.get? b=some { cls:=.type "tuple",dict:=q5,data:=.seq B n2,slots:=q7 } /\
   R (.ok (.ret (.bool (lexLt ns ms)))) s):=
 .of_wp λprog w A R s h=>by
  obtain⟨hp,g,d,tk,os⟩:=s;obtain⟨hl,hb,h⟩:=h;have f2:=Jg;have z1:items.size=ns.length:=by rw[<-hi.length];simp
  have z2:B.size=ms.length:=by rw[<-hj.length];simp
  wp_walk using wpAny_loadPart' hl,wpAny_loadPart' hb,wpAny_forIn_list _ (λrest b s'=>b.1=none/\s'=⟨hp,g,d,tk,os⟩/\∃(vs ws:List Value) (L I:List Int),rest=vs.zip ws /\
   CB vs L/\CB ws I/\L.length+B.size=I.length+items.size/\R (.ok (.ret (.bool (lexLt L I)))) ⟨hp,g,d,tk,os⟩) _
  case turn=>
   rintro ⟨y,x⟩ rest b s' ⟨q1,rfl,vs,ws,L,I,W,q2,U,G,hR⟩;cases q2 with
   | nil=>rw[EV] at W;cases W|cons a t q3=>
    cases U with
    | nil=>rw[GB] at W;cases W|cons c u q4=>
     rw[Bf] at W;injection W with hyx hrest
     injection hyx with hy hx
     subst hy hx;rw[lexLt_cons] at hR;simp only[Fm] at G;obtain⟨e,he,q0⟩:=aEB A.in1 ⟨hp,g,d,tk,os⟩ a t c u;refine Aa (he prog w _ _ ?_);cases e with
     | true=>
      rw[if_pos (q0.mp rfl)] at hR
      wp_walk
      exact⟨rfl,rfl,_,_,_,_,hrest,q3,q4,by omega,hR⟩
     | false=>
      rw[if_neg (λq=>absurd (q0.mpr q) BL)] at hR;have q6:=aEC A.in1 ⟨hp,g,d,tk,os⟩ a t c u prog w
      wp_walk using q6
      exact⟨_,rfl,by simpa using hR⟩
  case fin=>
   rintro ⟨b1,b2⟩ s' ⟨q1,rfl,vs,ws,L,I,W,q2,U,G,hR⟩;simp only at q1;subst q1;have hv:lexLt L I=decide (items.size<B.size):=by
    cases q2 with
    | nil=>
     cases U with
     | nil=>simp only[FM] at G;rw[tJ];exact(Az (by omega)).symm|cons c u hw=>simp only[FM,Fm] at G;rw[qS];exact(Ao (by omega)).symm
    | cons a t hv=>
     cases U with
     | nil=>simp only[FM,Fm] at G;rw[qT];exact(Az (by omega)).symm|cons c u hw=>rw[Bf] at W;cases W
   rw[hv] at hR
   wp_walk
   exact⟨_,rfl,by simpa[Hu] using hR⟩
  case h=>exact⟨rfl,rfl,items.toList,B.toList,ns,ms,rfl,hi,hj,by omega,h⟩
end
theorem lt_tupInts{items B:Array Value}{Q:Value->Ad->Prop}(hl:IsTup s.heap l items)(hb:IsTup s.heap b B)(hi:CB items.toList ns)(hj:CB B.toList ms)
 (hu:A.units<HU) (h:Q (.bool (lexLt ns ms)) s):An (Ay prog w) A (BN .Lt (.ref l) (.ref b)) Q E s:=by
 obtain⟨⟨cls,dd,data,sl⟩,ho,hc,n,hd⟩:=id hl;obtain⟨⟨q1,W,U,q0⟩,L,G,n2,I⟩:=id hb;simp only at hc hd G I;subst hc hd G I;exact richCompare_meets_room (op:=.Lt) ⟨_,ho,rfl⟩ ⟨_,L,rfl⟩ PySem.F.slot_tuple_lt PySem.F.entry_tuple_lt (PySem.F.args_tuple_lt_2 _ _) (tK l b items B n n2 dd W sl q0 ns ms hi hj)
  ⟨ho,L,show Cw (lexLt ns ms)≠FZ/\Q (.bool (lexLt ns ms)) s from⟨(λx=>nomatch x),h⟩⟩ hu
theorem cat_tup{vs ws:List Value}{Q:Value->Ad->Prop}(ht:IsTup s.heap t vs.toArray)(hb:IsTup s.heap b ws.toArray)(hv:vs≠[])
 (h1:ws=[]->Q (.ref t) s) (h2:ws≠[]->Q (.ref s.heap.objs.size) { s with heap:=s.heap.push { cls:=.type "tuple",data:=.seq (vs++ws).toArray } })
 (q1:vs.length+ws.length<=sizeLine):An (Ay prog w) A (Dt .Add (.ref t) (.ref b)) Q E s:=by
 obtain⟨⟨cls,dd,data,sl⟩,W,hc,n,hd⟩:=id ht;obtain⟨⟨q2,G,q0,U⟩,B,I,n2,L⟩:=id hb;simp only at hc hd I L;subst hc hd I L;have e:vs.toArray++ws.toArray=(vs++ws).toArray:=by simp
 by_cases hw:ws=[]
 exact F4 ⟨_,W,rfl⟩ ⟨_,B,rfl⟩ Fo G2 DR DM (DB _ _)
  (tuple_addW1 t b vs.toArray ws.toArray n n2 dd G sl U (by simpa using hv) (by simp[hw])) ⟨W,B,h1 hw⟩
 refine F4 ⟨_,W,rfl⟩ ⟨_,B,rfl⟩ Fo G2 DR DM (DB _ _)
  (tuple_addW2 t b vs.toArray ws.toArray n n2 dd G sl U (by simpa using hv) (by simpa using hw) (by rw[Ah,Ah];exact q1)) ⟨W,B,?_⟩
 rw[e];exact h2 hw
def sIx(n d:Nat):Option Int->Nat
 | none=>d|some v=>if v<0 then (v+(n:Int)).toNat else min v.toNat n
theorem aKo(n d:Nat)(hd:d<=n)(o:Option Int):sIx n d o<=n:=by
 cases o with
 | none=>exact hd|some v=>show(if v<0 then (v+(n:Int)).toNat else min v.toNat n)<=n;by_cases B:v<0;rw[if_pos B];omega;rw[if_neg B];exact Nat.min_le_right _ _
theorem aBO(v:Int)(n d:Nat):(if v<0 then max (v+(n:Int)) 0 else min v (n:Int))=((sIx n d (some v):Nat):Int):=by
 show(if v<0 then max (v+(n:Int)) 0 else min v (n:Int))=(((if v<0 then (v+(n:Int)).toNat else min v.toNat n):Nat):Int)
 by_cases B:v<0;simp only[if_pos B];omega;simp only[if_neg B];omega
theorem aAH(lo hi:Option Int)(n:Nat):D4 lo hi 1 (n:Int)=(((sIx n 0 lo:Nat):Int),((sIx n n hi:Nat):Int)):=by
 have h1:¬ ((1:Int)<0):=by omega
 unfold D4;simp only[h1,if_false];refine KH ?_ ?_;cases lo with
 | none=>rfl|some v=>exact aBO v n 0
 cases hi with
 | none=>rfl|some v=>exact aBO v n n
theorem aAI(i j:Nat):C6 (i:Int) (j:Int) 1=j-i:=by
 unfold C6;have h1:(1:Int)>0:=by omega
 simp only[h1,if_true,Int.ediv_one];split <;> omega
theorem qU{Q:Option Int->Ad->Prop}(p:F5 v o)(h:Q o s):An (Ay prog w) A (HZ v) Q E s:=by
 cases p with
 | none=>exact IC h|int i t=>exact slicePart_int h
theorem sliceApplied_gen{sl:Addr}{I L:Value}{lo hi:Option Int}{n:Nat}{Q:Int×Int×Nat->Ad->Prop}(hs:s.heap.IsSliceOf sl I L .none)(pl:F5 I lo)(W:F5 L hi)
 (h:Q (((sIx n 0 lo:Nat):Int),1,sIx n n hi-sIx n 0 lo) s):An (Ay prog w) A (EB (.ref sl) (pure (n:Int))) Q E s:=by obtain⟨os,G,U,B⟩:=id hs;unfold EB Jc;refine Aa (Aa (AH G B (x:=I) rfl (Aa (AH G B (x:=L) rfl (Aa (AH G B (x:=.none) rfl (Ac ?_)))))));refine Aa (IC ?_);show An _ _ (if ((1:Int)==0)=true then _ else _) _ _ s;rw[if_neg (by decide)];refine Aa (qU pl (Aa (qU W (Aa (Ac ?_)))));show An _ _ (match D4 lo hi 1 (n:Int) with|(lo,hi)=>pure (lo,(1:Int),C6 lo hi 1)) _ _ s;rw[aAH lo hi n];show An _ _ (pure (((sIx n 0 lo:Nat):Int),(1:Int),C6 ((sIx n 0 lo:Nat):Int) ((sIx n n hi:Nat):Int) 1)) _ _ s;rw[aAI];exact Ac h
theorem aED(xs:Array Value)(i k:Nat):((Ap k).filterMap λ(m:Nat)=>xs[((i:Int)+(m:Int)*1).toNat]?).toArray=((xs.toList.drop i).take k).toArray:=by
 have e:(λ(m:Nat)=>xs[((i:Int)+(m:Int)*1).toNat]?)=λm=>xs[i+m]? := by
  funext m
  have:((i:Int)+(m:Int)*1).toNat=i+m:=by omega
  rw[this]
 rw[e];have:=pick_run xs i k;rw[List.filterMap_map] at this;have B:((λx=>xs[x]?)∘λx=>i+x)=λm=>xs[i+m]? := rfl;rw[B] at this;rw[this]
theorem getItem_tuple_cut{t sl:Addr}{items:Array Value}{vl vu:Value}{lo hi:Option Int}{Q:Value->Ad->Prop}(G:IsTup s.heap t items)(hs:s.heap.IsSliceOf sl vl vu .none)(pl:F5 vl lo)(pu:F5 vu hi)
 (hw:¬ (sIx items.size 0 lo=0/\sIx items.size items.size hi=items.size))
 (h:Q (.ref s.heap.objs.size) { s with heap:=s.heap.push { cls:=.type "tuple",data:=.seq ((items.toList.drop (sIx items.size 0 lo)).take (sIx items.size items.size hi-sIx items.size 0 lo)).toArray } })
 (q3:items.size<=sizeLine):An (Ay prog w) A (F6 (.ref t) (.ref sl)) Q E s:=by
 have B:sizeOk (.seq ((items.toList.drop (sIx items.size 0 lo)).take (sIx items.size items.size hi-sIx items.size 0 lo)).toArray):=by show((items.toList.drop (sIx items.size 0 lo)).take (sIx items.size items.size hi-sIx items.size 0 lo)).toArray.size<=sizeLine;rw[Ah,A8,Bs,Bj];omega
 have hj:sIx items.size items.size hi<=items.size:=aKo _ _ (Al _) hi;obtain⟨os,W,L,q0⟩:=id hs;have I:s.TypeIs (.ref sl) "slice" := ⟨os,W,L⟩
 unfold F6
 try with_reducible refine Bt ?_
 first|refine Aa (Ac ?_)|skip
 refine Aa (GV G.typeIs (by decide) ?_);refine Aa (AT (name:=CZ "__getitem__") G.typeIs Bp
  (Bl Bp G.typeIs Gu ?_ (GC _ _)))
 show An _ _ (EC (.ref t) >>= _) _ _ s;refine Aa (Jh G ?_);refine Aa (DS I ?_);rw[if_pos (by decide)];refine Aa (sliceApplied_gen hs pl pu ?_);have U:¬ ((((sIx items.size 0 lo:Nat):Int)==0&&(1:Int)==1&&(sIx items.size items.size hi-sIx items.size 0 lo)==items.size)=true):=by intro q;rw[Hy,Hy] at q;have q1:((sIx items.size 0 lo:Nat):Int)=0:=eq_of_beq q.1.1;have q2:sIx items.size items.size hi-sIx items.size 0 lo=items.size:=eq_of_beq q.2;exact hw ⟨by omega,by omega⟩
 show An _ _ (if (((sIx items.size 0 lo:Nat):Int)==0&&(1:Int)==1&&(sIx items.size items.size hi-sIx items.size 0 lo)==items.size)=true then _ else _) _ _ s;rw[if_neg U,aED]
 first
  | exact Aa (m:=CJ _) (Be (Ac ⟨_,rfl,Ac h⟩) B)
  | exact Aa (m:=CJ _) (Be (Aa (Ac (Ac ⟨_,rfl,Ac h⟩))) B)
  | exact Aa (Aa (m:=CJ _) (Be (Ac (Ac ⟨_,rfl,Ac h⟩)) B))
  | exact Aa (Aa (m:=CJ _) (Be (Ac ⟨_,rfl,Ac h⟩) B))
end HT
namespace L2
open PySem PySem.Spec PyProof.Rows
abbrev TO:=St->Hp->(Option Int->Hp->Prop)->Prop
def PO(X:Cx)(e:Option AE)(t:TO):Prop:=
 ∀(pins:List (Addr×Obj)) (s:Ad) (Z:St) (H:Hp) (Q:Option Int->Hp->Prop),Inv X pins Z H s->t Z H Q ->
  An (Ay X.prog X.w) X.A (evalPart e X.env) (λu s'=>∃o H',Inv X pins Z H' s'/\F5 u o/\Q o H') X.xe s
def aHD:TO:=λ_ H Q=>Q none H
def aNb(t:TE):TO:=λZ H Q=>t Z H λx H1=>∃i,x=.int i/\Q (some i) H1
theorem qV{ns:List Int}:∀{us:List Value},bJ (ns.map V.int) us->CB us ns:=by
 induction ns with
 | nil=>intro us r;rw[J6] at r;cases r;exact .nil|cons n ns B=>
  intro us r;rw[Ji] at r;cases r with
  | cons G I=>obtain⟨t,e⟩:=G;subst e;exact .cons n t (B I)
section
variable {X:Cx} {e:AE} {te:TE} {lo hi:Option AE} {tl th:TO} {pos p2:Ht}
theorem aHE:PO X none aHD:=by intro pins s Z H Q I h;rw[Jj];exact Ac ⟨none,H,I,.none,h⟩
theorem aHF(h:PE X e te):PO X (some e) (aNb te):=by intro pins s Z H Q I G;rw[evalPart_some];refine thn (h pins s Z H _ I G) λu s1 ⟨x,H1,B,U,L⟩=>?_;obtain⟨i,rfl,q⟩:=L;obtain⟨t,rfl⟩:=U;exact⟨some i,H1,B,.int i t,q⟩
def SlR(X:Cx)(r:V->Option Int->Option Int->Hp->VK->Prop):Prop:=
 ∀(pins:List (Addr×Obj)) (s:Ad) (Z:St) (H:Hp) (x:V) (v vl vu:Value) (lo hi:Option Int) (sl:Addr) (Q:VK),Inv X pins Z H s->bV x v->s.heap.IsSliceOf sl vl vu .none->F5 vl lo->F5 vu hi->r x lo hi H Q ->
  ∃T id,typeLookup (.type T) "__getitem__" = pure (some (.builtin id))/\s.TypeIs v T/\An (Ay X.prog X.w) X.A (F6 v (.ref sl)) (EP X pins Z Q) X.xe s
theorem SlR.or{r G:V->Option Int->Option Int->Hp->VK->Prop}(h:SlR X r)(h':SlR X G):SlR X (λx lo hi H Q=>r x lo hi H Q\/G x lo hi H Q):=by intro pins s Z H x v U W lo hi sl Q I L hs pl B q;rcases q with q|q;exact h pins s Z H x v U W lo hi sl Q I L hs pl B q;exact h' pins s Z H x v U W lo hi sl Q I L hs pl B q
def tSl(r:V->Option Int->Option Int->Hp->VK->Prop)(te:TE)(tl th:TO):TE:=λZ H Q=>te Z H λx H1=>tl Z H1 λl H2=>th Z H2 λu H3=>r x l u H3 Q
theorem aEE{r:V->Option Int->Option Int->Hp->VK->Prop}(hr:SlR X r)(he:PE X e te)(hl:PO X lo tl)(hu:PO X hi th):PE X (.Subscript e (.Slice lo hi none p2) pos) (tSl r te tl th):=by intro pins s Z H Q I h;refine Subscript_ (thn (he pins s Z H _ I h) λv s1 ⟨x,H1,I1,r1,q1⟩=>?_);refine wpAny_Slice (thn (hl pins s1 Z H1 _ I1 q1) λG s2 ⟨l,W,I2,pl,q2⟩=>thn (hu pins s2 Z W _ I2 q2) λL B ⟨u,U,I3,pu,q3⟩=>?_);rw[Jj];refine Ac ?_;have I4:Inv X pins Z U { B with heap:=B.heap.push { cls:=.type "slice",data:=.fields #[G,L,.none] } }:=I3.kept (t':=B.toks) λb ob q=>Ab _ q;obtain⟨T,id,hT,ht,hg⟩:=hr pins { B with heap:=B.heap.push { cls:=.type "slice",data:=.fields #[G,L,.none] } } Z U x v G L l u B.heap.objs.size Q I4 r1 (Km ..) pl pu q3;show An (Ay X.prog X.w) X.A (Jk e (.Slice lo hi none p2) v (.ref B.heap.objs.size)) (EP X pins Z Q) X.xe { B with heap:=B.heap.push { cls:=.type "slice",data:=.fields #[G,L,.none] } };exact tail_any (ops:=[.ref B.heap.objs.size,v]) ht hT hg (by with_unfolding_all rfl)
def yG(xs:List V)(lo hi:Option Int):List V:=(xs.drop (HT.sIx xs.length 0 lo)).take (HT.sIx xs.length xs.length hi-HT.sIx xs.length 0 lo)
theorem pE(xs:List V)(lo hi:Option Int):(yG xs lo hi).length<=xs.length:=by unfold yG;rw[A8,Bs];omega
def aEF(K:Ai):V->Option Int->Option Int->Hp->VK->Prop:=λx lo hi H Q=>∃a xs,x=.ref a/\SqT K H a xs /\
 ¬ (HT.sIx xs.length 0 lo=0/\HT.sIx xs.length xs.length hi=xs.length)/\∀p,H p=none->Q (.ref p) (upd H p (.tup (yG xs lo hi)))
theorem aKp:SlR X (aEF X.K):=by
 intro pins s Z H x v vl vu lo hi sl Q I rx hs pl pu h;obtain⟨a,xs,rfl,hx,W,q⟩:=h;cases rx;obtain⟨G,r,L,U⟩:=I.tuple hx;have B:G.toArray.size=xs.length:=by rw[Ah];exact r.length.symm
 refine⟨"tuple",_,Bp.lookup,L.typeIs,?_⟩;refine HT.getItem_tuple_cut L hs pl pu (by rw[B];exact W) ?_ (by rw[B];exact U);rw[B];refine⟨.ref s.heap.objs.size,_,I.laid (t':=s.toks) (o:=.tup (yG xs lo hi)) (λb ob q=>Ab _ q) (Al _) ?_,rfl,q _ (I.hok.fresh (Al _))⟩;exact⟨AJ (pE xs lo hi) U,_,(r.drop (HT.sIx xs.length 0 lo)).take (HT.sIx xs.length xs.length hi-HT.sIx xs.length 0 lo),Hz _ _⟩
def aPV(K:Ai):R2:=λx y H Q=>∃a b ns ms,x=.ref a/\y=.ref b/\SqT K H a (ns.map V.int)/\SqT K H b (ms.map V.int)/\Q (.bl (HT.lexLt ns ms)) H
theorem aKq(U:X.A.units<HU):OpR X (BN .Lt) (aPV X.K):=by intro pins s Z H x y v u Q I rx ry h;obtain⟨a,b,ns,ms,rfl,rfl,L,hb,q⟩:=h;cases rx;cases ry;obtain⟨G,r1,W,_⟩:=I.tuple L;obtain⟨B,r2,p2,_⟩:=I.tuple hb;have i1:CB G.toArray.toList ns:=qV r1;have i2:CB B.toArray.toList ms:=qV r2;exact HT.lt_tupInts W p2 i1 i2 U ⟨.bl (HT.lexLt ns ms),H,I,rfl,q⟩
def aNc(K:Ai):R2:=λx y H Q=>∃a b xs ys,x=.ref a/\y=.ref b/\SqT K H a xs/\SqT K H b ys/\xs≠[]/\xs.length+ys.length<=sizeLine /\
 (ys=[]->Q (.ref a) H)/\(ys≠[]->∀p,H p=none->Q (.ref p) (upd H p (.tup (xs++ys))))
theorem bJ.nil_iff(r:bJ xs us):us=[]↔xs=[]:=by
 cases r with
 | nil=>simp|cons _ _=>simp
theorem aHG:OpR X (Dt .Add) (aNc X.K):=by intro pins s Z H x y v u Q I rx ry h;obtain⟨a,b,xs,ys,rfl,rfl,W,hb,hx,L,q1,q2⟩:=h;cases rx;cases ry;obtain⟨q0,G,p1,_⟩:=I.tuple W;obtain⟨U,B,p2,_⟩:=I.tuple hb;refine HT.cat_tup p1 p2 (λz=>hx (G.nil_iff.mp z)) (λz=>⟨.ref a,H,I,rfl,q1 (B.nil_iff.mp z)⟩) (λz=>?_) (by rw[<-G.length,<-B.length];exact L);refine⟨.ref s.heap.objs.size,_,I.laid (t':=s.toks) (o:=.tup (xs++ys)) (λb ob q=>Ab _ q) (Al _) ?_,rfl,q2 (λw=>z (B.nil_iff.mpr w)) _ (I.hok.fresh (Al _))⟩;exact⟨by rw[CY];exact L,_,G.append B,Hz _ _⟩
end
noncomputable def ixN(n:Nat)(i:Int):Option Nat:=if 0<=i then (if i<n then some i.toNat else none) else if -(n:Int)<=i then some (i+n).toNat else none
def atI{α:Type}(xs:List α)(i:Int):Option α:=(ixN xs.length i).bind λj=>xs[j]?
theorem vT(h:ixN n i=some j):H0 i n=some j/\j<n/\-(n:Int)<=i/\i<n:=by unfold ixN at h;by_cases B:0<=i;rw[if_pos B] at h;by_cases h1:i<n;rw[if_pos h1] at h;have e:i.toNat=j:=Aq h;exact⟨by rw[HV B h1,e],by omega,by omega,h1⟩;rw[if_neg h1] at h;cases h;rw[if_neg B] at h;by_cases h1:-(n:Int)<=i;rw[if_pos h1] at h;have e:(i+n).toNat=j:=Aq h;exact⟨by rw[GW (by omega) h1,e],by omega,h1,by omega⟩;rw[if_neg h1] at h;cases h
theorem vU{α:Type}{xs:List α}{i:Int}{v:α}(h:atI xs i=some v):∃j,H0 i xs.length=some j/\xs[j]? = some v/\j<xs.length/\-(xs.length:Int)<=i/\i<xs.length:=by
 unfold atI at h;cases e:ixN xs.length i with
 | none=>rw[e] at h;cases h|some j=>rw[e] at h;obtain⟨h1,h2,B,G⟩:=vT e;exact⟨j,h1,h,h2,B,G⟩
def aBP(b:AE):Prop:=∀o i,JT b false o i=operate [o,i] (F6 o i)
def IxR(X:Cx)(r:R2):Prop:=
 ∀(value slice:AE) (pins:List (Addr×Obj)) (s:Ad) (Z:St) (H:Hp) (x y:V) (v u:Value) (Q:VK),Inv X pins Z H s->bV x v->bV y u->r x y H Q ->
  JT slice false v u=operate [v,u] (F6 v u)->An (Ay X.prog X.w) X.A (Jk value slice v u) (EP X pins Z Q) X.xe s
def MtR(X:Cx)(id:String)(r:V->List V->Hp->VK->Prop):Prop:=
 ∀(pins:List (Addr×Obj)) (s:Ad) (Z:St) (H:Hp) (x:V) (xs:List V) (v:Value) (us:List Value) (Q:VK),Inv X pins Z H s->bV x v->bJ xs us->r x xs H Q ->
  An (Ay X.prog X.w) X.A (call (.builtin id) (v::us)) (EP X pins Z Q) X.xe s
section
variable {X:Cx} {a b:AE}
theorem IxR.or(h:IxR X r)(h':IxR X r'):IxR X (λx y H Q=>r x y H Q\/r' x y H Q):=by intro G B pins s Z H x y v u Q I L U q hs;rcases q with q|q;exact h G B pins s Z H x y v u Q I L U q hs;exact h' G B pins s Z H x y v u Q I L U q hs
theorem aJs(U:IxR X r)(L:PE X a ta)(hb:PE X b tb)(hs:aBP b):PE X (.Subscript a b pos) (tOp r ta tb):=by intro pins s Z H Q I h;exact Subscript_ (aMT L hb I h λv u s2 x y B G W ry q=>U a b pins s2 Z B x y v u Q G W ry q (hs _ _))
def aNd(K:Ai):R2:=λx y H Q=>∃p xs i v,x=.ref p/\y=.int i/\SqL K H p xs/\atI xs i=some v/\Q v H
def aNe(K:Ai):R2:=λx y H Q=>∃p xs i v,x=.ref p/\y=.int i/\SqT K H p xs/\atI xs i=some v/\Q v H
def aNf:R2:=λx y H Q=>∃z i c,x=.str z/\y=.int i/\z.length<=sizeLine/\atI z.cps.toList i=some c/\Q (.str ⟨#[c]⟩) H
theorem aHH:IxR X (aNd X.K):=by
 intro q0 W pins s Z H x y v u Q I rx ry h hs;obtain⟨p,xs,i,z,rfl,rfl,hq,he,q⟩:=h;cases rx;obtain⟨t,rfl⟩:=ry;obtain⟨L,r,pl,hz⟩:=I.list hq;obtain⟨j,h1,h2,h3,h4,h5⟩:=vU he;obtain⟨w,ew,U⟩:=r.get h2;have hl:=r.length;have hn:=lQ;have B:EP X pins Z Q w s:=⟨z,H,I,U,q⟩
 by_cases h0:0<=i;have G:i.toNat=j:=by rw[HV h0 h5] at h1;exact Aq h1
 exact item_listR pl.isList h0 (by omega) (by rw[G];simpa using ew) B hs;have G:(i+(L.toArray.size:Int)).toNat=j:=by rw[GW (by omega) h4] at h1;rw[Ah,<-hl];exact Aq h1
 exact F7 (x:=w) pl.isList.typeIs GX.lookup
  (wpAny_getItem_list_neg (Q:=λr s'=>r=w/\EP X pins Z Q r s') pl.isList (by omega) (by rw[Ah] <;> omega) (by omega) (by rw[G];simpa using ew) ⟨rfl,B⟩) hs
theorem aKr:IxR X (aNe X.K):=by
 intro U L pins s Z H x y v u Q I rx ry h hs;obtain⟨p,xs,i,z,rfl,rfl,hq,he,q⟩:=h;cases rx;obtain⟨t,rfl⟩:=ry;obtain⟨q0,r,pl,hz⟩:=I.tuple hq;obtain⟨j,h1,h2,h3,h4,h5⟩:=vU he;obtain⟨w,W,G⟩:=r.get h2;have hl:=r.length;have hn:=lQ;have B:EP X pins Z Q w s:=⟨z,H,I,G,q⟩
 exact F7 (x:=w) pl.typeIs slot_tuple_getitem.lookup
  (getItem_tuple (j:=j) (Q:=λr s'=>r=w/\EP X pins Z Q r s') pl (by omega) (by omega) (by rw[Ah,<-hl];exact h1) (by simpa using W) ⟨rfl,B⟩) hs
theorem aKs:IxR X aNf:=by
 intro G B pins s Z H x y v u Q I rx ry h hs;obtain⟨z,i,c,rfl,rfl,hz,he,q⟩:=h;obtain⟨t,rfl⟩:=rx;obtain⟨t',rfl⟩:=ry;obtain⟨j,h1,h2,h3,W,h5⟩:=vU he;have hl:z.cps.toList.length=z.length:=by simp[Kn]
 rw[hl] at h1 W h5;have hn:=lQ;exact tail_any (typeIs_str s z t) H9.lookup (getItem_str (c:=c) (by
  have L:decide (i < -(2 ^ 63:Int))=false:=Az (by omega);have U:decide (i ≥ 2 ^ 63)=false:=Az (by omega);rw[L,U,G3]) (by rw[h1];simpa using h2) ⟨.str ⟨#[c]⟩,H,I.tok _,⟨_,rfl⟩,q⟩) hs
def rIx(K:Ai):R2:=λx y H Q=>aNd K x y H Q\/aNe K x y H Q\/aNf x y H Q
theorem aEG:IxR X (rIx X.K):=aHH.or (aKr.or aKs)
theorem aAJ(B:List Value)(n j:Nat)(u:Value):DJ (·.setIfInBounds j u) { cls:=.type "list",data:=.seq B.toArray n }={ cls:=.type "list",data:=.seq (B.set j u).toArray n }:=by simp[DJ]
theorem Inv.lst{s:Ad}(I:Inv X pins Z H s)(h:H p=some (.lst xs)) :
 ∃(B:List Value) (n:Nat),bJ xs B/\s.heap.get? p=some { cls:=.type "list",data:=.seq B.toArray n }/\xs.length<=sizeLine:=by obtain⟨z,B,n,r,e⟩:=I.hok p _ h;exact⟨B,n,r,e,z⟩
theorem Inv.lstUpd{s:Ad}{xs G:List V}{B its':List Value}{f:Obj->Obj}(I:Inv X pins Z H s)(h:H p=some (.lst xs))
 (U:s.heap.get? p=some { cls:=.type "list",data:=.seq B.toArray n }) (L:f { cls:=.type "list",data:=.seq B.toArray n }={ cls:=.type "list",data:=.seq its'.toArray n' }) (r:bJ G its') (W:G.length<=sizeLine) (t:Nat) :
 Inv X pins Z (upd H p (.lst G)) { s with heap:=s.heap.update p f,toks:=t }:=by
 have e:(s.heap.update p f).get? p=some { cls:=.type "list",data:=.seq its'.toArray n' }:=by rw[Bh f U (by rw[L] <;> rfl),L]
 refine I.write (x:=p) (e:=p) (by rw[h];trivial) (.inl rfl) (λb u hb q=>(A2 _ _ (BQ hb)).trans q) ⟨_,e⟩ ?_;exact⟨W,its',n',r,e⟩
def aNg:V->V->V->Hp->(Hp->Prop)->Prop:=λo i v H Q=>∃p xs k j,o=.ref p/\i=.int k/\H p=some (.lst xs)/\ixN xs.length k=some j/\Q (upd H p (.lst (xs.set j v)))
theorem aEH:aMO X aNg:=by
 intro pins s Z H o i v ov iv u Q I ro ri rv h;obtain⟨p,xs,k,j,rfl,rfl,hp,hj,q⟩:=h;cases ro;obtain⟨t,rfl⟩:=ri;obtain⟨B,n,r,U,hz⟩:=I.lst hp;obtain⟨h1,h2,h3,h4⟩:=vT hj;have L:=r.length;have hn:=lQ;have W:Inv X pins Z (upd H p (.lst (xs.set j v))) { s with heap:=s.heap.update p (DJ (·.setIfInBounds j u)) }:=
  I.lstUpd hp U (aAJ B n j u) (r.set rv j) (by rw[AF];exact hz) s.toks
 by_cases h0:0<=k;have G:k.toNat=j:=by rw[HV h0 h4] at h1;exact Aq h1
 exact PySem.W.ki_setAt U h0 (by omega) (by rw[Ah,<-L];exact h4) (by rw[G];exact⟨_,W,q⟩);have G:(k+(B.toArray.size:Int)).toNat=j:=by rw[GW (by omega) h3] at h1;rw[Ah,<-L];exact Aq h1
 exact PySem.W.ki_setBack U (by omega) (by rw[Ah,<-L];exact h3) (by omega) (by rw[G];exact⟨_,W,q⟩)
theorem vV(lo hi:Option Int)(n:Nat):(DN lo hi none n).1=((HT.sIx n 0 lo:Nat):Int)/\(DN lo hi none n).2.1=((HT.sIx n n hi:Nat):Int)/\(DN lo hi none n).2.2=1:=by
 refine⟨?_,?_,rfl⟩;cases lo with
 | none=>simp[DN,HT.sIx]|some i=>simp only[DN,HT.sIx,Fp,show(1:Int)>0 by decide,if_true];by_cases h:i<0;simp only[h,if_true] <;> omega;simp only[h,if_false] <;> omega
 cases hi with
 | none=>simp[DN,HT.sIx]|some i=>simp only[DN,HT.sIx,Fp,show(1:Int)>0 by decide,if_true];by_cases h:i<0;simp only[h,if_true] <;> omega;simp only[h,if_false] <;> omega
theorem tL(B:List Value)(lo hi:Option Int):slicePick B.toArray lo hi none=((B.drop (HT.sIx B.length 0 lo)).take (HT.sIx B.length B.length hi-HT.sIx B.length 0 lo)).toArray:=by obtain⟨h1,h2,G⟩:=vV lo hi B.toArray.size;unfold slicePick;rw[h1,h2,G];simp only[sliceRange_one,pick_run,Ah] <;> rfl
def aEI(K:Ai):V->Option Int->Option Int->Hp->VK->Prop:=λx lo hi H Q=>∃a xs,x=.ref a/\SqL K H a xs/\∀p,H p=none->Q (.ref p) (upd H p (.lst (yG xs lo hi)))
theorem aHI:SlR X (aEI X.K):=by intro pins s Z H x v vl vu lo hi sl Q I rx hs pl W h;obtain⟨a,xs,rfl,hx,q⟩:=h;cases rx;obtain⟨U,r,G,L⟩:=I.list hx;have B:=r.length;refine⟨"list",_,GX.lookup,G.isList.typeIs,?_⟩;refine wpAny_getItem_list_slice G.isList hs pl W .none (by simp) ?_ (by rw[Ah] <;> omega);rw[tL,<-B];refine⟨.ref s.heap.objs.size,_,I.laid (t':=s.toks) (o:=.lst (yG xs lo hi)) (λb ob q=>Ab _ q) (Al _) ?_,rfl,q _ (I.hok.fresh (Al _))⟩;exact⟨AJ (pE xs lo hi) L,_,0,(r.drop (HT.sIx xs.length 0 lo)).take (HT.sIx xs.length xs.length hi-HT.sIx xs.length 0 lo),Ak _ rfl⟩
theorem vW:OpR X (BN .NotIn) (λx y H Q=>∃i j,x=.str i/\y=.str j/\Q (.bl (!(!(CM j i 0 j.length 1).isEmpty))) H):=by intro pins s Z H x y v u Q I B G h;obtain⟨i,j,rfl,rfl,q⟩:=h;obtain⟨t,rfl⟩:=B;obtain⟨t',rfl⟩:=G;exact notIn_str ⟨.bl _,H,I,rfl,q⟩
theorem vX:gX X (.builtin "len") (λxs H Q=>∃p G,xs=[.ref p]/\(SqL X.K H p G\/SqT X.K H p G)/\Q (.int G.length) H):=by intro pins s Z H xs us Q I r h;obtain⟨p,G,rfl,L,q⟩:=h;obtain⟨u,rfl,rx⟩:=pD r;cases rx;have hn:=lQ;rcases L with L|L;obtain⟨U,W,pl,hz⟩:=I.list L;have B:=W.length;exact Calls.call_len_list pl.isList (by simp only[Ah] <;> omega) ⟨.int G.length,H,I.tok _,⟨s.toks+1,by rw[Ah,B]⟩,q⟩;obtain⟨U,W,pl,hz⟩:=I.tuple L;have B:=W.length;exact len_tuple pl (by simp only[Ah] <;> omega) ⟨.int G.length,H,I.tok _,⟨s.toks+1,by rw[Ah,B]⟩,q⟩
theorem vY:gX X (.builtin "len") (λxs H Q=>∃z,xs=[.str z]/\z.length<=sizeLine/\Q (.int z.length) H):=by intro pins s Z H xs us Q I r h;obtain⟨z,rfl,G,q⟩:=h;obtain⟨u,rfl,t,rfl⟩:=pD r;have B:=lQ;exact len_str (by omega) ⟨.int z.length,H,I.tok _,⟨_,rfl⟩,q⟩
theorem gX.or{r B:List V->Hp->VK->Prop}(h:gX X f r)(h':gX X f B):gX X f (λxs H Q=>r xs H Q\/B xs H Q):=by intro pins s Z H xs us Q I G q;rcases q with q|q;exact h pins s Z H xs us Q I G q;exact h' pins s Z H xs us Q I G q
theorem vZ:gX X (.type "list") (λxs H Q=>∃p U,xs=[.ref p]/\(SqL X.K H p U\/SqT X.K H p U)/\∀l,H l=none->Q (.ref l) (upd H l (.lst U))):=by
 intro pins s Z H xs us Q I r h;obtain⟨p,U,rfl,hq,q⟩:=h;obtain⟨u,rfl,rx⟩:=pD r;cases rx;have W:∀(B:List Value),bJ U B->U.length<=sizeLine->∀(h':Heap) (G:Nat),(∀b o',s.heap.get? b=some o'->h'.get? b=some o') ->
  h'.get? s.heap.objs.size=some { cls:=.type "list",dict:=none,data:=.seq B.toArray G,slots:=#[] }->EP X pins Z Q (.ref s.heap.objs.size) { s with heap:=h' }:=λB L hz h' G kp e=>
  ⟨.ref s.heap.objs.size,_,I.laid (t':=s.toks) kp (Al _) (show eC X.prog X.w _ h' _ (.lst U) from⟨hz,B,G,L,e⟩),rfl,q _ (I.hok.fresh (Al _))⟩
 rcases hq with hq|hq;obtain⟨B,L,pl,hz⟩:=I.list hq;have q0:=L.length;obtain⟨o,ho,hc,n,hd⟩:=pl.isList;exact Jl p (.inl rfl) ho hc hd (λh' G kp e=>W B L hz h' G kp e) (by simp only[Ah] <;> omega);obtain⟨B,L,pl,hz⟩:=I.tuple hq;have q0:=L.length;obtain⟨o,ho,hc,n,hd⟩:=pl;exact Jl p (.inr rfl) ho hc hd (λh' G kp e=>W B L hz h' G kp e) (by simp only[Ah] <;> omega)
theorem tM:gX X (.type "tuple") (λxs H Q=>∃p G,xs=[.ref p]/\((SqL X.K H p G/\∀l,H l=none->Q (.ref l) (upd H l (.tup G)))\/(SqT X.K H p G/\Q (.ref p) H))):=by
 intro pins s Z H xs us Q I r h;obtain⟨p,G,rfl,h⟩:=h;obtain⟨u,rfl,rx⟩:=pD r;cases rx;rcases h with⟨L,q⟩|⟨L,q⟩
 obtain⟨B,U,pl,hz⟩:=I.list L;have q0:=U.length;refine call_tuple_list pl.isList (λh' kp=>?_) (by simp only[Ah] <;> omega);have W:Inv X pins Z H { s with heap:=h' }:=I.kept (t':=s.toks) kp;have I2:Inv X pins Z (upd H h'.objs.size (.tup G)) { s with heap:=h'.push { cls:=.type "tuple",data:=.seq B.toArray } }:=
  W.laid (t':=s.toks) (λb o e=>Ab _ e) (Al _) (show eC X.prog X.w _ _ _ (.tup G) from⟨hz,B,U,Hz _ _⟩)
 exact⟨.ref h'.objs.size,_,I2,rfl,q _ (W.hok.fresh (Al _))⟩;obtain⟨B,U,pl,hz⟩:=I.tuple L;exact call_tuple_same pl ⟨.ref p,H,I,rfl,q⟩
def tyV(K:Ai)(T:String)(x:V)(H:Hp):Prop:=match x with
 | .str _=>T = "str"|.int _=>T = "int"|.ref p=>(T = "list" /\ ∃xs,SqL K H p xs)\/(T = "tuple" /\ ∃o,K.lookup p=some o/\o.cls=.type "tuple" /\ o.dict=none) \/
  (T = "dict" /\ ((∃kvs,H p=some (.dK kvs))\/∃kvs,H p=some (.dT kvs)))\/(T = "set" /\ ∃S n,H p=some (.set S n))
 | _=>False
theorem aKt{s:Ad}(I:Inv X pins Z H s)(r:bV x v)(ty:tyV X.K T x H) :
 s.TypeIs v T/\∀a,v=.ref a->∃L,s.heap.get? a=some L/\L.dict=none:=by
 cases x with
 | str z=>obtain⟨t,rfl⟩:=r;cases(show T = "str" from ty);exact⟨typeIs_str s z t,λ_ e=>nomatch e⟩|int i=>obtain⟨t,rfl⟩:=r;cases(show T = "int" from ty);exact⟨F8 s i t,λ_ e=>nomatch e⟩|ref p=>
  cases r;rcases ty with⟨rfl,xs,W⟩|⟨rfl,o,B,U,hd⟩|⟨rfl,B⟩|⟨rfl,S,n,B⟩
  obtain⟨q0,_,pl,_⟩:=I.list W;refine⟨pl.isList.typeIs,λa e=>?_⟩;cases e;obtain⟨o,n,e,c,hd,_⟩:=pl;exact⟨o,e,hd⟩;refine⟨⟨o,I.kIn p o B,U⟩,λa e=>?_⟩;cases e;exact⟨o,I.kIn _ o B,hd⟩;have z:∃o,s.heap.get? p=some o/\o.ExactDict:=by
   rcases B with⟨kvs,B⟩|⟨kvs,B⟩
   obtain⟨_,_,_,_,o,_,_,e,ex,_⟩:=I.hok p _ B;exact⟨o,e,ex⟩;obtain⟨_,_,_,_,o,_,_,e,ex,_⟩:=I.hok p _ B;exact⟨o,e,ex⟩
  obtain⟨o,e,ex⟩:=z;refine⟨⟨o,e,ex.1⟩,λa G=>?_⟩;cases G;exact⟨o,e,ex.2.1⟩;obtain⟨o,_,_,_,e,ex,_⟩:=I.hok p _ B;refine⟨⟨o,e,ex.1⟩,λa G=>?_⟩;cases G;exact⟨o,e,ex.2.1⟩
 | _=>exact Cy ty
def tBM(K:Ai)(T:String)(r:V->List V->Hp->VK->Prop)(to:TE)(t:TA):TE:=λZ H Q=>to Z H λx H1=>tyV K T x H1/\t Z H1 λxs H2=>r x xs H2 Q
variable {o e:AE} {es:List AE} {to:TE} {t:TA} {name:Str} {apos cpos:Ht} {T id:String} {r:V->List V->Hp->VK->Prop}
theorem aBQ(pa:PlainAttrs T)(slot:Slot T name id)(W:typeOf (.builtin id)=pure (.type "method_descriptor"))(hm:MtR X id r)(ho:PE X o to)(ha:PA X (e::es) t)
 (G:G1 o name X.env (De o X.env)=De o X.env:=by rfl)
 (U:((DZ cpos (AW (e::es) X.env)).all (λx=>!x.1)&&(backToKw cpos (keywordEach [] X.env)).all (λx=>x.1.isSome)
  && decide ((e::es).length+([]:List Keyword).length+(if ([]:List Keyword).isEmpty then 0 else 1)<30))=true:=by rfl)
 (L:(apos.endLine==cpos.line)=true:=by rfl) (hs:AW (e::es) X.env=(false,De e X.env)::AW es X.env:=by rfl) (B:(DZ cpos (AW es X.env)).any (·.1)=false:=by rfl) :
 PE X (.Call (.Attribute o name apos) (e::es) [] cpos) (tBM X.K T r to t):=by intro pins s Z H Q I h;refine F9 G U L rfl (thn (ho pins s Z H _ I h) λv s1 ⟨x,H1,I1,r1,ty,q1⟩=>?_);obtain⟨h1,h2⟩:=aKt I1 r1 ty;refine⟨T,id,pa,slot,W,h1,h2,?_⟩;have hA:=ha cpos pins s1 Z H1 _ I1 q1;rw[hs] at hA ⊢;refine FA (by show(false||(DZ cpos (AW es X.env)).any (·.1))=false;rw[B] <;> rfl) (Dv ?_);exact thn hA λus s2 ⟨vs,H2,I2,r2,q2⟩=>hm pins s2 Z H2 x vs v us Q I2 r1 r2 q2
end
def MtM(X:Cx)(id:String)(r:V->List V->Hp->VK->Prop):Prop:=
 ∀(pins:List (Addr×Obj)) (s:Ad) (Z:St) (H:Hp) (x:V) (xs:List V) (v:Value) (us:List Value) (Q:VK),Inv X pins Z H s->bV x v->bJ xs us->r x xs H Q ->
  An (Ay X.prog X.w) X.A (call (.builtin id) (v::us)) (EP X pins Z Q) X.xe s
theorem bJ.one:∀{x:V} {us:List Value},bJ [x] us->∃u,us=[u]/\bV x u:=by intro x us h;cases h with|cons r t=>cases t;exact⟨_,rfl,r⟩
theorem bJ.zero:∀{us:List Value},bJ [] us->us=[]
 | _,.nil=>rfl
theorem bJ.eraseIdx:∀{xs:List V} {us:List Value} (i:Nat),bJ xs us->bJ (xs.eraseIdx i) (us.eraseIdx i)
 | _,_,_,.nil=>.nil|_,_,0,.cons _ t=>t|_,_,i+1,.cons r t=>.cons r (bJ.eraseIdx i t)
theorem bJ.rep(h:bJ xs us):∀k:Nat,bJ (Af k xs).flatten (Af k us).flatten
 | 0=>.nil|k+1=>by rw[BC,BC,BR,BR];exact bJ.append h (bJ.rep h k)
theorem tY{α:Type}:∀(l:List α) (i:Nat),(l.eraseIdx i).length<=l.length
 | [],_=>Al _|_::_,0=>CC _|_::r,i+1=>Nat.succ_le_succ (tY r i)
theorem oF(G:List Value):∀(k:Nat) (B:List Value),
 ID (λL U=>L++U) B.toArray (Af k G.toArray)=(B++(Af k G).flatten).toArray
 | 0,B=>by simp|k+1,B=>by
  have e:B.toArray++G.toArray=(B++G).toArray:=by simp
  have I:(B++G)++(Af k G).flatten=B++(Af (k+1) G).flatten:=by rw[BC,BR,BG]
  rw[<-I,<-oF G k (B++G),<-e,BC,Cm]
theorem Inv.lset{B its':List Value}{f:Array Value->Array Value}{t':Nat}(I:Inv X pins Z H s)(G:H l=some (.lst xs))
 (e:s.heap.get? l=some { cls:=.type "list",data:=.seq B.toArray n }) (L:f B.toArray=its'.toArray) (W:bJ ys its') (hz:ys.length<=sizeLine) :
 Inv X pins Z (upd H l (.lst ys)) { s with heap:=s.heap.update l (DJ f),toks:=t' }:=by have q:=HA e f;rw[L] at q;refine I.write (x:=l) (e:=l) (by rw[G];exact trivial) (.inl rfl) (λb' u hb U=>(A2 s.heap (DJ f) (BQ hb)).trans U) ⟨_,q⟩ ?_;exact⟨hz,its',_,W,q⟩
theorem Inv.lnew{t':Nat}(I:Inv X pins Z H s)(B:bJ ys its)(G:ys.length<=sizeLine) :
 Inv X pins Z (upd H s.heap.objs.size (.lst ys)) { s with heap:=s.heap.push { cls:=.type "list",data:=.seq its.toArray },toks:=t' }:=
 I.laid (λ_ _ q=>Ab _ q) (Al _) ⟨G,its,0,B,Ak _ rfl⟩
theorem Inv.fresh(I:Inv X pins Z H s):H s.heap.objs.size=none:=I.hok.fresh (Al _)
theorem Inv.lstM(I:Inv X pins Z H s)(G:H l=some (.lst xs)):xs.length<=sizeLine/\∃(B:List Value) (n:Nat),bJ xs B/\xs.length=B.length/\s.heap.get? l=some { cls:=.type "list",data:=.seq B.toArray n }:=by obtain⟨z,B,n,r,e⟩:=I.hok l _ G;exact⟨z,B,n,r,r.length,e⟩
theorem yH(h:n<=sizeLine):CK n=false:=by unfold CK;exact Az (by omega)
def aHJ:V->List V->Hp->VK->Prop:=λx vs H Q=>∃l xs y,x=.ref l/\vs=[y]/\H l=some (.lst xs)/\xs.length<sizeLine/\Q .non (upd H l (.lst (xs++[y])))
theorem tZ:MtM X "list.append" aHJ:=by intro pins s Z H x vs v us Q I U rv h;obtain⟨l,xs,y,rfl,rfl,G,hz,q⟩:=h;cases U;obtain⟨u,rfl,L⟩:=rv.one;obtain⟨z,B,n,r,W,e⟩:=I.lstM G;refine Dw GD ⟨_,e,rfl⟩ Gv (Ga _ _) (GY l B.toArray n u (by rw[Ah];omega)) ⟨e,?_⟩;refine⟨.non,_,I.lset (its':=B++[u]) G e (by simp) (r.append (.cons L .nil)) ?_,rfl,q⟩;rw[CY,C5];omega
def aHK:V->List V->Hp->VK->Prop:=λx vs H Q=>∃l b xs zs,x=.ref l/\vs=[.ref b]/\H l=some (.lst xs)/\H b=some (.lst zs)/\xs.length+zs.length<=sizeLine/\Q .non (upd H l (.lst (xs++zs)))
theorem aDk:MtM X "list.extend" aHK:=by
 intro pins s Z H x vs v us Q I rx rv h;obtain⟨l,b,xs,zs,rfl,rfl,W,hB,hz,q⟩:=h;cases rx;obtain⟨u,rfl,ru⟩:=rv.one;cases ru;obtain⟨z,G,n,r,hl,e⟩:=I.lstM W;obtain⟨z2,B,n2,r2,q0,e2⟩:=I.lstM hB;have U:G.toArray.size+B.toArray.size<=sizeLine:=by rw[Ah,Ah];omega
 have L:¬ (!G.toArray.isEmpty&&CK (G.toArray.size+B.toArray.size))=true:=by rw[yH U,ED];exact BL
 refine Dw F.slot_list_extend ⟨_,e,rfl⟩ F.entry_list_extend (F.args_list_extend_2 _ _)
  (GZ l G.toArray n b B.toArray n2 L (by rw[Ah];omega) (by omega)) ⟨e,e2,?_⟩
 refine⟨.non,_,I.lset (its':=G++B) W e (by simp) (r.append r2) ?_,rfl,q⟩;rw[CY];omega
def aKu:V->List V->Hp->VK->Prop:=λx vs H Q=>∃l xs i k y,x=.ref l/\vs=[.int i]/\H l=some (.lst xs)/\-(2 ^ 63)<=i/\i<2 ^ 63/\H0 i xs.length=some k/\xs[k]? = some y/\Q y (upd H l (.lst (xs.eraseIdx k)))
theorem aEJ:MtM X "list.pop" aKu:=by
 intro pins s Z H x vs v us Q I rx rv h;obtain⟨l,xs,i,k,y,rfl,rfl,L,h1,h2,U,hy,q⟩:=h;cases rx;obtain⟨u,rfl,ru⟩:=rv.one;obtain⟨t,rfl⟩:=ru;obtain⟨z,B,n,r,W,e⟩:=I.lstM L;obtain⟨w,hw,G⟩:=r.get hy;refine Dw F.slot_list_pop ⟨_,e,rfl⟩ F.entry_list_pop (F.args_list_pop_2 _ _)
  (JU l B.toArray n i t k w (IE h1 h2) (by rw[Ah,<-W];exact U) (by rw[<-BX];exact hw) (by rw[Ah];omega)) ⟨e,?_⟩
 refine⟨y,_,I.lset (its':=B.eraseIdx k) L e ?_ (r.eraseIdx k) ?_,G,q⟩;show B.toArray.eraseIdxIfInBounds k=(B.eraseIdx k).toArray;rw[List.eraseIdxIfInBounds_toArray];have:=tY xs k;omega
def aPW:R2:=λx y H Q=>∃l k xs,x=.ref l/\y=.int k/\H l=some (.lst xs)/\-(2 ^ 63)<=k/\k<2 ^ 63/\xs.length*k.toNat<=sizeLine /\
 ∀p,H p=none->Q (.ref p) (upd H p (.lst (Af k.toNat xs).flatten))
theorem wB{α:Type}(xs:List α)(k:Nat):(Af k xs).flatten.length=k*xs.length:=by
 induction k with
 | zero=>simp|succ k B=>rw[BC,BR,CY,B,J7,Nat.add_comm]
theorem aKv:OpR X (Dt .Mult) aPW:=by
 intro pins s Z H x y v u Q I rx ry h;obtain⟨l,k,xs,rfl,rfl,hH,h1,h2,hz,q⟩:=h;cases rx;obtain⟨t,rfl⟩:=ry;obtain⟨z,B,n,r,hl,e⟩:=I.lstM hH;have q0:B.toArray.size*k.toNat<=sizeLine:=by rw[Ah,<-hl];exact hz
 have L:¬ B.toArray.size*k.toNat>(2 ^ 63-1) / 8:=by
  have:(sizeLine:Nat)<=(2 ^ 63-1) / 8:=by decide
  omega
 have W:¬ (!IF k)=true:=by rw[IE h1 h2];exact BL
 have G:¬ CK (B.toArray.size*k.toNat)=true:=by rw[yH q0];exact BL
 have q1:ID (λx1 x2=>x1++x2) #[] (Af (if B.toArray.isEmpty=true then 0 else k.toNat) B.toArray)=(Af k.toNat B).flatten.toArray:=by
  have f0:∀m:Nat,ID (λx1 x2=>x1++x2) #[] (Af m B.toArray)=(Af m B).flatten.toArray:=λm=>by have:=oF B m [];rw[DH] at this;exact this
  rw[f0];cases B with
  | nil=>simp|cons a r'=>rw[if_neg (by simp)]
 refine EN (T:= "list") (U:= "int") (by decide) ⟨_,e,rfl⟩ (λs'=>F8 s' k t) noFill_list_mul Ia Ep repeat_list HB.lookup
  (Dw Ep (F8 s k t) HC (Ha _ _) (int___rmul___int_list k t l B.toArray n)
   ⟨e,rfl,⟨_,e,rfl⟩,Dw F.slot_list_mul ⟨_,e,rfl⟩ F.entry_list_mul (F.args_list_mul_2 _ _) (GT l B.toArray n k t W L G) ⟨e,?_⟩⟩)
 rw[q1];exact⟨.ref _,_,I.lnew (t':=s.toks) (r.rep k.toNat) (by rw[wB,Hb];exact hz),rfl,q _ I.fresh⟩
end L2
namespace Att
open PySem PySem.W PySem.Calls PyProof.Rows
theorem pN:∀(ns:List Int) (vs:List Value),WellAll P h vs (ns.map KF)->CB vs ns:=by
 intro ns
 induction ns with
 | nil=>intro vs w;rw[J6] at w;cases w;exact .nil|cons n ns B=>
  intro vs w;rw[Ji] at w;cases w with
  | cons a b=>cases a;exact .cons _ _ (B _ b)
theorem aDl{l:K4}(hn:l.most=some n){h:Heap}
 (B:l.row.toRowW.claim.pre args=true) (q0:WellAll P h vals args) :
 ∃a vs ns,vals=[Bu a]/\args=[WData.list (ns.map KF)]/\h.get? a=some { cls:=.type "list",data:=.seq vs.toArray }/\CB vs ns/\ns.length<=n:=by
 have W:WShape.hasAll [] args [.list .int]=true:=(pre_splitW B).1;have hc:l.pre.holds [] { args:=args }=true:=(pre_splitW B).2;obtain⟨d,r,rfl,h1,h2⟩:=hasAllW_cons W;obtain rfl:=hasAllW_nil h2;obtain⟨xs,rfl,h3⟩:=hasW_list h1;obtain⟨ns,rfl⟩:=items_int h3;have I:ns.length<=n:=by
  unfold OpenLaw.pre at hc;have L:(WTm.not (.lt (.lit (.int (n:Int))) (.len (.arg 0)))).holds [] { args:=[.list (ns.map .int)] }=true:=by have L:=(holds_andW hc).1;rw[hn] at L;exact L
  have U:=condW_of L (w_not (w_lt w_lit (w_len_list (w_arg rfl))));rw[FL] at U;refine Nat.le_of_not_lt λq=>?_;have q':(n:Int)<((ns.length:Nat):Int):=by omega
  first
   | (rw[Ao q'] at U;exact absurd U (by decide))
   | (simp at U;omega)
 cases q0 with
 | cons w1 w2=>
  cases w2;cases w1 with
  | list ho G=>exact⟨_,_,ns,rfl,rfl,ho,pN ns _ G,I⟩
theorem aDm(l:K4)(args:List WData):l.row.toRowW.claim.post args (.bool true) args=true:=
 postW_of (r:=l.row.toRowW) (X:=(true==true))
  (show Ko [] (.bool true) .bool=true by first|rfl|decide|simp[Ko,WShape.arms,WShape.armsAll])
  (show(WTm.eq .res (.lit (.bool true))).value [] { args:=args,res:=some (.bool true),after:=args }=some (.bool (true==true)) from w_eq_bool (w_res rfl) w_lit) rfl
theorem attach_call{l:K4}{XP:(Str->Option Value)->Heap->Prop}{YP:AV->Heap->Prop}{d:DefRec}
 (hn:l.most=some n) (q1:d.params.defaults=[])
 (call:∀(w:AV) (s₀ B:Ad) (mg mb:Str->Option Value) (fa:Addr) (o:Obj) (pm cd doc:Value) (a:Addr) (vs:List Value) (ns:List Int),
  Ground q loose [] XP w s₀ mg mb B.heap->YP w B.heap ->
  B.heap.get? fa=some o->o.data=.func (docDef d.name d.params d.body d.scope pm cd doc)->B.heap.CodeRec cd d.name->mg d.name=some (.ref fa) ->
  B.heap.get? a=some { cls:=.type "list",data:=.seq vs.toArray }->CB vs ns->ns.length<=n->B.gens=#[] ->
  DF (Ay l.prog w) FB (.call (.ref fa) ⟨[.ref a],[]⟩) (λr s'=>r=.ok (.ret (.bool true))/\OldK B.heap s'.heap/\s'.os=B.os/\Ez s'.gens) B) :
 WalkO q loose XP YP l.row.toRowW d [] (λf vs=>IG f vs):=by intro w s₀ B mg mb G Y fa o pm cd doc dV kV ho hd q0 hD q2 hg args q5 as W q4 q7 q3 q6;obtain rfl:dV=.none:=Dflts.none hD q1;obtain rfl:kV=.none:=Dflts.noKw hD;obtain⟨a,vs,ns,rfl,rfl,U,I,L⟩:=aDl hn W q3;refine enter_call (Da (call w s₀ B mg mb fa o pm cd doc a vs ns G Y ho (fd_plain hd) q0 q2 U I L hg) λr s' hq=>?_);obtain⟨rfl,h2,h3,h4⟩:=hq;exact⟨.inl ⟨.bool true,.bool true,[],rfl,λ_=>rfl,.bool true,aDm l _,λ_=>⟨He,λ_ hm=>(nomatch hm)⟩⟩,h2,h3,h4⟩
end Att
namespace L2
open PySem PySem.Spec PyProof.Rows
theorem iH:∀{vs:List Value} {ns:List Int},CB vs ns->bJ (ns.map V.int) vs
 | _,_,.nil=>.nil|_,_,.cons n t h=>.cons ⟨t,rfl⟩ (iH h)
def aHL(H:Hp):Prop:=∀b,H b=none\/∃o xs,H b=some (.frz o (.lst xs))
theorem aEK{K:Ai}{mg mb:Str->Option Value}{B:Ad}{vs:List Value}{ns:List Int}
 (KX:K.In B.heap) (q2:B.heap.Ns AG mg) (hb:B.heap.Ns Fz mb) (q6:∀x:Str,x ≠ "__name__" -> mb x=BA x) (q1:B.heap.NoLimit) (hg:B.gens=#[])
 (ha:B.heap.get? a=some { cls:=.type "list",data:=.seq vs.toArray }) (hi:CB vs ns) (hl:ns.length<=sizeLine) (hr:lH k FB)
 (F:∀base:Heap,K.In base->base.Ns AG mg->vS P w K mg base CX k fa fd [x] sp) (W:∀(s:Ad) (u:Value),J4 s fd ⟨[u],[]⟩ [(x,u)])
 (q7:∀H:Hp,aHL H->SqL K H a (ns.map V.int)->sp [.ref a] H (λv _=>v=.bl true) λ_ _ _=>False)
 (q5:∀H e I,CX [] H B (λ_ _ _=>False) e I->False) :
 DF (Ay P w) FB (.call (.ref fa) ⟨[.ref a],[]⟩) (λr I=>r=.ok (.ret (.bool true))/\OldK B.heap I.heap/\I.os=B.os/\Ez I.gens) B:=by
 have rv:=iH hi;have q4:=hi.length;have U:∀H:Hp,aHL H->SqL K H a (ns.map V.int)->HOk P w H B.heap->(∀b,H b≠none->b=a)->(H a≠none->K.lookup a=none) ->
  DF (Ay P w) FB (.call (.ref fa) ⟨[.ref a],[]⟩) (λr I=>r=.ok (.ret (.bool true))/\OldK B.heap I.heap/\I.os=B.os/\Ez I.gens) B:=by
  intro H hO hS hok hA hK;have G:∀{b:Addr} {o:Obj},B.heap.get? b=some o->H b=none->(vP B.heap H).get? b=some o:=λe n=>aEk e n;have q8:∀{b:Addr} {o:Obj} {es:Array E5} {ep:Nat},B.heap.get? b=some o->o.data=.dict es ep->H b=none:=λ{b o es ep} e d=>by
   cases q:H b with
   | none=>rfl|some u=>have e':b=a:=hA b (by rw[q];simp);subst e';rw[ha] at e;cases e;have d':Data.seq vs.toArray _=Data.dict es ep:=d;cases d'
  have L:∀{b:Addr} {m:Str->Option Value},B.heap.Ns b m->(vP B.heap H).Ns b m:=λ{b m} ⟨o,es,ep,e,d,r⟩=>⟨o,es,ep,G e (q8 e d),d,r⟩
  have q0:K.In (vP B.heap H):=λb o e=>G (KX b o e) (by
   cases q:H b with
   | none=>rfl|some u=>
    have e':b=a:=hA b (by rw[q];simp);subst e';rw[hK (by rw[q];simp)] at e;cases e)
  have hM:Mod K mg (vP B.heap H):=⟨q0,L q2,⟨mb,L hb,q6⟩,let ⟨mc,h1,h2⟩:=q1;⟨mc,L h1,h2⟩⟩
  have e0:yE P w K mg (vP B.heap H) FB [] B H:=⟨rfl,hM,λb o e=>aHp e,Nat.le_of_eq (aDb _ _),trivial,λb hb=>absurd (show b∈([]:List Addr) from hb) (by simp),hok,.of_eq hg⟩
  refine Da ((F _ q0 (L q2)).run FB [] B H ⟨[.ref a],[]⟩ [.ref a] [.ref a] _ _ hr e0 (W B (.ref a)) (.cons rfl .nil) (q7 H hO hS)) λr I h=>?_;cases r with
  | error e=>exact(q5 H e I h).elim|ok fl=>
   cases fl with
   | next=>exact Cy h|brk=>exact Cy h|cont=>exact Cy h|ret u=>
    obtain⟨v,H',os,bare,un,q3,r',q⟩:=h;have q':v=.bl true:=q;subst q';obtain rfl:u=Cw true:=r';refine⟨rfl,OldK.of_keep λb o e=>?_,os,bare⟩;cases q:H b with
    | none=>exact un.keep b o e q (by intro z;exact absurd (show b∈([]:List Addr) from z) (by simp)) (by simp)|some u=>
     rcases hO b with z|⟨ob,xs,z⟩
     rw[q] at z;cases z;have z2:=un.frzs b ob _ z;obtain⟨e1,_⟩:=hok b _ z;obtain⟨e2,_⟩:=q3 b _ z2;rw[e] at e1;cases e1;exact e2
 cases hk:K.lookup a with
 | some o=>have e:=KX a o hk;rw[ha] at e;cases e;refine U (λ_=>none) (λ_=>.inl rfl) (.inr ⟨_,vs.toArray,_,hk,rfl,rfl,rfl,by rw[Ah,q4];exact hl,by simpa using rv⟩) (λb u z=>by have z':(none:Option HO)=some u:=z;cases z') (λb z=>absurd rfl z) λz=>absurd rfl z|none=>refine U (λb=>if b=a then some (.frz { cls:=.type "list",data:=.seq vs.toArray } (.lst (ns.map V.int))) else none) (λb=>?_) (.inl (.inr ⟨{ cls:=.type "list",data:=.seq vs.toArray },if_pos rfl⟩)) (λb u z=>?_) (λb z=>?_) λ_=>hk;by_cases hb:b=a;exact .inr ⟨_,_,if_pos hb⟩;exact .inl (if_neg hb);by_cases hb:b=a;have z':=(if_pos hb).symm.trans z;cases z';subst hb;exact⟨ha,by rw[FL];exact hl,vs,_,rv,ha⟩;have z':=(if_neg hb).symm.trans z;cases z';by_cases hb:b=a;exact hb;exact absurd (if_neg hb) z
def fK(s:Cj):Gp:=match s with|.FunctionDef _ a _ _ _ _ _ _ _ _=>a|_=>{ posonlyargs:=[],args:=[],vararg:=none,kwonlyargs:=[],kw_defaults:=[],kwarg:=none,defaults:=[] }
def iT(s:Cj):List Cj:=match s with|.FunctionDef _ _ b _ _ _ _ _ _ _=>b|_=>[]
def bK(s:Cj):DA:=match s with|.FunctionDef _ _ _ _ _ _ sc _ _ _=>sc|_=>{ kind:=.function,names:=[],isGenerator:=false,isCoroutine:=false }
structure Fun (K:Ai) (x qual:Str) (st:Cj) (f:Addr) (fd:E9):Prop where
 ex:∃(oc:Value) (od:Option Addr) (kV doc pm:Value) (an:Option Addr) (cdv ct:Value) (osl:Array (Option Value)),
  fd=F3 x qual (fK st) (iT st) (bK st) .none kV doc pm an cdv ct/\K.lookup f=some ⟨oc,od,.func fd,osl⟩/\IB K cdv qual=true
 kp:EE K (.ref f)=true
section
variable {P:AB} {w:AV} {K:Ai} {mg:Str->Option Value} {base:Heap}
theorem Fun.binds{x qual:Str}{st:Cj}{f:Addr}{fd:E9}{ps:List Str}(F:Fun K x qual st f fd)
 (h:∀(kV doc pm:Value) (an:Option Addr) (cdv ct:Value) (us:List Value),us.length=ps.length->Iz (F3 x qual (fK st) (iT st) (bK st) .none kV doc pm an cdv ct) ⟨us,[]⟩=pure (ps.zip us)):jP K fd ps []:=by obtain⟨oc,od,kV,doc,pm,an,cdv,ct,osl,rfl,G,B⟩:=F.ex;exact .all (h kV doc pm an cdv ct)
end
theorem aKw{A B:Prop}(h:B):if false=true then A else B:=by rw[if_neg BL];exact h
theorem aNh{A B:Prop}(h:A):if true=true then A else B:=by rw[if_pos rfl];exact h
def aW(H H':Hp):Prop:=∀b o,H b=some o->H' b=some o
theorem aW.refl(H:Hp):aW H H:=λ_ _ h=>h
theorem aW.trans(a:aW H H1)(b:aW H1 H2):aW H H2:=λc o h=>b c o (a c o h)
theorem aW.free(e:aW H H')(h:H' l=JV):H l=JV:=by
 cases q:H l with
 | none=>rfl|some o=>rw[e l o q] at h;cases h
theorem aW.seq{K:Ai}{H H':Hp}{a:Addr}{xs:List V}(e:aW H H')(h:SqL K H a xs):SqL K H' a xs:=by rcases h with(h|⟨o,h⟩)|h;exact .inl (.inl (e _ _ h));exact .inl (.inr ⟨o,e _ _ h⟩);exact .inr h
end L2
end
namespace L2
open PySem PySem.Spec PyProof.Rows PySem.Builtin
set_option maxRecDepth 100000 in
theorem oG:fillsNumberSlot (.type "tuple") "mul" = pure false:=
 PySem.fillsNumberSlot_seq Ea.lookup (by decide +kernel) F.slot_tuple_rmul.lookup (by decide +kernel)
theorem wC:seqRepeat? (.type "tuple")=pure (some (.builtin "tuple.__mul__")):=by unfold seqRepeat?;rw[PySem.seqSlot_of (name:= "__mul__") Ea.lookup (by decide +kernel)];rfl
theorem qW(a:Int)(t:HQ)(l:Addr)(od:Option Addr)(items:Array Value)(n:Nat)(sl:Array (Option Value)):JS (Builtin.«int.__rmul__» ⟨[.int a t,.ref l],[]⟩) (λ_ R s=>s.heap.get? l=some { cls:=.type "tuple",dict:=od,data:=.seq items n,slots:=sl }/\R (.ok (.ret FZ)) s):=
 .of_wp λprog w A R s h=>by obtain⟨hp,g,d,tk,os⟩:=s;obtain⟨B,h⟩:=h;wp_walk;exact⟨_,rfl,h⟩
theorem yI(l:Addr)(t:HQ)(od:Option Addr)(items:Array Value)(n:Nat)(sl:Array (Option Value)):JS (Builtin.«tuple.__mul__» ⟨[.ref l,.int 1 t],[]⟩) (λ_ R s=>s.heap.get? l=some { cls:=.type "tuple",dict:=od,data:=.seq items n,slots:=sl }/\R (.ok (.ret (.ref l))) s):=
 .of_wp λprog w A R s h=>by obtain⟨hp,g,d,tk,os⟩:=s;obtain⟨B,h⟩:=h;wp_walk;exact⟨_,rfl,h⟩
theorem yJ(l:Addr)(t:HQ)(k:Int)(od:Option Addr)(items:Array Value)(n:Nat)(sl:Array (Option Value))(h1:1<k)(h2:k<2 ^ 63)(B:items.isEmpty=false)(I:items.size*k.toNat<=sizeLine)(hs:((Af k.toNat items).foldl (·++·) #[]).size<=sizeLine):JS (Builtin.«tuple.__mul__» ⟨[.ref l,.int k t],[]⟩) (λ_ R s=>s.heap.get? l=some { cls:=.type "tuple",dict:=od,data:=.seq items n,slots:=sl }/\R (.ok (.ret (.ref s.heap.objs.size))) { s with heap:=s.heap.push { cls:=.type "tuple",data:=.seq ((Af k.toNat items).foldl (·++·) #[]) } }):=
 .of_wp λprog w A R s h=>by
  obtain⟨hp,g,d,tk,os⟩:=s;obtain⟨G,h⟩:=h;wp_walk;have k1:(decide (k < -2 ^ 63)||decide (k ≥ 2 ^ 63))=false:=by rw[Az (by omega),Az (by omega)];rfl
  have k2:(items.isEmpty||k==1)=false:=by rw[B,beq_eq_false_iff_ne.mpr (by omega)];rfl
  have k3:(decide (k<=0)||items.isEmpty)=false:=by rw[B,Az (by omega)];rfl
  have e:((items.size*k.toNat:Nat):Int)=(items.size:Int)*k:=by rw[Ib,BV (by omega)]
  have L:Tuple.tupleTooMany ((items.size:Int)*k)=false:=by unfold Tuple.tupleTooMany;rw[<-e];exact Az (by omega)
  have k5:¬ (items.size:Int)*k>(2 ^ 63-1) / 8:=by
   have:(sizeLine:Nat)<=(2 ^ 63-1) / 8:=by decide
   rw[<-e];omega
  rw[if_neg (by rw[k1];exact bN)]
  wp_walk
  rw[if_neg (by rw[k2];exact bN),if_neg (by rw[k3];exact bN),if_neg k5];unfold Tuple.tupleExact newObj;simp only[if_neg (Db.mpr hs)]
  wp_walk
  exact⟨_,rfl,h⟩
theorem aHM:OpR X (Dt .Mult) (λx y H Q=>∃a k xs,x=.ref a/\y=.int k/\SqT X.K H a xs/\xs≠[]/\1<=k/\k<2 ^ 63/\xs.length*k.toNat<=sizeLine /\
 (k=1->Q (.ref a) H)/\(1<k->∀p,H p=none->Q (.ref p) (upd H p (.tup (Af k.toNat xs).flatten)))):=by
 intro pins s Z H x y v u Q I rx ry h;obtain⟨a,k,xs,rfl,rfl,ha,hx,h1,h2,U,q1,q2⟩:=h;cases rx;obtain⟨t,rfl⟩:=ry;obtain⟨B,r,⟨o,G,hc,n,hd⟩,_⟩:=I.tuple ha;obtain⟨oc,od,dt,sl⟩:=o;subst hc hd;have L:=λW (hq:An (Ay X.prog X.w) X.A (call (.builtin "tuple.__mul__") [.ref a,.int k t]) W X.xe s)=>EN (by decide) (show s.TypeIs (.ref a) "tuple" from⟨_,G,rfl⟩) (λs'=>F8 s' k t) oG Ia Ep wC HB.lookup
  (Dw Ep (F8 s k t) HC (Ha _ _) (qW k t a od B.toArray n sl) ⟨G,rfl,⟨_,G,rfl⟩,hq⟩)
 refine L _ ?_;by_cases hk:k=1;subst hk;exact Dw Ea ⟨_,G,rfl⟩ Hf (GE _ _) (yI a t od B.toArray n sl) ⟨G,.ref a,H,I,rfl,q1 rfl⟩;have e0:B.toArray.isEmpty=false:=by
  cases B with
  | nil=>exact absurd (r.nil_iff.mp rfl) hx|cons _ _=>rfl
 have f0:=oF B k.toNat [];rw[DH] at f0;refine Dw Ea ⟨_,G,rfl⟩ Hf (GE _ _) (yJ a t k od B.toArray n sl (by omega) h2 e0 (by rw[Ah,<-r.length];exact U) (by rw[f0,Ah,wB,<-r.length,Hb];exact U)) ⟨G,?_⟩;rw[f0];refine⟨.ref s.heap.objs.size,_,I.laid (λb ob q=>Ab _ q) (Al _) ?_,rfl,q2 (by omega) _ (I.hok.fresh (Al _))⟩;exact⟨by rw[wB,Hb];exact U,_,r.rep k.toNat,Hz _ _⟩
end L2
namespace Hp
open PySem (Str Operator CmpOp)
inductive D where
 | non|bl (b:Bool)|int (i:Int)|str (x:Str)
 | tup (ds:List D)|lst (ds:List D)
 | err (c:Str) (fs:List D)
 deriving Inhabited
mutual
noncomputable def noL:D->Bool
 | .tup ds=>noLs ds|.lst _=>false|.err _ _=>false|_=>true
noncomputable def noLs:List D->Bool
 | []=>true|d::ds=>noL d&&noLs ds
end
mutual
def jQ:D->Bool
 | .tup ds=>noDics ds|.lst ds=>noDics ds|.err _ _=>false|_=>true
def noDics:List D->Bool
 | []=>true|d::ds=>jQ d&&noDics ds
end
noncomputable def lim:Nat:=1000000
def b2i(b:Bool):Int:=if b then 1 else 0
noncomputable def eqL(f:D->D->Option Bool):List D->List D->Option Bool
 | [],[]=>some true|a::as,b::bs=>match f a b,eqL f as bs with|some x,some y=>some (x&&y)|_,_=>none
 | _,_=>some false
noncomputable def eqF:Nat->D->D->Option Bool
 | 0,_,_=>none|n+1,a,b=>match a,b with|.non,.non=>some true|.bl a,.bl b=>some (a==b)|.int a,.int b=>some (a==b)|.str a,.str b=>some (a==b)|.bl a,.int b=>some (b2i a==b)|.int a,.bl b=>some (a==b2i b)|.tup as,.tup bs=>eqL (eqF n) as bs|.lst as,.lst bs=>if as.length=bs.length then eqL (eqF n) as bs else some false|.err _ _,_=>none|_,.err _ _=>none|_,_=>some false
def gH(n:Nat):List D->List D->Option Bool
 | [],[]=>some true|a::as,b::bs=>match eqF n a b,gH n as bs with|some x,some y=>some (x&&y)|_,_=>none
 | _,_=>some false
@[simp] theorem wD (n:Nat):∀as bs:List D,eqL (eqF n) as bs=gH n as bs
 | [],[]=>rfl|[],_::_=>rfl|_::_,[]=>rfl|a::as,b::bs=>by rw[eqL,gH,wD n as bs]
def mP:Nat:=120
def eqD(a b:D):Option Bool:=eqF mP a b
inductive R (α:Type) where
 | ok (a:α)|exc (x:D)|bad
 deriving Inhabited
noncomputable def R.bind{α β:Type}(x:R α)(f:α->R β):R β:=match x with|.ok a=>f a|.exc e=>.exc e|.bad=>.bad
instance:Monad R where
 pure:=.ok
 bind:=.bind
def R.of{α:Type}:Option α->R α
 | some a=>.ok a|none=>.bad
def R.calm{α:Type}:R α->R α
 | .exc _=>.bad|x=>x
noncomputable def R.iff{α:Type}(c:Bool)(x:R α):R α:=if c then x else .bad
structure Vl where
 d:D
 fr:Bool:=false
 pa:Bool:=false
 al:List Nat:=[]
 deriving Inhabited
noncomputable def Vl.cl(d:D):Vl:=⟨d,false,false,[]⟩
def Vl.sub(v:Vl)(d:D):Vl:=if noL d then .cl d else ⟨d,false,v.pa,v.al⟩
inductive Sl where
 | x|sh (pa:Bool) (d:D)|own (pa:Bool) (ds:List D)
 deriving Inhabited
abbrev Sl.F:=Sl.sh false
abbrev Sl.T:=Sl.sh true
abbrev Sl.O:=Sl.own false
abbrev Sg:=List Sl
def Sl.val(i:Nat):Sl->R Vl
 | .x=>.bad|.sh pa d=>.ok ⟨d,false,pa&&!noL d,[]⟩|.own pa ds=>.ok ⟨.lst ds,false,pa,[i]⟩
def cT(Z:Sg)(i:Nat):R Vl:=match Z[i]? with|some s=>s.val i|none=>.bad
def Sl.freeze:Sl->Sl
 | .own pa ds=>.sh pa (.lst ds)|s=>s
def freeze(Z:Sg):List Nat->Sg
 | []=>Z|i::is=>freeze (match Z[i]? with|some s=>Z.set i s.freeze|none=>Z) is
def Vl.slot(v:Vl):Sl:=match v.fr,v.d with|true,.lst ds=>.own v.pa ds|_,d=>.sh v.pa d
inductive Bi where
 | len|list|tuple|min|max|abs|int|str|sum|all|any|sorted|bool|repr
 deriving DecidableEq,Inhabited
inductive Cl where
 | tInt|tBool|tStr|tList|tTuple|tDict|own (c:Str)|tValueError
 deriving DecidableEq,Inhabited
inductive T where
 | n (i:Nat)
 | t (ts:List Nat)
 deriving Inhabited
mutual
inductive E where
 | c (d:D)
 | v (i:Nat)
 | op (o:Operator) (a b:E)
 | neg (a:E)
 | nt (a:E)
 | an (a b:E)
 | orr (a b:E)
 | ife (t a b:E)
 | cmp (o:CmpOp) (a b:E)
 | cmp2 (o o':CmpOp) (a b c:E)
 | idx (a b:E)
 | sli (a:E) (lo hi:Es)
 | tup (es:Es)
 | lst (es:Es)
 | call (f:Nat) (es:Es)
 | bi (b:Bi) (es:Es)
 | isi (a:E) (cs:List Cl)
 | isx (a:E) (cs:List Cl)
 | comp (k:Nat) (caps:List Nat) (t:T) (it:It) (cond:Es) (elt:E)
 | numset (a:E)   -- len(set(a))
 | tget (i:Nat) (a:E)   -- a dict of the module,.get(a)
 | sset (a:E)   -- sorted(set(a)),numbers from 0 to 3
 | plc (i:Nat) (c:Str)   -- x.place,x an exception of the class c
inductive Es where
 | z|k (e:E) (es:Es)
inductive It where
 | seq (e:E)|rng (a b:E)|zip (a b:E)|enum (a:E)|dwn (a:E)   -- range(a,-1,-1)
end
instance:Inhabited E:=⟨.c .non⟩
mutual
inductive S where
 | set (t:T) (e:E)
 | mov (i j:Nat)
 | setIx (i:Nat) (k e:E)
 | app (i:Nat) (e:E)
 | ext (i:Nat) (e:E)
 | ret (e:E)
 | retv (i:Nat)
 | retN
 | iff (c:E) (a b:Ss)
 | for (t:T) (it:It) (b:Ss)
 | whl (c:E) (b:Ss)
 | brk|cnt|pass|off
 | ex (e:E)
 | rse (c:Str) (keep:Bool) (es:Es)
 | tryN (b:Ss)   -- try: b,which ends without an exception
 | tryA (b:Ss) (c:Str) (i j:Nat)   -- try: b except c as j: i=j
 | appPop (i j:Nat) (e:E) (k:Nat)   -- i.append(j.pop(e)[k])
inductive Ss where
 | z|k (s:S) (ss:Ss)
end
noncomputable abbrev E.i(k:Int):E:=.c (.int k)
noncomputable abbrev Es.o(a:E):Es:=.k a .z
abbrev Es.p(a b:E):Es:=.k a (.o b)
abbrev Es.q(a b c:E):Es:=.k a (.p b c)
noncomputable abbrev Ss.o(a:S):Ss:=.k a .z
structure Fn where
 np:Nat
 ns:Nat
 body:Ss
structure Pg where
 fns:List Fn
 above:List (Str×List Cl)
 tabs:List (List (Str×D)):=[]
abbrev Rt:=D×Bool×Bool
abbrev Caller:=Nat->List D->R Rt
def iI(i j:Int):Bool:=(decide (-(2 ^ 64)<i)&&decide (i<2 ^ 64))||(decide (-(2 ^ 64)<j)&&decide (j<2 ^ 64))
def yK(j:Int):Bool:=decide (0<j)&&decide (j<1073741824)
def aT(k:Int):Bool:=decide (-(2 ^ 62)<=k)&&decide (k<2 ^ 62)
def Str.rep(x:Str)(k:Nat):Str:=⟨(Af k x.cps).foldl (·++·) #[]⟩
@[simp] noncomputable def aHN (x y:Vl):R Vl:=match x.d,y.d with|.int i,.int j=>.ok (.cl (.int (i+j)))|.tup a,.tup b=>.iff (decide (a.length+b.length<=lim)) (.ok ⟨.tup (a++b),false,x.pa||y.pa,x.al++y.al⟩)|.lst a,.lst b=>.iff (decide (a.length+b.length<=lim)) (.ok ⟨.lst (a++b),true,(x.pa&&!noLs a)||(y.pa&&!noLs b),(if noLs a then [] else x.al)++(if noLs b then [] else y.al)⟩)|_,_=>.bad
@[simp] noncomputable def aHO (x y:Vl):R Vl:=match x.d,y.d with|.int i,.int j=>.iff (iI i j) (.ok (.cl (.int (i*j))))|.lst a,.int k=>.iff (x.fr&&aT k&&decide (a.length*k.toNat<=lim)&&noLs a) (.ok ⟨.lst (Af k.toNat a).flatten,true,false,[]⟩)|.tup a,.int k=>.iff (decide (1<=k)&&aT k&&!a.isEmpty&&decide (a.length*k.toNat<=lim)&&noLs a) (.ok (.cl (.tup (Af k.toNat a).flatten)))|_,_=>.bad
@[simp] def aAK (f:Int->Int->R Vl) (x y:Vl):R Vl:=match x.d,y.d with|.int i,.int j=>f i j|_,_=>.bad
noncomputable def opD(o:Operator)(x y:Vl):R Vl:=match o with|.Add=>aHN x y|.Mult=>aHO x y|.Sub=>aAK (λi j=>.ok (.cl (.int (i-j)))) x y|.FloorDiv=>aAK (λi j=>.iff (yK j) (.ok (.cl (.int (i / j))))) x y|.Mod=>aAK (λi j=>.iff (decide (0<j)) (.ok (.cl (.int (i % j))))) x y|_=>.bad
noncomputable def aEL:D->Option Bool
 | .non=>some false|.bl b=>some b|.int i=>some (i != 0)|.str x=>if x.length<=lim then some (x.length != 0) else none|.tup ds=>some (!ds.isEmpty)|.lst ds=>some (!ds.isEmpty)|_=>none
def iJ(x:Vl):R Bool:=.of (aEL x.d)
def dO:List D->Option (List Int)
 | []=>some []|.int a::ds=>match dO ds with|some ns=>some (a::ns)|none=>none
 | _=>none
def aHP:List Int->List Int->Bool
 | [],[]=>false|[],_::_=>true|_::_,[]=>false|x::xs,y::ys=>if x=y then aHP xs ys else decide (x<y)
def aKx(as bs:List D):Option Bool:=match dO as,dO bs with|some ns,some ms=>some (aHP ns ms)|_,_=>none
def ltD:D->D->Option Bool
 | .int a,.int b=>some (decide (a<b))|.tup as,.tup bs=>aKx as bs|_,_=>none
def leD:D->D->Option Bool
 | .int a,.int b=>some (decide (a<=b))|_,_=>none
def isNone:D->Bool
 | .non=>true|_=>false
def mQ(x:D):List D->Option Bool
 | []=>some false|y::ys=>match eqD y x,mQ x ys with|some a,some b=>some (a||b)|_,_=>none
def inD(x y:D):Option Bool:=match x,y with|x,.lst ys=>if noDics ys then mQ x ys else none|x,.tup ys=>if noDics ys then mQ x ys else none|.str a,.str b=>some (!(HW b a 0 b.length 1).isEmpty)|_,_=>none
def cZ(o:CmpOp)(x y:D):Option Bool:=match o with
 | .Eq=>eqD x y|.NotEq=>(eqD x y).map (!·)|.Lt=>ltD x y|.Gt=>match x,y with|.int a,.int b=>some (decide (b<a))|_,_=>none
 | .LtE=>leD x y|.GtE=>none|.Is=>match y with|.non=>some (isNone x)|_=>none
 | .IsNot=>match y with|.non=>some (!isNone x)|_=>none
 | .In=>inD x y|.NotIn=>(inD x y).map (!·)
noncomputable def ixN(n:Nat)(k:Int):Option Nat:=
 if 0<=k then (if k<n then some k.toNat else none) else (if -(n:Int)<=k then some (k+n).toNat else none)
noncomputable def eA(x y:Vl):R Vl:=match x.d,y.d with
 | .lst ds,.int k=>match ixN ds.length k with
  | some j=>match ds[j]? with|some d=>.ok (x.sub d)|none=>.bad
  | none=>.bad
 | .tup ds,.int k=>match ixN ds.length k with
  | some j=>match ds[j]? with|some d=>.ok (x.sub d)|none=>.bad
  | none=>.bad
 | .str a,.int k=>.iff (decide (a.length<=lim)) (match ixN a.length k with
  | some j=>match a.cps.toList[j]? with|some c=>.ok (.cl (.str ⟨#[c]⟩))|none=>.bad
  | none=>.bad)
 | _,_=>.bad
def sIx(n d:Nat):Option Int->Nat
 | none=>d|some v=>if v<0 then (v+(n:Int)).toNat else min v.toNat n
def cut{α:Type}(xs:List α)(lo hi:Option Int):List α:=(xs.drop (sIx xs.length 0 lo)).take (sIx xs.length xs.length hi-sIx xs.length 0 lo)
def aDn(x:Str)(lo hi:Option Int):Str:=⟨(cut x.cps.toList lo hi).toArray⟩
noncomputable def fA(x:Vl)(lo hi:Option Int):R Vl:=match x.d with|.lst ds=>.ok ⟨.lst (cut ds lo hi),true,x.pa&&!noLs ds,if noLs ds then [] else x.al⟩|.tup ds=>.ok ⟨.tup (cut ds lo hi),false,x.pa&&!noLs ds,if noLs ds then [] else x.al⟩|.str a=>.iff (decide (a.length<=lim)) (.ok (.cl (.str (aDn a lo hi))))|_=>.bad
noncomputable def isI(cs:List Cl)(P:Pg):D->Option Bool
 | .non=>some false|.bl _=>some (cs.contains .tBool||cs.contains .tInt)|.int _=>some (cs.contains .tInt)|.str _=>some (cs.contains .tStr)|.tup _=>some (cs.contains .tTuple)|.lst _=>some (cs.contains .tList)|.err _ _=>none
noncomputable def isX(cs:List Cl)(P:Pg):D->Option Bool
 | .non=>match cs with|[.tValueError]=>some false|_=>none
 | .err c _=>match P.above.lookup c with|some ab=>some (cs.any λa=>ab.contains a)|none=>none
 | _=>none
def aNi:List D->Int->Option Int
 | [],a=>some a|.int i::ds,a=>aNi ds (a+i)|.bl b::ds,a=>aNi ds (a+b2i b)|_,_=>none
def cE:List D->Option (List Bool)
 | []=>some []|.bl a::ds=>match cE ds with|some bs=>some (a::bs)|none=>none
 | _=>none
noncomputable def gI:List D->Option (List (Sum Int Str))
 | []=>some []|.int a::ds=>match gI ds with|some ks=>some (.inl a::ks)|none=>none
 | .str a::ds=>match gI ds with|some ks=>some (.inr a::ks)|none=>none
 | _=>none
def aAL(ks:List (Sum Int Str)):List (Sum Int Str):=ks.foldl (λZ v=>if Z.any (·==v) then Z else Z++[v]) []
noncomputable def aNj(x:D):List D->Option (List D)
 | []=>some [x]|y::ys=>match ltD x y with
  | some true=>some (x::y::ys)|some false=>match aNj x ys with|some r=>some (y::r)|none=>none
  | none=>none
def aNk:List D->Option (List D)
 | []=>some []|d::ds=>match aNk ds with|some r=>aNj d r|none=>none
@[simp] noncomputable def yL (b:Bi) (x:Vl):R Vl:=match b with
 | .len=>match x.d with|.lst ds=>.ok (.cl (.int ds.length))|.tup ds=>.ok (.cl (.int ds.length))|.str a=>.iff (decide (a.length<=lim)) (.ok (.cl (.int a.length)))|_=>.bad
 | .list=>match x.d with|.lst ds=>.ok ⟨.lst ds,true,x.pa&&!noLs ds,if noLs ds then [] else x.al⟩|.tup ds=>.ok ⟨.lst ds,true,x.pa&&!noLs ds,if noLs ds then [] else x.al⟩|_=>.bad
 | .tuple=>match x.d with|.lst ds=>.ok ⟨.tup ds,false,x.pa&&!noLs ds,if noLs ds then [] else x.al⟩|.tup ds=>.ok ⟨.tup ds,false,x.pa,x.al⟩|_=>.bad
 | .int=>match x.d with|.int i=>.ok (.cl (.int i))|.bl b=>.ok (.cl (.int (b2i b)))|_=>.bad
 | .all=>match x.d with
  | .lst ds=>match cE ds with|some bs=>.ok (.cl (.bl (bs.all id)))|none=>.bad
  | _=>.bad
 | .any=>match x.d with
  | .lst ds=>match cE ds with|some bs=>.ok (.cl (.bl (bs.any id)))|none=>.bad
  | _=>.bad
 | _=>.bad
@[simp] noncomputable def aPX (b:Bi) (x y:Vl):R Vl:=match b with
 | .min=>match x.d,y.d with|.int i,.int j=>.ok (.cl (.int (if j<i then j else i)))|_,_=>.bad
 | .max=>match x.d,y.d with|.int i,.int j=>.ok (.cl (.int (if j>i then j else i)))|_,_=>.bad
 | _=>.bad
def biD(b:Bi)(xs:List Vl):R Vl:=match xs with|[x]=>yL b x|[x,y]=>aPX b x y|_=>.bad
def bY(vs:List Vl):List Nat:=vs.flatMap (·.al)
def dP(vs:List Vl):Bool:=vs.any (·.pa)
def aBR(vs:List Vl):Vl:=⟨.tup (vs.map (·.d)),false,dP vs,bY vs⟩
def yM(vs:List Vl):Vl:=⟨.lst (vs.map (·.d)),true,dP vs,bY vs⟩
def iU(args:List Vl)(r:Rt):Vl:=if r.2.2 then ⟨r.1,r.2.1,dP args,bY args⟩ else ⟨r.1,r.2.1,false,[]⟩
def tN:List D->Option (List Nat)
 | []=>some []|.int i::ds=>if 0<=i/\i<=3 then (match tN ds with|some r=>some (i.toNat::r)|none=>none) else none|_=>none
def gJ(ns:List Nat):List Nat:=(Ap 4).filter λk=>decide (k∈ns)
def iB(a b:Int):List D:=(Ap (b-a).toNat).map λ(k:Nat)=>.int (a+(k:Int))
def pF(a:Int):List D:=(Ap (a+1).toNat).map λ(k:Nat)=>.int (a-(k:Int))
def iK:Int->List D->List D
 | _,[]=>[]
 | k,d::ds=>.tup [.int k,d]::iK (k+1) ds
def fQ:List D->List D->List D
 | a::as,b::bs=>.tup [a,b]::fQ as bs|_,_=>[]
noncomputable def cR(Z:Sg)(v:Vl):T->R Sg
 | .n i=>.ok (Z.set i v.slot)|.t is=>match v.d with|.tup ds=>if ds.length=is.length then .ok ((is.zip ds).foldl (λZ p=>Z.set p.1 (v.sub p.2).slot) Z) else .bad|_=>.bad
noncomputable def jR(f:Vl->R (Option Vl)):List Vl->R (List Vl)
 | []=>.ok []|x::xs=>do
  let y<-f x
  let ys<-jR f xs
  match y with
  | some y=>.ok (y::ys)|none=>.ok ys
def yN:D->Option (List D)
 | .lst ds=>some ds|.tup ds=>some ds|_=>none
def items(x:Vl)(ds:List D):List Vl:=ds.map x.sub
def dW(k:Nat)(caps al:List Nat)(vs:List Vl):Vl:=
 if noLs (vs.map (·.d)) then ⟨.lst (vs.map (·.d)),true,false,[]⟩
 else ⟨.lst (vs.map (·.d)),true,dP vs,al++(bY vs).filterMap λj=>caps[j-k]?⟩
def aKy(Z:Sg)(i:Nat)(c:Str):R D:=match Z[i]? with|some (.sh _ (.err k [.int n]))=>if k=c then .ok (.int n) else .bad|_=>.bad
section
variable (P:Pg) (W:Caller)
mutual
noncomputable def ev(Z:Sg):E->R Vl
 | .c d=>.ok (.cl d)|.v i=>cT Z i|.op o a b=>do let x<-ev Z a;let y<-ev Z b;opD o x y
 | .neg a=>do
  let x<-ev Z a
  match x.d with
  | .int i=>.ok (.cl (.int (-i)))|_=>.bad
 | .nt a=>do let x<-ev Z a;let k<-iJ x;.ok (.cl (.bl (!k)))
 | .an a b=>do
  let x<-ev Z a
  match x.d with
  | .bl true=>ev Z b|.bl false=>.ok (.cl (.bl false))|_=>.bad
 | .orr a b=>do
  let x<-ev Z a
  match x.d with
  | .bl true=>.ok (.cl (.bl true))|.bl false=>ev Z b|_=>.bad
 | .ife t a b=>do
  let x<-tst Z t
  if x then ev Z a else ev Z b
 | .cmp o a b=>do
  let x<-ev Z a
  let y<-ev Z b
  match cZ o x.d y.d with
  | some k=>.ok (.cl (.bl k))|none=>.bad
 | .cmp2 o o' a b c=>do
  let x<-ev Z a
  let y<-ev Z b
  match cZ o x.d y.d with
  | some true=>do
   let z<-ev Z c
   match cZ o' y.d z.d with
   | some k=>.ok (.cl (.bl k))|none=>.bad
  | some false=>.ok (.cl (.bl false))|none=>.bad
 | .idx a b=>do let x<-ev Z a;let y<-ev Z b;eA x y
 | .sli a lo hi=>do
  let x<-ev Z a
  let l<-evs Z lo
  let h<-evs Z hi
  match l,h with
  | [],[]=>fA x none none|[l],[]=>match l.d with|.int l=>.iff (aT l) (fA x (some l) none)|_=>.bad
  | [],[h]=>match h.d with|.int h=>.iff (aT h) (fA x none (some h))|_=>.bad
  | [l],[h]=>match l.d,h.d with|.int l,.int h=>.iff (aT l&&aT h) (fA x (some l) (some h))|_,_=>.bad
  | _,_=>.bad
 | .tup es=>do let vs<-evs Z es;.ok (aBR vs)
 | .lst es=>do let vs<-evs Z es;.ok (yM vs)
 | .call f es=>do
  let vs<-evs Z es
  let r<-W f (vs.map (·.d))
  .ok (iU vs r)
 | .bi b es=>do let vs<-evs Z es;biD b vs
 | .isi a cs=>do
  let x<-ev Z a
  match isI cs P x.d with
  | some k=>.ok (.cl (.bl k))|none=>.bad
 | .isx a cs=>do
  let x<-ev Z a
  match isX cs P x.d with
  | some k=>.ok (.cl (.bl k))|none=>.bad
 | .comp k caps t it cond elt=>do
  let xs<-walk Z it
  .iff (decide (xs.1.length<=lim)) (do
   let vs<-jR (λx=>do
    let Z1<-cR (Af k .x++caps.map λi=>((freeze Z xs.2)[i]?).getD .x) x t
    let k<-(tsts Z1 cond).calm
    if k then do let y<-ev Z1 elt;.ok (some y) else .ok none) xs.1
   .ok (dW k caps xs.2 vs))
 | .numset a=>do
  let x<-ev Z a
  match x.d with
  | .lst ds=>match gI ds with|some ks=>.iff (decide (ds.length<=1000)) (.ok (.cl (.int (aAL ks).length)))|none=>.bad
  | _=>.bad
 | .tget i a=>do
  let x<-ev Z a
  match x.d,P.tabs[i]? with
  | .str k,some t=>.ok (.cl ((t.lookup k).getD .non))|_,_=>.bad
 | .plc i c=>do
  let d<-(aKy Z i c).calm
  .ok (.cl d)
 | .sset a=>do
  let x<-(ev Z a).calm
  match x.d with
  | .lst ds=>match tN ds with|some ns=>.ok ⟨.lst ((gJ ns).map λ(k:Nat)=>.int (k:Int)),true,false,[]⟩|none=>.bad
  | _=>.bad
noncomputable def tst(Z:Sg):E->R Bool
 | .nt a=>do let x<-tst Z a;.ok (!x)
 | .an a b=>do
  let x<-tst Z a
  if x then tst Z b else .ok false
 | .orr a b=>do
  let x<-tst Z a
  if x then .ok true else tst Z b
 | .c d=>iJ (.cl d)|.v i=>do let x<-cT Z i;iJ x
 | .cmp o a b=>do
  let x<-ev Z a
  let y<-ev Z b
  match cZ o x.d y.d with
  | some k=>.ok k|none=>.bad
 | .cmp2 o o' a b c=>do
  let x<-ev Z a
  let y<-ev Z b
  match cZ o x.d y.d with
  | some true=>do
   let z<-ev Z c
   match cZ o' y.d z.d with
   | some k=>.ok k|none=>.bad
  | some false=>.ok false|none=>.bad
 | .call f es=>do
  let vs<-evs Z es
  let r<-W f (vs.map (·.d))
  iJ (iU vs r)
 | .bi b es=>do let vs<-evs Z es;let x<-biD b vs;iJ x
 | .idx a b=>do let x<-ev Z a;let y<-ev Z b;let z<-eA x y;iJ z
 | .isi a cs=>do
  let x<-ev Z a
  match isI cs P x.d with
  | some k=>.ok k|none=>.bad
 | .isx a cs=>do
  let x<-ev Z a
  match isX cs P x.d with
  | some k=>.ok k|none=>.bad
 | _=>.bad
noncomputable def evs(Z:Sg):Es->R (List Vl)
 | .z=>.ok []|.k e es=>do let x<-ev Z e;let xs<-evs Z es;.ok (x::xs)
noncomputable def walk(Z:Sg):It->R (List Vl×List Nat)
 | .seq e=>do
  let x<-ev Z e
  match x.d with
  | .lst ds=>.ok (items x ds,x.al)|.tup ds=>.ok (items x ds,x.al)|.str a=>.iff (decide (a.length<=lim)) (.ok (a.cps.toList.map λn=>.cl (.str ⟨#[n]⟩),[]))|_=>.bad
 | .dwn a=>do
  let x<-(ev Z a).calm
  match x.d with
  | .int i=>.iff (aT i) (.ok ((pF i).map .cl,[]))|_=>.bad
 | .rng a b=>do
  let x<-ev Z a
  let y<-ev Z b
  match x.d,y.d with
  | .int i,.int j=>.iff (aT i&&aT j) (.ok ((iB i j).map .cl,[]))|_,_=>.bad
 | .zip a b=>do
  let x<-ev Z a
  let y<-ev Z b
  match yN x.d,yN y.d with
  | some as,some bs=>.ok (items ⟨.non,false,x.pa||y.pa,x.al++y.al⟩ (fQ as bs),x.al++y.al)|_,_=>.bad
 | .enum a=>do
  let x<-ev Z a
  match yN x.d with
  | some as=>.ok (items x (iK 0 as),x.al)|none=>.bad
noncomputable def tsts(Z:Sg):Es->R Bool
 | .z=>.ok true|.k e es=>do
  let x<-tst Z e
  if x then tsts Z es else .ok false
end
inductive O where
 | next (Z:Sg)|brk (Z:Sg)|cnt (Z:Sg)|ret (v:Vl)|exc (x:D) (Z:Sg)|bad
 deriving Inhabited
def O.from{α:Type}(Z:Sg)(x:R α)(f:α->O):O:=match x with|.ok a=>f a|.exc e=>.exc e Z|.bad=>.bad
def O.on(o:O)(f:Sg->O):O:=match o with|.next Z=>f Z|o=>o
def dX(f:Sg->Vl->O):List Vl->Sg->O
 | [],Z=>.next Z|x::xs,Z=>match f Z x with|.next Z'=>dX f xs Z'|.cnt Z'=>dX f xs Z'|.brk Z'=>.next Z'|o=>o
noncomputable def iL(t:Sg->R Bool)(f:Sg->O):Nat->Sg->O
 | 0,_=>.bad|n+1,Z=>O.from Z (t Z) λk=>if k then (match f Z with
     | .next Z'=>iL t f n Z'|.cnt Z'=>iL t f n Z'|.brk Z'=>.next Z'|o=>o) else .next Z
def aBS:Nat:=1000000
def jS(Z:Sg)(i:Nat):Option (Bool×List D):=match Z[i]? with|some (.own pa ds)=>some (pa,ds)|_=>none
def put(Z:Sg)(i:Nat)(v:Vl)(f:List D->Option (List D)):O:=match jS (freeze Z v.al) i with
 | some (pa,ds)=>match f ds with|some ds'=>if ds'.length<=lim then .next ((freeze Z v.al).set i (.own (pa||v.pa) ds')) else .bad|none=>.bad
 | none=>.bad
def aEM(Z:Sg)(i:Nat)(v:Vl):O:=put Z i v λds=>some (ds++[v.d])
noncomputable def yO(v:Vl):Option (Vl×List D):=match v.fr,v.d with|true,.lst ds=>some (⟨.non,false,v.pa&&!noLs ds,if noLs ds then [] else v.al⟩,ds)|_,_=>none
noncomputable def jT(Z:Sg)(i:Nat)(k:Option Int):R (Vl×Sg):=match jS Z i with
 | some (pa,ds)=>match (match k with|none=>ixN ds.length (-1)|some k=>ixN ds.length k) with
  | some j=>match ds[j]? with|some d=>.ok (Vl.sub ⟨.non,false,pa,[]⟩ d,Z.set i (.own pa (ds.eraseIdx j)))|none=>.bad
  | none=>.bad
 | none=>.bad
noncomputable def qX(e:Option (R Vl)):R (Option Int):=match e with
 | none=>.ok none|some x=>do
  let v<-x
  match v.d with
  | .int k=>.iff (aT k) (.ok (some k))|_=>.bad
def aJt(c:Str)(vs:List Vl)(Z:Sg):O:=match (vs.map (·.d):List D) with|[.int n]=>.exc (.err c [.int n]) Z|_=>.bad
noncomputable def aDo(P:Pg)(c:Str)(i j:Nat)(x:D)(Z:Sg):O:=match x with
 | .err k [.int n]=>match isX [.own c] P x with|some true=>.next ((Z.set i (.sh true (.err k [.int n]))).set j .x)|_=>.bad
 | .err k []=>match isX [.own c] P x with|some true=>.next ((Z.set i (.sh true (.err k []))).set j .x)|_=>.bad
 | _=>.bad
def aBT(v:Vl)(k:Nat):R Vl:=match v.d with
 | .tup ds=>match ds[k]? with|some d=>.ok (v.sub d)|none=>.bad
 | _=>.bad
mutual
noncomputable def ex(Z:Sg):S->O
 | .set t e=>O.from Z (ev P W Z e) λv=>O.from Z (cR (freeze Z v.al) v t) .next|.mov i j=>match Z[j]? with|some (.own pa ds)=>if i=j then .bad else .next ((Z.set j .x).set i (.own pa ds))|some (.sh pa d)=>.next (Z.set i (.sh (pa&&!noL d) d))|_=>.bad
 | .setIx i k e=>O.from Z (ev P W Z e) λv=>O.from Z (ev P W Z k).calm λkv=>match kv.d with
  | .int k=>put Z i v λds=>match ixN ds.length k with|some j=>some (ds.set j v.d)|none=>none
  | _=>.bad
 | .app i e=>O.from Z (ev P W Z e).calm λv=>aEM Z i v|.ext i e=>O.from Z (ev P W Z e).calm λv=>match yO v with|some (v',ds')=>put Z i v' λds=>some (ds++ds')|none=>.bad
 | .ret e=>O.from Z (ev P W Z e) .ret|.retv i=>match Z[i]? with|some (.own pa ds)=>.ret ⟨.lst ds,true,pa,[]⟩|_=>O.from Z (cT Z i) .ret
 | .retN=>.ret (.cl .non)|.iff c a b=>O.from Z (tst P W Z c) λk=>if k then exs Z a else exs Z b|.for t it b=>O.from Z (walk P W Z it) λxs=>dX (λZ x=>O.from Z (cR Z x t) λZ'=>exs Z' b) xs.1 (freeze Z xs.2)|.whl c b=>iL (λZ=>tst P W Z c) (λZ=>exs Z b) aBS Z|.brk=>.brk Z|.cnt=>.cnt Z|.pass=>.next Z|.off=>.bad|.ex e=>O.from Z (ev P W Z e) λ_=>.next Z|.rse c keep es=>O.from Z (evs P W Z es) λvs=>if keep then aJt c vs Z else .exc (.err c []) Z|.appPop i j e k=>O.from Z (qX (some (ev P W Z e).calm)) λm=>O.from Z (jT Z j m) λ(v,Z')=>O.from Z' (aBT v k) λw=>aEM Z' i w|.tryN b=>match exs Z b with|.exc _ _=>.bad|o=>o
 | .tryA b c i j=>match exs Z b with|.exc x Z'=>aDo P c i j x Z'|o=>o
noncomputable def exs(Z:Sg):Ss->O
 | .z=>.next Z|.k s ss=>(ex Z s).on λZ'=>exs Z' ss
end
def qY(f:Nat)(ds:List D):R Rt:=match P.fns[f]? with
 | none=>.bad|some F=>if ds.length=F.np then
  match exs P W ((ds.map λd=>Sl.sh true d)++Af (F.ns-F.np) Sl.x) F.body with
  | .ret v=>.ok (v.d,v.fr,v.pa)|.next _=>.ok (.non,false,false)|.exc x _=>.exc x|_=>.bad
  else .bad
end
def call(P:Pg):Nat->Caller
 | 0=>λ_ _=>.bad|n+1=>qY P (call P n)
end Hp
namespace L2
open PySem PySem.Spec PyProof.Rows
abbrev NK:=List (List Int)
abbrev NE:=NK×Addr×V
def aPY(x:NE)(e:NK×Addr×Value):Prop:=e.1=x.1/\e.2.1=x.2.1/\bV x.2.2 e.2.2
def nkH(k:NK):Int:=reduceHash (EO (k.map λk=>reduceHash (EO (k.map Ip))))
def aPZ(x:NK×Addr×Value):E5:=⟨nkH x.1,.ref x.2.1,x.2.2⟩
def aNl(a:Addr)(xs:List NE)(h:Heap):Prop:=
 (a==DY)=false/\xs.length<=sizeLine/\∃o es ep vs,h.get? a=some o/\o.ExactDict/\o.data=.dict es ep/\es.toList=vs.map aPZ/\Fc aPY xs vs/\(xs.map (·.1)).Nodup
abbrev pG(a:Addr)(xs:List NE):HO:=.ext (aNl a xs)
end L2
namespace Hp
open PySem L2
abbrev Fg:=Ai
def _root_.L2.excO(a C:Addr)(dd:Option Addr):HO:=.ext λh=>∃o,h.get? a=some o/\o.cls=.ref C/\PySem.W.notCls o=true/\o.dict=dd
theorem aKz(a C:Addr)(dd:Option Addr)(xs:List NE):excO a C dd≠pG a xs:=λe=>by
 have e:=HO.ext.inj e
 let o:Obj:={ cls:=.ref C,dict:=dd,data:=.plain }
 let h:={ (default:Heap) with objs:=FN (a+1) o }
 have g:h.get? a=some o:=by
  have e:(FN (a+1) o)[a]? = some o:=by rw[Array.getElem?_replicate,if_pos (Bx _)]
  show(match (FN (a+1) o)[a]? with|some ⟨_,_,.freed,_⟩=>none|r=>r)=some o;rw[e]
 have h2:aNl a xs h:=by rw[<-e];exact(⟨o,g,rfl,rfl,rfl⟩)
 obtain⟨_,_,B,es,ep,vs,g2,x,_⟩:=h2;rw[g] at g2;cases g2;cases x.1
def kD:Key->D
 | .inl i=>.int i|.inr x=>.str x
def Hd(K:Fg)(ex:Addr->Prop):Prop:=∃c,K.lookup c≠none/\ex c
mutual
def Rep(K:Fg)(H:Hp)(ex:Addr->Prop):D->V->Prop
 | .non,v=>v=.non|.bl b,v=>v=.bl b|.int i,v=>v=.int i|.str x,v=>v=.str x|.tup ds,v=>∃a xs,v=.ref a/\SqT K H a xs/\Reps K H ex ds xs|.lst ds,v=>∃a xs,v=.ref a/\SqL K H a xs/\(¬ ex a/\(Hd K ex->H a=some (.lst xs)))/\Reps K H ex ds xs|.err c ds,v=>∃a C1,v=.ref a/\∃dd,H a=some (excO a C1 dd)/\Cq K AG c=some (some (.ref C1))/\(∀dx,dd=some dx->∃fs,H dx=some (.xd fs))/\∀n,ds=[.int n]->∃dx,dd=some dx/\H dx=some (.xd [("place",.int n)])
def Reps(K:Fg)(H:Hp)(ex:Addr->Prop):List D->List V->Prop
 | [],xs=>xs=[]
 | d::ds,xs=>∃x r,xs=x::r/\Rep K H ex d x/\Reps K H ex ds r
def yP(K:Fg)(H:Hp)(ex:Addr->Prop):List (D×D)->List (Key×V)->Prop
 | [],ks=>ks=[]
 | (k,d)::r,ks=>∃k' x r',ks=(k',x)::r'/\kD k'=k/\Rep K H ex d x/\yP K H ex r r'
end
section
variable {K:Fg} {H H':Hp} {ex ex':Addr->Prop}
theorem aW.seqT(e:aW H H')(h:SqT K H a xs):SqT K H' a xs:=by rcases h with(h|⟨o,h⟩)|h;exact .inl (.inl (e _ _ h));exact .inl (.inr ⟨o,e _ _ h⟩);exact .inr h
mutual
theorem Rep.imp(I:∀a xs,SqT K H a xs->SqT K H' a xs)(G:∀a xs,¬ ex a->SqL K H a xs->¬ ex' a/\SqL K H' a xs)(L:Hd K ex'->Hd K ex)(U:∀a xs,¬ ex a->H a=some (.lst xs)->H' a=some (.lst xs))(B:∀a o,(∀xs,o≠.lst xs)->(∀xs,o≠pG a xs)->H a=some o->H' a=some o) :
 ∀(d:D) (v:V),Rep K H ex d v->Rep K H' ex' d v
 | .non,_,h=>h|.bl _,_,h=>h|.int _,_,h=>h|.str _,_,h=>h|.tup ds,_,h=>by obtain⟨a,xs,e,q,r⟩:=h;exact⟨a,xs,e,I a xs q,Reps.imp I G L U B ds xs r⟩|.lst ds,_,h=>by obtain⟨a,xs,e,q,n,r⟩:=h;obtain⟨n',q'⟩:=G a xs n.1 q;exact⟨a,xs,e,q',⟨n',λz=>U a xs n.1 (n.2 (L z))⟩,Reps.imp I G L U B ds xs r⟩|.err _ _,_,h=>by obtain⟨a,W,e,dd,q,r,f,g⟩:=h;exact⟨a,W,e,dd,B a _ (λ_ z=>nomatch z) (λxs=>aKz a W dd xs) q,r,λdx z=>(f dx z).imp λfs w=>B dx _ (λ_ z=>nomatch z) (λ_ z=>nomatch z) w,λn z=>(g n z).imp λdx w=>⟨w.1,B dx _ (λ_ z=>nomatch z) (λ_ z=>nomatch z) w.2⟩⟩
theorem Reps.imp(I:∀a xs,SqT K H a xs->SqT K H' a xs)(G:∀a xs,¬ ex a->SqL K H a xs->¬ ex' a/\SqL K H' a xs)(L:Hd K ex'->Hd K ex)(U:∀a xs,¬ ex a->H a=some (.lst xs)->H' a=some (.lst xs))(B:∀a o,(∀xs,o≠.lst xs)->(∀xs,o≠pG a xs)->H a=some o->H' a=some o) :
 ∀(ds:List D) (xs:List V),Reps K H ex ds xs->Reps K H' ex' ds xs
 | [],_,h=>h|d::ds,_,h=>by obtain⟨x,r,e,h1,h2⟩:=h;exact⟨x,r,e,Rep.imp I G L U B d x h1,Reps.imp I G L U B ds r h2⟩
theorem yP.imp(I:∀a xs,SqT K H a xs->SqT K H' a xs)(G:∀a xs,¬ ex a->SqL K H a xs->¬ ex' a/\SqL K H' a xs)(L:Hd K ex'->Hd K ex)(U:∀a xs,¬ ex a->H a=some (.lst xs)->H' a=some (.lst xs))(B:∀a o,(∀xs,o≠.lst xs)->(∀xs,o≠pG a xs)->H a=some o->H' a=some o) :
 ∀(ds:List (D×D)) (xs:List (Key×V)),yP K H ex ds xs->yP K H' ex' ds xs
 | [],_,h=>h|(k,d)::ds,_,h=>by obtain⟨k',x,r,e,W,h1,h2⟩:=h;exact⟨k',x,r,e,W,Rep.imp I G L U B d x h1,yP.imp I G L U B ds r h2⟩
end
theorem Rep.weak(h:Rep K H ex d v)(e:∀a,ex' a->ex a):Rep K H ex' d v:=Rep.imp (λ_ _ q=>q) (λa _ n q=>⟨λz=>n (e a z),q⟩) (λ⟨c,h1,h2⟩=>⟨c,h1,e c h2⟩) (λ_ _ _ q=>q) (λ_ _ _ _ q=>q) d v h
theorem Reps.weak(h:Reps K H ex d v)(e:∀a,ex' a->ex a):Reps K H ex' d v:=Reps.imp (λ_ _ q=>q) (λa _ n q=>⟨λz=>n (e a z),q⟩) (λ⟨c,h1,h2⟩=>⟨c,h1,e c h2⟩) (λ_ _ _ q=>q) (λ_ _ _ _ q=>q) d v h
theorem Rep.grow(h:Rep K H ex d v)(s:aW H H'):Rep K H' ex d v:=Rep.imp (λ_ _ q=>aW.seqT s q) (λ_ _ n q=>⟨n,s.seq q⟩) id (λ_ _ _ q=>s _ _ q) (λ_ _ _ _ q=>s _ _ q) d v h
theorem Reps.grow(h:Reps K H ex d v)(s:aW H H'):Reps K H' ex d v:=Reps.imp (λ_ _ q=>aW.seqT s q) (λ_ _ n q=>⟨n,s.seq q⟩) id (λ_ _ _ q=>s _ _ q) (λ_ _ _ _ q=>s _ _ q) d v h
theorem Rep.keep(h:Rep K H ex d v)(s:∀a o,H a=some o->(∀xs,o=.lst xs->¬ ex a)->(∀xs,o≠pG a xs)->H' a=some o):Rep K H' ex d v:=by refine Rep.imp (λa xs q=>?_) (λa xs n q=>⟨n,?_⟩) id (λa xs n q=>s _ _ q (λ_ _=>n) (λ_ z=>by cases z)) (λa o B nd q=>s a _ q (λxs e=>absurd e (B xs)) nd) d v h;rcases q with(q|⟨o,q⟩)|q;exact .inl (.inl (s _ _ q (λxs e=>by cases e) (λ_ z=>by cases z)));exact .inl (.inr ⟨o,s _ _ q (λxs e=>by cases e) (λ_ z=>by cases z)⟩);exact .inr q;rcases q with(q|⟨o,q⟩)|q;exact .inl (.inl (s _ _ q (λ_ _=>n) (λ_ z=>by cases z)));exact .inl (.inr ⟨o,s _ _ q (λxs e=>by cases e) (λ_ z=>by cases z)⟩);exact .inr q
theorem Reps.keep(h:Reps K H ex d v)(s:∀a o,H a=some o->(∀xs,o=.lst xs->¬ ex a)->(∀xs,o≠pG a xs)->H' a=some o):Reps K H' ex d v:=by refine Reps.imp (λa xs q=>?_) (λa xs n q=>⟨n,?_⟩) id (λa xs n q=>s _ _ q (λ_ _=>n) (λ_ z=>by cases z)) (λa o B nd q=>s a _ q (λxs e=>absurd e (B xs)) nd) d v h;rcases q with(q|⟨o,q⟩)|q;exact .inl (.inl (s _ _ q (λxs e=>by cases e) (λ_ z=>by cases z)));exact .inl (.inr ⟨o,s _ _ q (λxs e=>by cases e) (λ_ z=>by cases z)⟩);exact .inr q;rcases q with(q|⟨o,q⟩)|q;exact .inl (.inl (s _ _ q (λ_ _=>n) (λ_ z=>by cases z)));exact .inl (.inr ⟨o,s _ _ q (λxs e=>by cases e) (λ_ z=>by cases z)⟩);exact .inr q
mutual
theorem Rep.free:∀(d:D) (v:V),noL d=true->Rep K H ex d v->Rep K H ex' d v
 | .non,_,_,h=>h|.bl _,_,_,h=>h|.int _,_,_,h=>h|.str _,_,_,h=>h|.tup ds,_,n,h=>by obtain⟨a,xs,e,q,r⟩:=h;exact⟨a,xs,e,q,Reps.free ds xs (by simpa[noL] using n) r⟩|.lst ds,_,n,_=>by simp[noL] at n|.err _ _,_,n,_=>by simp[noL] at n
theorem Reps.free:∀(ds:List D) (xs:List V),noLs ds=true->Reps K H ex ds xs->Reps K H ex' ds xs
 | [],_,_,h=>h|d::ds,_,n,h=>by obtain⟨x,r,e,h1,h2⟩:=h;simp only[noLs,bA] at n;exact⟨x,r,e,Rep.free d x n.1 h1,Reps.free ds r n.2 h2⟩
end
theorem Reps.length:∀{ds:List D} {xs:List V},Reps K H ex ds xs->ds.length=xs.length
 | [],_,h=>by rw[show _=[] from h];rfl|d::ds,_,h=>by obtain⟨x,r,e,_,h2⟩:=h;subst e;rw[lC,lC,Reps.length h2]
theorem Reps.get:∀{ds:List D} {xs:List V} {j:Nat} {d:D},Reps K H ex ds xs->ds[j]? = some d->∃x,xs[j]? = some x/\Rep K H ex d x
 | [],_,_,_,_,e=>by simp at e|d::ds,_,0,_,h,e=>by obtain⟨x,r,B,h1,_⟩:=h;subst B;simp at e;subst e;exact⟨x,rfl,h1⟩|d::ds,_,j+1,d',h,e=>by obtain⟨x,r,B,_,h2⟩:=h;subst B;obtain⟨y,G,q⟩:=Reps.get h2 (by simpa using e);exact⟨y,by simpa using G,q⟩
theorem Reps.get'{ds:List D}{xs:List V}{j:Nat}{x:V}(h:Reps K H ex ds xs)(e:xs[j]? = some x):∃d,ds[j]? = some d/\Rep K H ex d x:=by
 have I:=h.length;have G:=(Ax.mp e).1;obtain⟨d,hd⟩:∃d,ds[j]? = some d:=⟨ds[j],Ae (by omega)⟩
 obtain⟨y,B,q⟩:=h.get hd;rw[e] at B;cases B;exact⟨d,hd,q⟩
theorem Reps.nil:Reps K H ex [] []:=rfl
theorem Reps.cons(h:Rep K H ex d x)(t:Reps K H ex ds xs):Reps K H ex (d::ds) (x::xs):=⟨x,xs,rfl,h,t⟩
theorem Reps.append:∀{ds es:List D} {xs B:List V},Reps K H ex ds xs->Reps K H ex es B->Reps K H ex (ds++es) (xs++B)
 | [],_,_,_,h,t=>by rw[show _=[] from h];exact t|d::ds,_,_,_,h,t=>by obtain⟨x,r,e,h1,h2⟩:=h;subst e;exact⟨x,_,rfl,h1,Reps.append h2 t⟩
theorem Reps.take:∀{ds:List D} {xs:List V} (n:Nat),Reps K H ex ds xs->Reps K H ex (ds.take n) (xs.take n)
 | _,_,0,_=>by simp[Reps]|[],_,n+1,h=>by rw[show _=[] from h];simp[Reps]|d::ds,_,n+1,h=>by obtain⟨x,r,e,h1,h2⟩:=h;subst e;exact⟨x,_,rfl,h1,Reps.take n h2⟩
theorem Reps.drop:∀{ds:List D} {xs:List V} (n:Nat),Reps K H ex ds xs->Reps K H ex (ds.drop n) (xs.drop n)
 | _,_,0,h=>h|[],_,n+1,h=>by rw[show _=[] from h];simp[Reps]|d::ds,_,n+1,h=>by obtain⟨x,r,e,h1,h2⟩:=h;subst e;exact Reps.drop n h2
theorem Reps.set:∀{ds:List D} {xs:List V} {d:D} {x:V} (j:Nat),Reps K H ex ds xs->Rep K H ex d x->Reps K H ex (ds.set j d) (xs.set j x)
 | [],_,_,_,_,h,_=>by rw[show _=[] from h];simp[Reps]|d::ds,_,_,_,0,h,q=>by obtain⟨x,r,e,h1,h2⟩:=h;subst e;exact⟨_,_,rfl,q,h2⟩|d::ds,_,_,_,j+1,h,q=>by obtain⟨x,r,e,h1,h2⟩:=h;subst e;exact⟨x,_,rfl,h1,Reps.set j h2 q⟩
theorem Reps.eraseIdx:∀{ds:List D} {xs:List V} (j:Nat),Reps K H ex ds xs->Reps K H ex (ds.eraseIdx j) (xs.eraseIdx j)
 | [],_,_,h=>by rw[show _=[] from h];simp[Reps]|d::ds,_,0,h=>by obtain⟨x,r,e,h1,h2⟩:=h;subst e;exact h2|d::ds,_,j+1,h=>by obtain⟨x,r,e,h1,h2⟩:=h;subst e;exact⟨x,_,rfl,h1,Reps.eraseIdx j h2⟩
theorem Reps.flat:∀{ds:List D} {xs:List V},Reps K H ex ds xs->∀k:Nat,Reps K H ex (Af k ds).flatten (Af k xs).flatten
 | _,_,_,0=>by simp[Reps]|ds,xs,h,k+1=>by rw[ BC,BR];exact h.append (Reps.flat h k)
end
end Hp
namespace Hp
open PySem
structure Ct where
 N:List Str
 sc:List (Str×CA)
 fns:List Str
 cns:List (Str×D)
 cls:List Str
 fn:Bool
 tbs:List Str
 rsd:List Str:=[]
 pls:List Str:=[]
def aEN(Γ:Ct)(x:Str):Bool:=match Γ.sc.lookup x with|some .local=>true|some .cell=>true|some .free=>true|_=>false
def yQ(Γ:Ct)(x:Str):Bool:=match Γ.sc.lookup x with|some .local=>true|some .cell=>Γ.fn|_=>false
def uA(sc names:List (Str×CA)):List (Str×CA):=names.map λ(n,k)=>if (k==.free&&sc.lookup n==some .cell) then (n,.cell) else (n,k)
def qZ:AE->Bool
 | .Tuple _ _ _=>true|_=>false
def tIx:T->List Nat
 | .n i=>[i]
 | .t is=>is
def cQ(Γ:Ct)(x:Str):Bool:=match Γ.sc.lookup x with|some .globalImplicit=>true|_=>false
noncomputable def cF(x:Str):Bool:=!(x==("__debug__" : Str))&&!(x==("__classdict__" : Str))
def fD(Γ:Ct)(i:Nat)(x:Str):Bool:=(Γ.N[i]?==some x)&&aEN Γ x&&cF x
def cV(Γ:Ct)(i:Nat)(x:Str):Bool:=(Γ.N[i]?==some x)&&yQ Γ x&&cF x
def eqC:D->Const->Bool
 | .non,.none=>true|.bl a,.bool b=>a==b|.int a,.int b=>a==b|.str a,.str b=>a==b|_,_=>false
def eqK:D->D->Bool
 | .non,.non=>true|.bl a,.bl b=>a==b|.int a,.int b=>a==b|.str a,.str b=>a==b|_,_=>false
noncomputable def lR:Bi->Str
 | .len => "len" | .list => "list" | .tuple => "tuple" | .min => "min" | .max => "max" | .abs => "abs" | .int => "int" | .str => "str" | .sum => "sum" | .all => "all" | .any => "any" | .sorted => "sorted" | .bool => "bool" | .repr => "repr"
def aEO:Bi->Bool
 | .len=>true|.list=>true|.tuple=>true|.int=>true|.all=>true|.any=>true
 | _=>false
def aQa:Cl->Bool
 | .own _=>false|.tValueError=>false|_=>true
noncomputable def aAM(Γ:Ct):Cl->Option Str
 | .tInt=>some "int" | .tBool=>some "bool" | .tStr=>some "str" | .tList=>some "list" | .tTuple=>some "tuple" | .tDict=>some "dict" | .tValueError=>some "ValueError"
 | .own c=>some c
def aJu(Γ:Ct)(c:Cl):AE->Bool
 | .Name x _=>(aAM Γ c==some x)&&cQ Γ x&&cF x|_=>false
def aBU(Γ:Ct)(c:Cl)(y:AE):Bool:=match c,y with|.own x,.Name z _=>(z==x)&&cQ Γ x&&cF x&&Γ.cls.contains x|_,_=>false
def aBV(Γ:Ct):List Cl->List AE->Bool
 | [],[]=>true|c::cs,y::ys=>aBU Γ c y&&aBV Γ cs ys|_,_=>false
noncomputable def aNm(Γ:Ct)(cs:List Cl)(y:AE):Bool:=match y with
 | .Tuple es _ _=>aBV Γ cs es&&decide (es.length<=1000)|.Name x _=>(match cs with
  | [.tValueError]=>(x==("ValueError" : Str))&&cQ Γ x|[c]=>aBU Γ c y|_=>false)
 | _=>false
def tO(Γ:Ct):T->AE->Bool
 | .n i,.Name x _=>cV Γ i x|.t is,.Tuple es _ _=>is.length==es.length&&(is.zip es).all λp=>match p.2 with|.Name x _=>cV Γ p.1 x|_=>false
 | _,_=>false
def iC:AE->List Str
 | .Name x _=>[x]
 | .Tuple es _ _=>es.filterMap fun|.Name x _=>some x|_=>none
 | _=>[]
def aAN:E->Bool
 | .c (.int i)=>i==0|_=>false
def asC(e:AE):Option { c:Const // ∃k p,e=.Constant c k p }:=match e with|.Constant c k p=>some ⟨c,k,p,rfl⟩|_=>none
def asN(e:AE):Option { x:Str // ∃p,e=.Name x p }:=match e with|.Name x p=>some ⟨x,p,rfl⟩|_=>none
def aNn(e:AE):Option { r:AE×Operator×AE // ∃p,e=.BinOp r.1 r.2.1 r.2.2 p }:=match e with|.BinOp l o r p=>some ⟨(l,o,r),p,rfl⟩|_=>none
def aKA(e:AE):Option { r:UnaryOp×AE // ∃p,e=.UnaryOp r.1 r.2 p }:=match e with|.UnaryOp o x p=>some ⟨(o,x),p,rfl⟩|_=>none
def aNo(e:AE):Option { r:BoolOp×List AE×Ht // e=.BoolOp r.1 r.2.1 r.2.2 }:=match e with|.BoolOp o xs p=>some ⟨(o,xs,p),rfl⟩|_=>none
def aQb(e:AE):Option { r:AE×AE×AE // ∃p,e=.IfExp r.1 r.2.1 r.2.2 p }:=match e with|.IfExp t a b p=>some ⟨(t,a,b),p,rfl⟩|_=>none
def aJv(e:AE):Option { r:AE×List CmpOp×List AE // ∃p,e=.Compare r.1 r.2.1 r.2.2 p }:=match e with|.Compare l os rs p=>some ⟨(l,os,rs),p,rfl⟩|_=>none
def aBW(e:AE):Option { r:AE×AE // ∃p,e=.Subscript r.1 r.2 p }:=match e with|.Subscript x i p=>some ⟨(x,i),p,rfl⟩|_=>none
def aQc(e:AE):Option { r:Str×Str // ∃np p,e=.Attribute (.Name r.1 np) r.2 p }:=match e with|.Attribute (.Name x np) f p=>some ⟨(x,f),np,p,rfl⟩|_=>none
def aQd(e:AE):Option { r:Option AE×Option AE // ∃p,e=.Slice r.1 r.2 none p }:=match e with|.Slice l h none p=>some ⟨(l,h),p,rfl⟩|_=>none
def aNp(e:AE):Option { r:List AE // ∃k p,e=.Tuple r k p }:=match e with|.Tuple xs k p=>some ⟨xs,k,p,rfl⟩|_=>none
def aNq(e:AE):Option { r:List AE // ∃p,e=.List r p }:=match e with|.List xs p=>some ⟨xs,p,rfl⟩|_=>none
def lJ(e:AE):Option { r:Str×List AE // ∃p1 p2,e=.Call (.Name r.1 p1) r.2 [] p2 }:=match e with|.Call (.Name x p1) xs [] p2=>some ⟨(x,xs),p1,p2,rfl⟩|_=>none
def aQe(e:AE):Option { r:AE×Str×List AE×Bool // ∃ap cp,e=.Call (.Attribute r.1 r.2.1 ap) r.2.2.1 [] cp/\(ap.endLine==cp.line)=r.2.2.2 }:=match e with|.Call (.Attribute x a ap) xs [] cp=>some ⟨(x,a,xs,ap.endLine==cp.line),ap,cp,rfl,rfl⟩|_=>none
def aQf(e:AE):Option { r:AE×List Comprehension×DA // ∃p,e=.ListComp r.1 r.2.1 r.2.2 p }:=match e with|.ListComp e gs s p=>some ⟨(e,gs,s),p,rfl⟩|_=>none
def oB{α:Type}(o:Option α)(f:α->Bool):Bool:=match o with|some a=>f a|none=>false
noncomputable def oS{α:Type}{q:α->Prop}(o:Option { a:α // q a })(f:α->Bool):Bool:=match o with|some a=>f a.1|none=>false
mutual
def jK:E->Bool
 | .c _=>true|.v _=>true|.op _ a b=>jK a&&jK b|.idx a b=>jK a&&jK b|.bi b es=>b==.len&&calmEs es|_=>false
def calmEs:Es->Bool
 | .z=>true|.k a r=>jK a&&calmEs r
end
def aJw:Es->Bool
 | .z=>true|_=>false
def aAO(e:AE):Bool:=oS (aKA e) λp=>p.1==.USub&&oS (asC p.2) (eqC (.int 1))
mutual
noncomputable def bG(Γ:Ct):E->AE->Bool
 | .c d,e=>oS (asC e) (eqC d)||oS (asN e) λx=>cQ Γ x&&cF x&&oB (Γ.cns.lookup x) (eqK d)|.v i,e=>oS (asN e) (fD Γ i)|.op o a b,e=>oS (aNn e) λp=>o==p.2.1&&bG Γ a p.1&&bG Γ b p.2.2|.neg a,e=>oS (aKA e) λp=>p.1==.USub&&bG Γ a p.2|.nt a,e=>oS (aKA e) λp=>p.1==.Not&&bG Γ a p.2|.an a b,e=>oS (aNo e) λp=>p.1==.And&&(match p.2.1 with
  | [x,y]=>bG Γ a x&&bG Γ b y|x::y::z::r=>bG Γ a x&&bG Γ b (.BoolOp .And (y::z::r) p.2.2)|_=>false)
 | .orr a b,e=>oS (aNo e) λp=>p.1==.Or&&(match p.2.1 with
  | [x,y]=>bG Γ a x&&bG Γ b y|x::y::z::r=>bG Γ a x&&bG Γ b (.BoolOp .Or (y::z::r) p.2.2)|_=>false)
 | .ife t a b,e=>oS (aQb e) λp=>bG Γ t p.1&&bG Γ a p.2.1&&bG Γ b p.2.2|.cmp o a b,e=>oS (aJv e) λp=>(match p.2.1,p.2.2 with
  | [o'],[r]=>o==o'&&bG Γ a p.1&&bG Γ b r|_,_=>false)
 | .cmp2 o1 o2 a b c,e=>oS (aJv e) λp=>(match p.2.1,p.2.2 with
  | [o1',o2'],[m,r]=>o1==o1'&&o2==o2'&&bG Γ a p.1&&bG Γ b m&&bG Γ c r|_,_=>false)
 | .idx a b,e=>oS (aBW e) λp=>bG Γ a p.1&&bG Γ b p.2|.sli a lo hi,e=>oS (aBW e) λp=>oS (aQd p.2) λq=>(bG Γ a p.1&&(aJw lo||calmEs hi))&&chkO Γ lo q.1&&chkO Γ hi q.2|.tup es,e=>oS (aNp e) λxs=>decide (xs.length<=1000)&&chkEs Γ es xs|.lst es,e=>oS (aNq e) λxs=>decide (xs.length<=1000)&&chkEs Γ es xs|.call f es,e=>oS (lJ e) λp=>(Γ.fns[f]?==some p.1)&&cQ Γ p.1&&cF p.1&&chkEs Γ es p.2|.plc i c,e=>oS (aQc e) λu=>(u.2==("place" : Str))&&fD Γ i u.1&&Γ.pls.contains c|.sset a,e=>oS (lJ e) λp=>(match p.2 with
  | [s]=>oS (lJ s) λq=>(p.1==("sorted" : Str))&&cQ Γ p.1&&(q.1==("set" : Str))&&cQ Γ q.1&&(match q.2 with|[x]=>bG Γ a x|_=>false)|_=>false)
 | .bi b es,e=>oS (lJ e) λp=>aEO b&&(lR b==p.1)&&cQ Γ p.1&&cF p.1&&!p.2.isEmpty&&chkEs Γ es p.2|.numset a,e=>oS (lJ e) λp=>(match p.2 with
  | [s]=>oS (lJ s) λq=>(p.1==("len" : Str))&&cQ Γ p.1&&(q.1==("set" : Str))&&cQ Γ q.1&&(match q.2 with|[x]=>bG Γ a x|_=>false)|_=>false)
 | .tget i a,e=>oS (aQe e) λp=>oS (asN p.1) λx=>(p.2.1==("get" : Str))&&(Γ.tbs[i]?==some x)&&cQ Γ x&&cF x&&p.2.2.2&&(match p.2.2.1 with|[y]=>bG Γ a y|_=>false)|.isi a cs,e=>oS (lJ e) λp=>(match cs,p.2 with
  | [c],[x,y]=>(p.1==("isinstance" : Str))&&cQ Γ p.1&&aQa c&&bG Γ a x&&aJu Γ c y|_,_=>false)
 | .isx a cs,e=>oS (lJ e) λp=>(match p.2 with
  | [x,y]=>(p.1==("isinstance" : Str))&&cQ Γ p.1&&bG Γ a x&&aNm Γ cs y|_=>false)
 | .comp k caps t it cond elt,e=>oS (aQf e) λp=>(match p.2.1 with
  | [⟨tg,iter,ifs,as⟩]=>
   as==0&&(iC tg).length==k&&(caps.all λi=>decide (i<Γ.N.length))&&decide caps.Nodup&&p.2.2.kind==.function&&decide (iC tg++caps.filterMap λi=>Γ.N[i]?).Nodup &&
   ((caps.filterMap λi=>Γ.N[i]?).all λx=>p.2.2.names.lookup x==some .free&&Γ.sc.lookup x==some .cell) &&
   (p.2.2.names.all λq=>q.2 != .cell&&(q.2 != .local||p.2.2.names.lookup q.1==some .local)&&(q.2 != .free||Γ.sc.lookup q.1==some .cell)) &&
   ((tIx t).all λi=>decide (i<k))&&decide (ifs.length<=1)&&(Γ.fn||jK elt) &&
   tO { Γ with N:=iC tg++caps.filterMap λi=>Γ.N[i]?,sc:=uA Γ.sc p.2.2.names,fn:=false } t tg&&chkI Γ (qZ tg) it iter &&
   chkEs { Γ with N:=iC tg++caps.filterMap λi=>Γ.N[i]?,sc:=uA Γ.sc p.2.2.names,fn:=false } cond ifs &&
   bG { Γ with N:=iC tg++caps.filterMap λi=>Γ.N[i]?,sc:=uA Γ.sc p.2.2.names,fn:=false } elt p.1
  | _=>false)
noncomputable def chkEs(Γ:Ct):Es->List AE->Bool
 | .z,[]=>true|.k e es,x::xs=>bG Γ e x&&chkEs Γ es xs|_,_=>false
noncomputable def chkO(Γ:Ct):Es->Option AE->Bool
 | .z,none=>true|.k e .z,some x=>bG Γ e x|_,_=>false
noncomputable def chkI(Γ:Ct)(tt:Bool):It->AE->Bool
 | .rng a b,e=>oS (lJ e) λp=>(p.1==("range" : Str))&&cQ Γ p.1&&(match p.2 with
  | [x]=>aAN a&&bG Γ b x|[x,y]=>bG Γ a x&&bG Γ b y|_=>false)
 | .zip a b,e=>oS (lJ e) λp=>(match p.2 with
  | [x,y]=>tt&&(p.1==("zip" : Str))&&cQ Γ p.1&&bG Γ a x&&bG Γ b y|_=>false)
 | .seq c,x=>bG Γ c x|.enum a,e=>oS (lJ e) λp=>(match p.2 with
  | [x]=>tt&&(p.1==("enumerate" : Str))&&cQ Γ p.1&&bG Γ a x|_=>false)
 | .dwn a,e=>oS (lJ e) λp=>(p.1==("range" : Str))&&cQ Γ p.1&&(match p.2 with
  | [x,y,z]=>bG Γ a x&&aAO y&&aAO z|_=>false)
end
def rC:AE->Bool
 | .ListComp _ _ _ _=>true|.SetComp _ _ _ _=>true|.DictComp _ _ _ _ _=>true|_=>false
def isC:E->Bool
 | .comp _ _ _ _ _ _=>true|_=>false
def aAP:AE->Bool
 | .Tuple _ _ _=>true|.List _ _=>true|_=>false
def aKB:AE->Bool
 | .Name _ _=>true|_=>false
noncomputable def oH(Γ:Ct)(i:Nat)(m:Str):AE->Option (List AE)
 | .Call (.Attribute (.Name x _) a ap) xs [] cp=>if (a==m)&&fD Γ i x&&(ap.endLine==cp.line) then some xs else none|_=>none
def aKC(s:Cj):Option { r:AE×AE // ∃p,s=.Assign [r.1] r.2 p }:=match s with|.Assign [t] v p=>some ⟨(t,v),p,rfl⟩|_=>none
def sEx(s:Cj):Option { r:AE // ∃p,s=.Expr r p }:=match s with|.Expr v p=>some ⟨v,p,rfl⟩|_=>none
def aKD(s:Cj):Option { r:Option AE // ∃p,s=.Return r p }:=match s with|.Return v p=>some ⟨v,p,rfl⟩|_=>none
def sIf(s:Cj):Option { r:AE×List Cj×List Cj // ∃p,s=.If r.1 r.2.1 r.2.2 p }:=match s with|.If t x y p=>some ⟨(t,x,y),p,rfl⟩|_=>none
def aQg(s:Cj):Option { r:AE×AE×List Cj // ∃p,s=.For r.1 r.2.1 r.2.2 [] p }:=match s with|.For t i b [] p=>some ⟨(t,i,b),p,rfl⟩|_=>none
def aQh(s:Cj):Option { r:AE×List Cj // ∃p,s=.While r.1 r.2 [] p }:=match s with|.While t b [] p=>some ⟨(t,b),p,rfl⟩|_=>none
def aQi(s:Cj):Option { r:Unit // ∃p,s=.Break p }:=match s with|.Break p=>some ⟨(),p,rfl⟩|_=>none
def aQj(s:Cj):Option { r:Unit // ∃p,s=.Continue p }:=match s with|.Continue p=>some ⟨(),p,rfl⟩|_=>none
def aNr(s:Cj):Option { r:Unit // ∃p,s=.Pass p }:=match s with|.Pass p=>some ⟨(),p,rfl⟩|_=>none
noncomputable def aNs(s:Cj):Option { r:Str×AE // ∃np cp p,s=.Raise (some (.Call (.Name r.1 np) [r.2] [] cp)) none p }:=match s with|.Raise (some (.Call (.Name x np) [a] [] cp)) none p=>some ⟨(x,a),np,cp,p,rfl⟩|_=>none
structure aNt where
 body:List Cj
 x:Str
 n:Str
 y:Str
noncomputable def aQk(s:Cj):Option { r:aNt // ∃np yp np2 ap hp p,s=.Try r.body [.ExceptHandler (some (.Name r.x np)) (some r.n) [.Assign [.Name r.y yp] (.Name r.n np2) ap] hp] [] [] p }:=match s with|.Try body [.ExceptHandler (some (.Name x np)) (some n) [.Assign [.Name y yp] (.Name n1 np2) ap] hp] [] [] p=>if h:n1=n then some ⟨⟨body,x,n,y⟩,np,yp,np2,ap,hp,p,by subst h;rfl⟩ else none|_=>none
def aNu(s:Cj):Option { r:List Cj // ∃h hs p,s=.Try r (h::hs) [] [] p }:=match s with|.Try b (h::hs) [] [] p=>some ⟨b,h,hs,p,rfl⟩|_=>none
mutual
noncomputable def iD(Γ:Ct):S->Cj->Bool
 | .set t e,s=>oS (aKC s) λr=>tO Γ t r.1&&bG Γ e r.2&&(aKB r.1||!aAP r.2)&&(rC r.2==isC e)|.mov i j,s=>oS (aKC s) λr=>oS (asN r.1) λx=>oS (asN r.2) λy=>cV Γ i x&&fD Γ j y|.setIx i k e,s=>oS (aKC s) λr=>oS (aBW r.1) λu=>oS (asN u.1) λx=>fD Γ i x&&bG Γ k u.2&&bG Γ e r.2|.app i e,s=>oS (sEx s) λc=>(match oH Γ i "append" c with|some [a]=>bG Γ e a|_=>false)
 | .ext i e,s=>oS (sEx s) λc=>(match oH Γ i "extend" c with|some [a]=>bG Γ e a|_=>false)
 | .ret e,s=>oS (aKD s) λr=>oB r (bG Γ e)|.retv i,s=>oS (aKD s) λr=>oB r λv=>oS (asN v) (fD Γ i)|.retN,s=>oS (aKD s) λr=>r.isNone|.iff c a b,s=>oS (sIf s) λr=>bG Γ c r.1&&chkSs Γ a r.2.1&&chkSs Γ b r.2.2|.for t it b,s=>oS (aQg s) λr=>tO Γ t r.1&&chkI Γ (qZ r.1) it r.2.1&&chkSs Γ b r.2.2|.whl c b,s=>oS (aQh s) λr=>bG Γ c r.1&&chkSs Γ b r.2|.brk,s=>oS (aQi s) λ_=>true|.cnt,s=>oS (aQj s) λ_=>true|.pass,s=>oS (aNr s) λ_=>true|.ex e,s=>oS (sEx s) λv=>bG Γ e v&&!rC v|.off,_=>true|.rse c k (.k e .z),s=>oS (aNs s) λr=>(r.1==c)&&cQ Γ c&&cF c&&(if k then Γ.pls else Γ.rsd).contains c&&bG Γ e r.2|.rse c false .z,s=>oS (aNs s) λr=>(r.1==c)&&cQ Γ c&&cF c&&Γ.rsd.contains c&&oS (asC r.2) fun|.str _=>true|_=>false
 | .rse _ _ _,_=>false|.tryA b c i j,s=>oS (aQk s) λr=>(r.x==c)&&cQ Γ c&&cF c&&Γ.cls.contains c&&cV Γ i r.y&&cV Γ j r.n&&(Γ.sc.lookup r.n==some .local)&&cF r.n&&(i != j)&&Γ.fn&&chkSs Γ b r.body|.tryN b,s=>oS (aNu s) λr=>chkSs Γ b r|.appPop i j e k,s=>oS (sEx s) λc=>(match oH Γ i "append" c with|some [a]=>oS (aBW a) (λu=>oS (asC u.2) (eqC (.int k))&&(match oH Γ j "pop" u.1 with|some [b]=>bG Γ e b&&(i != j)|_=>false))|_=>false)
noncomputable def chkSs(Γ:Ct):Ss->List Cj->Bool
 | .z,[]=>true|.k s ss,x::xs=>iD Γ s x&&chkSs Γ ss xs|_,_=>false
end
end Hp
namespace L2
open PySem PySem.Spec PyProof.Rows
def cdV(C d:Addr):Value:=.str ⟨#[C,d]⟩ 0
def kC:Value->Value
 | .str ⟨⟨[C,_]⟩⟩ _=>.ref C|v=>v
def kD:Value->Option Addr
 | .str ⟨⟨[_,d]⟩⟩ _=>some d|_=>none
def Rec(h:Heap)(e:Addr)(cls:Value)(T:Option Addr):Prop:=∃oe vs,h.get? e=some oe/\oe.cls=kC cls/\oe.dict=kD cls/\oe.data=.fields vs/\match T with|none=>vs[1]? = some .none|some T=>vs[1]? = some (.ref T)/\T≠e/\∃oT ts,h.get? T=some oT/\oT.data=.fields ts/\∃f:Option Addr,ts[3]? = some (f.elim .none λf=>Br f)
structure Lx (fr:List Addr) (e:Addr) (T:Option Addr) (h h':Heap):Prop where
 keep:∀b o,h.get? b=some o->b∉fr->b≠e->T≠some b->h'.get? b=some o
 slot:∀b o,h.get? b=some o->b∈fr->∃sl,h'.get? b=some { o with slots:=sl }
theorem jU(f:Array Value->Array Value)(o:Obj):(o.mapFields f).dict=o.dict:=by obtain⟨c,d,B,sl⟩:=o;cases B <;> rfl
theorem aBX{env:HS}{oe:Obj}{vs:Array Value}{Q:Unit->Ad->Prop}
 (q6:A.frames=some (env::outer)) (hl:s.heap.FunFrames base (env::outer)) (hf:env.frame=some L)
 (he:s.heap.get? e=some oe) (q3:oe.cls=kC cls) (q5:oe.dict=kD cls) (hd:oe.data=.fields vs) (q4:1<vs.size)
 (h:∀h' T',s.heap.objs.size<=T'->Lx (frs (env::outer)) e none s.heap h'->Rec h' e cls (some T')->Q () { s with heap:=h' }) :
 An M A (do let a<-frameOf env;let pl<-J8 L hadNext;let b<-Gw head a .none (Br L) .none pl;IH (.ref e) 1 b) Q E s:=by
 have U:e∉(env::outer).filterMap (·.frame):=λhm=>by obtain⟨_,o,ho,q7⟩:=hl.mem hm;rw[he] at ho;injection ho with ho;subst ho;exact q7 vs hd
 refine Aa (Hg q6 hl hf λB G=>?_);refine Aa (GF λpl q8=>?_);refine Aa (Be ?_ (q8.sizeOk5 _ _ _ _ _));have W:=Ab { cls:=.type "traceback",dict:=none,data:=.fields ([head,.ref L,.none,Br L,.none]++(if pl.isEmpty then Af 6 AZ else pl)).toArray } ((G.2.1 e U).trans he);refine Cz W hd q4 ?_;have q2:=Bq (Ag ((G.2.1 e U).trans he));have I:=Bg hd (·.setIfInBounds 1 (Bu B.objs.size));have q0:=(A2 (B.push { cls:=.type "traceback",dict:=none,data:=.fields ([head,.ref L,.none,Br L,.none]++(if pl.isEmpty then Af 6 AZ else pl)).toArray })
  (Cr (·.setIfInBounds 1 (Bu B.objs.size))) (BQ q2)).trans (Ak B rfl)
 refine h _ B.objs.size (by rw[G.1];exact Al _) ?_ ?_;have keep:∀b o,b≠e->B.get? b=some o ->
  ((B.push { cls:=.type "traceback",dict:=none,data:=.fields ([head,.ref L,.none,Br L,.none]++(if pl.isEmpty then Af 6 AZ else pl)).toArray }).update e (Cr (·.setIfInBounds 1 (Bu B.objs.size)))).get? b=some o:=λb o q1 hb=>by rw[A2 _ _ (BQ q1)];exact Ab _ hb
 refine⟨λb o hb hn q1 _=>keep b o q1 ((G.2.1 b hn).trans hb),λb o hb hn=>?_⟩;obtain⟨sl,hs⟩:=G.2.2 b o hb;refine⟨sl,keep b _ (λz=>?_) hs⟩;subst z;exact U hn;exact⟨_,_,(Bh (Cr (·.setIfInBounds 1 (Bu B.objs.size))) W (BI I)),(EW _ _).trans q3,(jU _ _).trans q5,I,by simp[q4],q2,_,_,q0,rfl,some L,by simp⟩
theorem aBY{env:HS}{oe:Obj}{vs:Array Value}{Q:Unit->Ad->Prop}
 (q8:A.frames=some (env::outer)) (hl:s.heap.FunFrames base (env::outer)) (hf:env.frame=some L)
 (he:s.heap.get? e=some oe) (q5:oe.cls=kC cls) (q7:oe.dict=kD cls) (hd:oe.data=.fields vs) (q4:1<vs.size)
 (h:∀h' T',s.heap.objs.size<=T'->Lx (frs (env::outer)) e none s.heap h'->Rec h' e cls (some T')->Q () { s with heap:=h' }) :
 An M A (do let a<-frameOf env;let pl<-J8 L hadNext;let b<-Gw head a .none (Br L) .none pl;IH (.ref e) 1 b) (λ_ s'=>An M A (Fq (.ref e) none) Q E s') E s:=by
 have W:e∉(env::outer).filterMap (·.frame):=λhm=>by obtain⟨_,o,ho,q9⟩:=hl.mem hm;rw[he] at ho;injection ho with ho;subst ho;exact q9 vs hd
 refine Aa (Hg q8 hl hf λB G=>?_);refine Aa (GF λpl q6=>?_);refine Aa (Be ?_ (q6.sizeOk5 _ _ _ _ _));have q0:=Ab { cls:=.type "traceback",dict:=none,data:=.fields ([head,.ref L,.none,Br L,.none]++(if pl.isEmpty then Af 6 AZ else pl)).toArray } ((G.2.1 e W).trans he);refine Cz q0 hd q4 ?_;have q2:=Bq (Ag ((G.2.1 e W).trans he));have I:=Bg hd (·.setIfInBounds 1 (Bu B.objs.size));have q1:=Bh (Cr (·.setIfInBounds 1 (Bu B.objs.size))) q0 (BI I);have U:=(A2 (B.push { cls:=.type "traceback",dict:=none,data:=.fields ([head,.ref L,.none,Br L,.none]++(if pl.isEmpty then Af 6 AZ else pl)).toArray })
  (Cr (·.setIfInBounds 1 (Bu B.objs.size))) (BQ q2)).trans (Ak B rfl)
 refine Aa (AH q1 I (x:=.ref B.objs.size) (by simp[q4]) ?_);refine Cz U rfl (by simp only[Ah,lA,lC,lN] <;> omega) (h _ B.objs.size (by rw[G.1];exact Al _) ?_ ?_);have keep:∀b o,b≠e->B.get? b=some o ->
  (((B.push { cls:=.type "traceback",dict:=none,data:=.fields ([head,.ref L,.none,Br L,.none]++(if pl.isEmpty then Af 6 AZ else pl)).toArray }).update e (Cr (·.setIfInBounds 1 (Bu B.objs.size)))).update B.objs.size
   (Cr (·.setIfInBounds 3 ((none:Option Addr).elim AZ λf=>Br f)))).get? b=some o:=λb o q3 hb=>by rw[A2 _ _ (Bq (Ag hb)),A2 _ _ (BQ q3)];exact Ab _ hb
 refine⟨λb o hb hn q3 _=>keep b o q3 ((G.2.1 b hn).trans hb),λb o hb hn=>?_⟩;obtain⟨sl,hs⟩:=G.2.2 b o hb;refine⟨sl,keep b _ (λz=>?_) hs⟩;subst z;exact W hn
 . refine⟨_,_,(A2 _ _ q2).trans q1,(EW _ _).trans q5,(jU _ _).trans q7,I,by simp[q4],q2,_,_,Bh _ U (BI (Bg rfl _)),Bg rfl _,none,by first|(simp;done)|(rcases q6 with rfl|⟨_,_,_,_,_,_,_,rfl⟩ <;> simp)⟩
theorem aEP{env:HS}{Q:Unit->Ad->Prop}
 (q5:A.frames=some (env::outer)) (hl:s.heap.FunFrames base (env::outer)) (hf:env.frame=some L) (hr:Rec s.heap e cls T)
 (h:∀h' T',(s.heap.objs.size<=T'\/T=some T')->Lx (frs (env::outer)) e T s.heap h'->Rec h' e cls (some T')->Q () { s with heap:=h' }):An M A (Dj (.ref e) env) (λ_ s'=>An M A (Fq (.ref e) none) Q E s') E s:=by
 obtain⟨oe,vs,he,q0,q3,hd,hT⟩:=hr;unfold Dj;simp only[hf];cases T with
 | none=>refine Aa (AH he hd hT ?_);exact aBY q5 hl hf he q0 q3 hd (A6.mp hT).1 λh' T' l=>h h' T' (.inl l)|some T=>
  obtain⟨h1,q2,oT,ts,hT,U,fl,h3⟩:vs[1]? = some (.ref T)/\T≠e/\∃oT ts,s.heap.get? T=some oT/\oT.data=.fields ts/\∃f:Option Addr,ts[3]? = some (f.elim .none λf=>Br f):=hT;refine Aa (AH he hd h1 ?_);have W:∀b o,s.heap.get? b=some o->(∀vs,o.data≠.fields vs)->b≠T:=λb o hb G q=>by rw[q,hT] at hb;injection hb with hb;subst hb;exact G ts U
  refine Aa (AH hT U h3 ?_);by_cases q4:(fl.elim AZ (λf=>Br f)==Br L)=true;rw[if_pos q4];refine Ac ?_;refine Gb he hd h1 hT U (A6.mp h3).1 (h _ T (.inr rfl) ⟨λb o q _ _ hb=>?_,λb o q hb=>⟨o.slots,?_⟩⟩ ?_);exact(A2 _ _ λz=>hb (by rw[z])).trans q;obtain⟨_,o',q1,G⟩:=hl.mem hb;rw[q] at q1;cases q1;exact(A2 _ _ (BQ (W b o q G))).trans q;refine⟨oe,vs,(A2 _ _ q2).trans he,q0,q3,hd,h1,q2,_,_,Bh _ hT (BI (Bg U _)),Bg U _,none,?_⟩;have:=(A6.mp h3).1;simp[this];rw[if_neg q4];refine Aa (Cz hT U (A6.mp h3).1 ?_);have I:∀b,b≠T->(s.heap.update T (Cr (·.setIfInBounds 3 AZ))).get? b=s.heap.get? b:=λb hb=>A2 _ _ (BQ hb);have B:∀b o,s.heap.get? b=some o->(∀vs,o.data≠.fields vs)->b≠T:=λb o hb G q=>by rw[q,hT] at hb;injection hb with hb;subst hb;exact G ts U
  refine aBY q5 (hl.of_keeps λb o hb G=>⟨o,(I b (B b o hb G)).trans hb,rfl⟩) hf ((I e (BQ q2)).trans he) q0 q3 hd (A6.mp h1).1
   λh' T' l1 x1 x2=>h h' T' (.inl (by rw[<-(FC ..)];exact l1)) ⟨λb o hb hn q7 q6=>x1.keep b o ((I b λz=>q6 (by rw[z])).trans hb) hn q7 (λz=>nomatch z),λb o hb hn=>?_⟩ x2
  refine x1.slot b o ((I b ?_).trans hb) hn;obtain⟨_,o',q1,G⟩:=hl.mem hn;rw[hb] at q1;cases q1;exact B b o hb G
theorem aHQ{env:HS}{Q:Unit->Ad->Prop}
 (q3:A.frames=some (env::outer)) (hl:s.heap.FunFrames base (env::outer)) (hf:env.frame=some L) (hr:Rec s.heap e cls T)
 (h:∀h' W,(s.heap.objs.size<=W\/T=some W)->Lx (frs (env::outer)) e T s.heap h'->Rec h' e cls (some W)->Q () { s with heap:=h' }):An M A (Dj (.ref e) env) Q E s:=by
 have q8:=hr;obtain⟨oe,vs,he,U,q1,hd,hT⟩:=hr;unfold Dj;simp only[hf];cases T with
 | none=>refine Aa (AH he hd hT ?_);exact aBX q3 hl hf he U q1 hd (A6.mp hT).1 λh' W l=>h h' W (.inl l)|some T=>
  obtain⟨h1,q5,oT,ts,hT,q0,fl,h3⟩:vs[1]? = some (.ref T)/\T≠e/\∃oT ts,s.heap.get? T=some oT/\oT.data=.fields ts/\∃f:Option Addr,ts[3]? = some (f.elim .none λf=>Br f):=hT;refine Aa (AH he hd h1 ?_);refine Aa (AH hT q0 h3 ?_);by_cases q2:(fl.elim AZ (λf=>Br f)==Br L)=true;rw[if_pos q2];exact Ac (h s.heap T (.inr rfl) ⟨λb o q _ _ _=>q,λb o q _=>⟨o.slots,q⟩⟩ q8);rw[if_neg q2];refine Aa (Cz hT q0 (A6.mp h3).1 ?_);have G:∀b,b≠T->(s.heap.update T (Cr (·.setIfInBounds 3 AZ))).get? b=s.heap.get? b:=λb hb=>A2 _ _ (BQ hb);have B:∀b o,s.heap.get? b=some o->(∀vs,o.data≠.fields vs)->b≠T:=λb o hb I q=>by rw[q,hT] at hb;injection hb with hb;subst hb;exact I ts q0
  refine aBX q3 (hl.of_keeps λb o hb I=>⟨o,(G b (B b o hb I)).trans hb,rfl⟩) hf ((G e (BQ q5)).trans he) U q1 hd (A6.mp h1).1
   λh' W l1 x1 x2=>h h' W (.inl (by rw[<-(FC ..)];exact l1)) ⟨λb o hb hn q7 q6=>x1.keep b o ((G b λz=>q6 (by rw[z])).trans hb) hn q7 (λz=>nomatch z),λb o hb hn=>?_⟩ x2
  refine x1.slot b o ((G b ?_).trans hb) hn;obtain⟨_,o',q4,I⟩:=hl.mem hn;rw[hb] at q4;cases q4;exact B b o hb I
theorem aDp{env:HS}{Q:Unit->Ad->Prop}
 (G:A.frames=some (env::outer)) (U:s.heap.FunFrames base (env::outer)) (I:env.frame=some L) (W:Rec s.heap e cls T)
 (h:∀h' B,(s.heap.objs.size<=B\/T=some B)->Lx (frs (env::outer)) e T s.heap h'->Rec h' e cls (some B)->Q () { s with heap:=h' }):An M A (leaving env (.ref e)) Q E s:=by exact Aa (aEP G U I W h)
def Old(h:Heap)(b:Addr):Prop:=∃o,h.get? b=some o
theorem Old.lt{h:Heap}(x:Old h b):b<h.objs.size:=let ⟨_,q⟩:=x;Ag q
def Fly(h0:Heap)(ex:List Addr)(H:Hp)(L:List Addr)(e:Addr)(cls:Value)(h:Heap):Prop:=∃T,Rec h e cls T/\∀b,(b=e\/T=some b)->¬ (Old h0 b/\b∉ex)/\H b=none/\b∉L
theorem Fly.older(f:Fly h1 [] H L e cls h)(l:∀b,Old h0 b->b∉ex->Old h1 b)(G:∀b∈B,Old h1 b):Fly h0 ex H B e cls h:=
 let ⟨T,c,d⟩:=f
 ⟨T,c,λb z=>⟨λy=>(d b z).1 ⟨l _ y.1 y.2,AM⟩,(d b z).2.1,λy=>(d b z).1 ⟨G b y,AM⟩⟩⟩
def CX1(P:AB)(w:AV):CXT:=λouter H s E e s'=>∃a cls H',e=.ref a/\s'.os=s.os/\Ez s'.gens/\Un (frs outer) [] H H' s.heap s'.heap/\HOk P w H' s'.heap/\Fly s.heap [] H' [] a cls s'.heap/\E cls none H'
abbrev pinA(X:Cx)(pins:List (Addr×Obj)):List Addr:=(X.pn++pins).map (·.1)
def Rs(X:Cx)(W0:Value->St->Hp->Prop):Prop:=∀(pins:List (Addr×Obj)) (Z:St) (H:Hp) (s:Ad) (a:Addr) (cls:Value),Inv X pins Z H s->Fly X.s₀.heap X.ex H (pinA X pins) a cls s.heap->W0 cls Z H->X.xe (.ref a) s
def RX(X:Cx)(cls:Value)(ZV:St)(H:Hp):Prop:=∀(pins:List (Addr×Obj)) (s:Ad) (a:Addr),Inv X pins ZV H s->Fly X.s₀.heap X.ex H (pinA X pins) a cls s.heap->X.xe (.ref a) s
theorem aBZ(X:Cx):Rs X (RX X):=λpins Z H s a cls I B h=>h pins s a I B
theorem wF(I:Inv X pins Z H s):∀b,Old X.s₀.heap b->b∉X.ex->Old s.heap b:=λb ⟨o,q⟩ hb=>I.base.there b o q hb
theorem mR(I:Inv X pins Z H s):∀b∈pinA X pins,Old s.heap b:=λb hb=>by obtain⟨p,hp,rfl⟩:=A0.mp hb;exact⟨_,(I.pin p hp).1⟩
theorem Rs.pass{W0:Value->St->Hp->Prop}(h:Rs X W0)(I:Inv X pins Z H s)(c:CX1 X.prog X.w X.stack H s (λc _ H=>W0 c Z H) e s'):X.xe e s':=by obtain⟨a,cls,H',B,os,bare,un,hok,G,q⟩:=c;subst B;exact h pins Z H' s' a cls (I.call' os un hok bare (λb z=>absurd z (by simp))) (G.older (wF I) (mR I)) q
theorem aCa{W0:Value->St->Hp->Prop}(F:vS X.prog X.w X.K X.mg X.base (CX1 X.prog X.w) k f fd ps sp)(U:lH k X.A)(hb:jP X.K fd ps ds)(hd:bJ dvs ds)(L:Rs X W0)
 (I:Inv X pins Z H s) (r:bJ vs us) (h:sp (vs++dvs) H Q λc _ H=>W0 c Z H):An (Ay X.prog X.w) X.A (call (.ref f) us) (EP X pins Z Q) X.xe s:=by
 refine FD (Da (F.run X.A X.stack s H ⟨us,[]⟩ (us++ds) (vs++dvs) Q _ U I.env0 (hb s us I.kIn (by rw[<-(r.append hd).length];exact F.len _ _ _ _ h)) (r.append hd) h) λr W B=>?_);cases r with
 | error e=>exact L.pass I B|ok G=>
  cases G with
  | ret u=>exact I.after B|next=>exact Cy B|brk=>exact Cy B|cont=>exact Cy B
theorem aEQ{h h1 h':Heap}(u:Un fs ex H H1 h h1)(x:Lx fr e T h1 h')(I:∀b,b∈fr->b∈fs\/h.objs.size<=b)(he:¬ (Old h e/\e∉ex))(W:∀t,T=some t->¬ (Old h t/\t∉ex))(L:∀b∈fs,b∈fr) :
 Un fs ex H H1 h h' where
 keep:=λb o q n hb hx=>by refine x.keep b o (u.keep b o q n hb hx) (λz=>?_) (λz=>?_) λz=>?_;rcases I b z with z|z;exact hb z;exact absurd (Ag q) (Db.mpr z);subst z;exact he ⟨⟨o,q⟩,hx⟩;exact W b z ⟨⟨o,q⟩,hx⟩
 slot:=λb o q n hb hx=>by obtain⟨sl,B⟩:=u.slot b o q n hb hx;obtain⟨U,G⟩:=x.slot b _ B (L b hb);exact⟨U,G⟩
 free:=u.free
 there:=λb o q hx=>by obtain⟨o',B⟩:=u.there b o q hx;by_cases hb:b∈fr;obtain⟨sl,G⟩:=x.slot b o' B hb;exact⟨_,G⟩;exact⟨o',x.keep b o' B hb (λz=>by subst z;exact he ⟨⟨o,q⟩,hx⟩) λz=>W b z ⟨⟨o,q⟩,hx⟩⟩
 tups:=u.tups
 frzs:=u.frzs
 tbls:=u.tbls
theorem uB(k:HOk P w H h)(x:Lx fr e T h h')(B:∀b∈fr,H b=none)(L:H e=none)(I:∀t,T=some t->H t=none):HOk P w H h':=λa o q=>
 (k a o q).stay (λb u hb g=>by
  have G:H b≠none:=by rcases hb with z|z;rw[z,q];exact λz=>nomatch z;rw[z];exact λz=>nomatch z
  exact x.keep b u g (λz=>G (B b z)) (λz=>G (by rw[z];exact L)) λz=>G (I b z)) (λ_ z=>z) λ_ _ z=>z
theorem aAQ{P:AB}{w:AV}{K:Ai}{mg:Str->Option Value}{base:Heap}{N:List Str}{qual:Str}{scope:DA}{f:Addr}{cd:Value}{A:B6}{outer:List HS}{s:Ad}{H:Hp}{E:XK} :
 Rs (tH (CX1 P w) P w K mg base N qual scope f cd A outer s H E) λc _ H'=>E c none H':=by
 intro pins Z H1 s1 a cls I U W;obtain⟨T,f3,f4⟩:=U;have G:(tH (CX1 P w) P w K mg base N qual scope f cd A outer s H E).env.frame=some (tH (CX1 P w) P w K mg base N qual scope f cd A outer s H E).env.locals:=by
  rcases I.ok.stk with z|⟨_,z⟩
  have z:Fd qual scope s.heap.objs.size f cd::outer=outer:=z;exact absurd (congrArg EU z) (by simp);exact z
 refine aDp I.ok.frames I.stack G f3 λh' L B x r=>?_;have un:=aEQ I.base x (λb hb=>?_) (f4 a (.inl rfl)).1 (λt z=>(f4 t (.inr z)).1) λb hb=>?_;refine⟨a,cls,H1,rfl,I.os,I.bare,un,uB I.hok x I.stkFree (f4 a (.inl rfl)).2.1 λt z=>(f4 t (.inr z)).2.1,⟨some L,r,λt z=>?_⟩,W⟩;rcases z with rfl|z;exact⟨(f4 _ (.inl rfl)).1,(f4 _ (.inl rfl)).2.1,by simp⟩;cases z;rcases B with B|B;exact⟨λz=>absurd z.1.lt (Db.mpr (AJ I.sz B)),I.hok.fresh B,by simp⟩;exact⟨(f4 _ (.inr B)).1,(f4 _ (.inr B)).2.1,by simp⟩;rcases(λb hb=>As.mp (I.stkSub b hb)) b hb with z|z;rw[z];exact .inr I.ok.above;exact .inl z;unfold frs at hb ⊢;rw[Cp];have:(Fd qual scope s.heap.objs.size f cd).frame=some (Fd qual scope s.heap.objs.size f cd).locals:=G;exact Aj _ hb
end L2
namespace Hp
open PySem PySem.Spec PyProof.Rows L2
def Kp(R:Addr->Prop)(H H':Hp):Prop:=∀a o,H a=some o->¬ R a->H' a=some o
def RE{α:Type}(w:D->Prop):R α->(α->Prop)->Prop
 | .ok a,p=>p a|.exc x,_=>w x|.bad,_=>False
theorem RE.mono{α:Type}{x:R α}{p q:α->Prop}{w:D->Prop}(h:RE w x p)(f:∀a,p a->q a):RE w x q:=by
 cases x with
 | ok a=>exact f a h|exc e=>exact h|bad=>exact h
theorem RE.bind{α B:Type}{x:R α}{f:α->R B}{p:B->Prop}{w:D->Prop}:RE w (x >>= f) p=RE w x λa=>RE w (f a) p:=by cases x <;> rfl
theorem RE.iff{α:Type}{c:Bool}{x:R α}{p:α->Prop}{w:D->Prop}(h:RE w (R.iff c x) p):c=true/\RE w x p:=by
 cases c with
 | true=>exact⟨rfl,h⟩|false=>exact h.elim
section
variable (K:Fg) (RT Y old:Addr->Prop)
def exB(pa:Bool)(a:Addr):Prop:=Y a\/(pa=false/\old a)
def Tk(H:Hp):Prop:=∀b,H b≠none->K.lookup b=none
def RtO(H:Hp)(a:Addr):Prop:=(∃xs,H a=some (.lst xs))\/∃xs,H a=some (pG a xs)
structure Sx (Z:Sg) (ZV:L2.St) (H:Hp):Prop where
 sh:∀(i:Nat) (pa:Bool) (d:D),Z[i]? = some (.sh pa d)->∃v,ZV[i]? = some (some v)/\Rep K H (λa=>RT a\/exB Y old pa a) d v
 own:∀(i:Nat) (pa:Bool) (ds:List D),Z[i]? = some (.own pa ds)->∃a xs,ZV[i]? = some (some (.ref a))/\H a=some (.lst xs)/\RT a/\¬ old a/\Reps K H (λa=>RT a\/exB Y old pa a) ds xs
 trk:∀a,RT a\/Y a\/old a->H a=none->K.lookup a≠none
 yo:∀a,Y a->old a
 tk:Tk K H
 rt:∀a,RT a->RtO H a
 inj:∀(i j:Nat) (pa pa':Bool) (ds ds':List D) (a:Addr),Z[i]? = some (.own pa ds)->Z[j]? = some (.own pa' ds')->ZV[i]? = some (some (.ref a))->ZV[j]? = some (some (.ref a))->i=j
 len:Z.length=ZV.length
def alR(Z:Sg)(ZV:L2.St)(al:List Nat)(a:Addr):Prop:=∃j∈al,(∃pa ds,Z[j]? = some (.own pa ds))/\ZV[j]? = some (some (.ref a))
def exV(Z:Sg)(ZV:L2.St)(pa:Bool)(al:List Nat)(a:Addr):Prop:=(RT a/\¬ alR Z ZV al a)\/exB Y old pa a
def Rv(Z:Sg)(ZV:L2.St)(H:Hp)(v:Vl)(u:V):Prop:=Rep K H (exV RT Y old Z ZV v.pa v.al) v.d u
def Ro(Z:Sg)(ZV:L2.St)(H H':Hp)(v:Vl)(u:V):Prop:=
 aW H H'/\(if v.fr=true then ∃a xs ds,u=.ref a/\v.d=.lst ds/\(H a=none/\K.lookup a=none)/\H' a=some (.lst xs)/\Reps K H' (λb=>b=a\/exV RT Y old Z ZV v.pa v.al b) ds xs
  else Rv K RT Y old Z ZV H' v u)
def Rvs(Z:Sg)(ZV:L2.St)(H:Hp):List Vl->List V->Prop
 | [],us=>us=[]
 | v::vs,us=>∃u r,us=u::r/\Rv K RT Y old Z ZV H v u/\Rvs Z ZV H vs r
end
section
variable {K:Fg} {H H' H1 H2:Hp} {v:Vl}
theorem RtO.grow(h:RtO H a)(s:aW H H'):RtO H' a:=h.imp (λ⟨xs,e⟩=>⟨xs,s _ _ e⟩) λ⟨xs,e⟩=>⟨xs,s _ _ e⟩
theorem RtO.ne(h:RtO H a):H a≠none:=λz=>by
 rcases h with⟨xs,e⟩|⟨xs,e⟩
 rw[z] at e;cases e;rw[z] at e;cases e
theorem Sx.grow(S:Sx K RT Y old Z ZV H)(s:aW H H')(t:Tk K H'):Sx K RT Y old Z ZV H' where
 sh:=λi pa d e=>let ⟨v,h1,h2⟩:=S.sh i pa d e;⟨v,h1,h2.grow s⟩
 own:=λi pa ds e=>let ⟨a,xs,h1,h2,h3,h4,h5⟩:=S.own i pa ds e;⟨a,xs,h1,s _ _ h2,h3,h4,h5.grow s⟩
 trk:=λa h z=>S.trk a h (s.free z)
 yo:=S.yo
 tk:=t
 rt:=λa h=>(S.rt a h).grow s
 inj:=S.inj
 len:=S.len
theorem exV.trk(S:Sx K RT Y old Z ZV H)(h:exV RT Y old Z ZV pa al a):H a=none->K.lookup a≠none:=by
 rcases h with⟨h,_⟩|h|⟨_,h⟩
 exact S.trk a (.inl h);exact S.trk a (.inr (.inl h));exact S.trk a (.inr (.inr h))
theorem Ro.rv(S:Sx K RT Y old Z ZV H)(h:Ro K RT Y old Z ZV H H' v u):Rv K RT Y old Z ZV H' v u:=by obtain⟨s,h⟩:=h;by_cases I:v.fr=true;rw[if_pos I] at h;obtain⟨a,xs,ds,L,U,B,G,r⟩:=h;unfold Rv;rw[U];exact⟨a,xs,L,SqL.of G,⟨λz=>exV.trk S z B.1 B.2,λ_=>G⟩,r.weak λb z=>.inr z⟩;rw[if_neg I] at h;exact h
theorem Rv.grow(h:Rv K RT Y old Z ZV H v u)(s:aW H H'):Rv K RT Y old Z ZV H' v u:=Rep.grow h s
theorem Rvs.grow:∀{vs:List Vl} {us:List V},Rvs K RT Y old Z ZV H vs us->aW H H'->Rvs K RT Y old Z ZV H' vs us
 | [],_,h,_=>h|v::vs,_,h,s=>by obtain⟨u,r,e,h1,h2⟩:=h;exact⟨u,r,e,h1.grow s,Rvs.grow h2 s⟩
theorem Ro.plain(s:aW H H')(B:v.fr=false)(h:Rv K RT Y old Z ZV H' v u):Ro K RT Y old Z ZV H H' v u:=⟨s,by rw[if_neg (by rw[B];decide)];exact h⟩
theorem Ro.from(h:Ro K RT Y old Z ZV H1 H' v u)(s:aW H H1):Ro K RT Y old Z ZV H H' v u:=by obtain⟨W,h⟩:=h;refine⟨s.trans W,?_⟩;by_cases G:v.fr=true;rw[if_pos G] at h ⊢;obtain⟨a,xs,ds,I,L,B,U,r⟩:=h;exact⟨a,xs,ds,I,L,⟨s.free B.1,B.2⟩,U,r⟩;rw[if_neg G] at h ⊢;exact h
theorem Ro.cl(s:aW H H')(h:Rep K H' (exV RT Y old Z ZV false []) d u):Ro K RT Y old Z ZV H H' (.cl d) u:=Ro.plain s rfl h
theorem Rv.sub{ds:List D}{xs:List V}{j:Nat}(h:Rep K H (exV RT Y old Z ZV v.pa v.al) d x):Rv K RT Y old Z ZV H (v.sub d) x:=by unfold Rv Vl.sub;by_cases B:noL d=true;rw[if_pos B];exact Rep.free d x B h;rw[if_neg B];exact h
theorem alR.mono(h:alR Z ZV al a)(s:∀j∈al,j∈al'):alR Z ZV al' a:=by obtain⟨j,B,q⟩:=h;exact⟨j,s j B,q⟩
theorem exV.mono(h:exV RT Y old Z ZV pa' al' a)(hp:pa=true->pa'=true)(s:∀j∈al,j∈al'):exV RT Y old Z ZV pa al a:=by
 rcases h with⟨h1,h2⟩|h|⟨h1,h2⟩
 exact .inl ⟨h1,λz=>h2 (z.mono s)⟩;exact .inr (.inl h);refine .inr (.inr ⟨?_,h2⟩);cases pa with
 | false=>rfl|true=>rw[hp rfl] at h1;cases h1
theorem Rvs.length:∀{vs:List Vl} {us:List V},Rvs K RT Y old Z ZV H vs us->vs.length=us.length
 | [],_,h=>by rw[show _=[] from h];rfl|v::vs,_,h=>by obtain⟨u,r,e,_,h2⟩:=h;subst e;rw[lC,lC,Rvs.length h2]
theorem pH{v:Vl}(h:v∈vs):∀j∈v.al,j∈bY vs:=λj B=>Fr.mpr ⟨v,h,B⟩
theorem yR{v:Vl}(h:v∈vs)(hp:v.pa=true):dP vs=true:=Eb.mpr ⟨v,h,hp⟩
theorem Rvs.reps:∀{vs:List Vl} {us:List V} {pa:Bool} {al:List Nat},Rvs K RT Y old Z ZV H vs us->(∀v∈vs,(v.pa=true->pa=true)/\∀j∈v.al,j∈al) ->
 Reps K H (exV RT Y old Z ZV pa al) (vs.map (·.d)) us
 | [],_,_,_,h,_=>h|v::vs,_,_,_,h,q=>by obtain⟨u,r,e,h1,h2⟩:=h;have B:=q v Ar;exact⟨u,r,e,Rep.weak h1 λa z=>z.mono B.1 B.2,Rvs.reps h2 λw G=>q w (Aj _ G)⟩
theorem Rvs.all{vs:List Vl}(h:Rvs K RT Y old Z ZV H vs us):Reps K H (exV RT Y old Z ZV (dP vs) (bY vs)) (vs.map (·.d)) us:=
 h.reps λv B=>⟨λz=>yR B z,pH B⟩
theorem Ro.fresh(hp:H p=none)(B:Tk K (upd H p (.lst xs)))(hd:v.d=.lst ds)(G:v.fr=true)(S:Sx K RT Y old Z ZV H)(r:Reps K H (exV RT Y old Z ZV v.pa v.al) ds xs) :
 Ro K RT Y old Z ZV H (upd H p (.lst xs)) v (.ref p):=by
 have s:aW H (upd H p (.lst xs)):=λb o q=>by rw[aP (bO q hp)];exact q
 refine⟨s,?_⟩;rw[if_pos G];refine⟨p,xs,ds,rfl,hd,⟨hp,(B p (by rw[bE];simp))⟩,bE,?_⟩;refine Reps.imp (λ_ _ q=>aW.seqT s q) (λa U n q=>⟨λz=>?_,s.seq q⟩) (λ⟨c,h1,h2⟩=>⟨c,h1,h2.resolve_left λz=>h1 (by rw[z];exact(B p (by rw[bE];simp)))⟩) (λ_ _ _ q=>s _ _ q) (λ_ _ _ _ q=>s _ _ q) ds xs r;rcases z with z|z;subst z;rcases q with(q|⟨o,q⟩)|⟨o,I,L,q,_⟩
 rw[hp] at q;cases q;rw[hp] at q;cases q;have z:=B a (by rw[bE];simp);rw[q] at z;cases z;exact n z
theorem aW.new(hp:H p=none):aW H (upd H p o):=λb u q=>by rw[aP (bO q hp)];exact q
theorem Ro.tup(hp:H p=none)(hd:v.d=.tup ds)(B:v.fr=false)(r:Reps K H (exV RT Y old Z ZV v.pa v.al) ds xs) :
 Ro K RT Y old Z ZV H (upd H p (.tup xs)) v (.ref p):=by refine Ro.plain (aW.new hp) B ?_;unfold Rv;rw[hd];exact⟨p,xs,rfl,SqT.of bE,r.grow (aW.new hp)⟩
end
def Kc(K:Fg)(H:Hp)(c:Str):List D->Value->Prop
 | [],cls=>∃C,cls=.ref C/\Cq K AG c=some (some (.ref C))|[.int n],cls=>∃C dp,cls=cdV C dp/\Cq K AG c=some (some (.ref C))/\H dp=some (.xd [("place",.int n)])|_,_=>False
def XW(X:Cx)(ZV:L2.St)(H:Hp):D->Prop
 | .err c fs=>∀cls:Value,Kc X.K H c fs cls->RX X cls ZV H|_=>False
def wx(X:Cx)(ZV:L2.St)(H:Hp)(x:D):Prop:=∀H',Tk X.K H'->aW H H'->XW X ZV H' x
theorem wx.grow(h:wx X ZV H x)(s:aW H H1):wx X ZV H1 x:=λH' t z=>h H' t (s.trans z)
theorem RE.weak{α:Type}{x:R α}{p:α->Prop}{w w':D->Prop}(h:RE w x p)(f:∀x,w x->w' x):RE w' x p:=by
 cases x with
 | ok a=>exact h|exc e=>exact f e h|bad=>exact h
theorem RE.at{α:Type}{x:R α}{p:α->Prop}{X:Cx}{ZV:L2.St}{H H1:Hp}(h:RE (wx X ZV H) x p)(s:aW H H1):RE (wx X ZV H1) x p:=h.weak λ_ z=>z.grow s
section
variable (X:Cx) (P:Pg) (W:Caller) (RT Y old:Addr->Prop)
def wE(Z:Sg)(c:E):TE:=λZV H Q=>Sx X.K RT Y old Z ZV H/\RE (wx X ZV H) (ev P W Z c) λv=>∀u H',Tk X.K H'->Ro X.K RT Y old Z ZV H H' v u->Q u H'
def wT(Z:Sg)(c:E):TT:=λZV H Q=>Sx X.K RT Y old Z ZV H/\RE (wx X ZV H) (tst P W Z c) λk=>∀H',Tk X.K H'->aW H H'->Q k H'
def wA(Z:Sg)(cs:Es):TA:=λZV H Q=>Sx X.K RT Y old Z ZV H/\RE (wx X ZV H) (evs P W Z cs) λvs=>∀us H',Tk X.K H'->aW H H'->Rvs X.K RT Y old Z ZV H' vs us->Q us H'
end
section
variable {X:Cx} {P:Pg} {W:Caller} {RT Y old:Addr->Prop} {Z:Sg} {pos:Ht}
theorem _root_.L2.Inv.tk(I:Inv X pins ZV H s):Tk X.K H:=λb hb=>by
 cases q:X.K.lookup b with
 | none=>rfl|some o=>exact absurd (I.bs b o (I.ok.mod.kin b o q)).2 hb
theorem _root_.L2.PE.imp(h:PE X e t)(f:∀ZV H Q,Tk X.K H->t' ZV H Q->t ZV H λv H'=>Tk X.K H'->Q v H'):PE X e t':=λpins s ZV H Q I G=>thn (h pins s ZV H _ I (f ZV H Q I.tk G)) λu L ⟨v,H',B,r,q⟩=>⟨v,H',B,r,q B.tk⟩
theorem _root_.L2.PT.imp(h:PT X e t)(f:∀ZV H Q,Tk X.K H->t' ZV H Q->t ZV H λv H'=>Tk X.K H'->Q v H'):PT X e t':=λpins s ZV H Q I G=>thn (h pins s ZV H _ I (f ZV H Q I.tk G)) λk L ⟨H',B,q⟩=>⟨H',B,q B.tk⟩
theorem _root_.L2.PA.imp(h:PA X es t)(f:∀ZV H Q,Tk X.K H->t' ZV H Q->t ZV H λv H'=>Tk X.K H'->Q v H'):PA X es t':=λpos pins s ZV H Q I G=>thn (h pos pins s ZV H _ I (f ZV H Q I.tk G)) λu L ⟨v,H',B,r,q⟩=>⟨v,H',B,r,q B.tk⟩
theorem wE.two{p:Vl->Vl->Prop}{Q:V->V->Hp->Prop}(S:Sx X.K RT Y old Z ZV H)(h:RE (wx X ZV H) (ev P W Z a) λx=>RE (wx X ZV H) (ev P W Z b) λy=>p x y)
 (f:∀x y G I B,p x y->Tk X.K B->aW H B->Sx X.K RT Y old Z ZV B->Rv X.K RT Y old Z ZV B x G->Rv X.K RT Y old Z ZV B y I->Q G I B) :
 wE X P W RT Y old Z a ZV H λG H1=>wE X P W RT Y old Z b ZV H1 λI B=>Q G I B:=by refine⟨S,h.mono λx hx G H1 t1 L=>⟨S.grow L.1 t1,(hx.at L.1).mono λy hy I B t2 U=>?_⟩⟩;have S1:=S.grow L.1 t1;exact f x y G I B hy t2 (L.1.trans U.1) (S1.grow U.1 t2) ((L.rv S).grow U.1) (U.rv S1)
theorem Ro.val(s:aW H H')(h:∀ex,Rep X.K H' ex d u):Ro X.K RT Y old Z ZV H H' (.cl d) u:=Ro.cl s (h _)
theorem s_c (h : eqC d c = true) : PE X (.Constant c k pos) (wE X P W RT Y old Z (.c d)) := by
 have key : ∀ {v : V}, (∀ H ex, Rep X.K H ex d v) -> PE X (.Constant c k pos) (tC v) -> PE X (.Constant c k pos) (wE X P W RT Y old Z (.c d)) := λ B hp =>hp.imp λ ZV H Q t ⟨S, q⟩ t' => q _ H t' (Ro.val (aW.refl H) (B H));cases d with
 | non => cases c with|none => exact key (λ _ _ => rfl) aJS|_ => cases h
 | bl b => cases c with
  | bool b' => have e : b = b' := by simpa [eqC] using h
               subst e; exact key (λ _ _ => rfl) aMF
  | _ => cases h
 | int b => cases c with
  | int b' => have e : b = b' := by simpa [eqC] using h
              subst e; exact key (λ _ _ => rfl) aEl
  | _ => cases h
 | str b => cases c with
  | str b' => have e : b = b' := by simpa [eqC] using h
              subst e; exact key (λ _ _ => rfl) aJT
  | _ => cases h
 | _ => cases c <;> cases h
theorem s_v(U:X.N[i]? = some x)(hv:Vis X.env.scope x)(hd:(x==("__debug__" : Str))=false)(B:(x==("__classdict__" : Str))=false) :
 PE X (.Name x pos) (wE X P W RT Y old Z (.v i)):=by
 refine(nZ U hv hd B).imp λZV H Q t ⟨S,q⟩=>?_;have q:RE (wx X ZV H) (cT Z i) _:=q;unfold cT at q;cases e:Z[i]? with
 | none=>rw[e] at q;exact q.elim|some sl=>
  rw[e] at q;cases sl with
  | x=>exact q.elim|sh pa d=>
   obtain⟨v,h1,h2⟩:=S.sh i pa d e;refine⟨v,h1,λt'=>q v H t' (Ro.plain (aW.refl H) rfl ?_)⟩;by_cases I:noL d=true;exact Rep.free d v I h2;refine Rep.weak h2 λa z=>?_;rcases z with⟨z,_⟩|z|⟨z,z'⟩
   exact .inl z;exact .inr (.inl z);have:pa=false:=by simpa[I] using z
   exact .inr (.inr ⟨this,z'⟩)
  | own pa ds=>
   obtain⟨a,xs,h1,h2,h3,G,L⟩:=S.own i pa ds e;refine⟨.ref a,h1,λt'=>q _ H t' (Ro.plain (aW.refl H) rfl ?_)⟩;refine⟨a,xs,rfl,SqL.of h2,⟨λz=>?_,λ_=>h2⟩,L.weak λb z=>?_⟩;rcases z with⟨_,z⟩|z|⟨_,z⟩
   exact z ⟨i,by simp,⟨pa,ds,e⟩,h1⟩;exact G (S.yo a z);exact G z;rcases z with⟨z,_⟩|z;exact .inl z;exact .inr z
end
section
variable {X:Cx} {RT Y old:Addr->Prop} {Z:Sg} {ZV:L2.St} {H:Hp} {s:Ad} {pins:List (Addr×Obj)} {Q:VK} {ux uy:V} {vx vy:Value} {x y:Vl}
theorem _root_.L2.EP.tk(h:EP X pins ZV (λv H'=>Tk X.K H'->Q v H') u s'):EP X pins ZV Q u s':=by obtain⟨v,H',B,r,q⟩:=h;exact⟨v,H',B,r,q (Inv.tk B)⟩
abbrev Wn(X:Cx)(RT Y old:Addr->Prop)(Z:Sg)(ZV:L2.St)(H:Hp)(Q:VK)(v:Vl):Prop:=∀u H',Tk X.K H'->Ro X.K RT Y old Z ZV H H' v u->Q u H'
theorem Wn.val(w:Wn X RT Y old Z ZV H Q (.cl d))(t:Tk X.K H)(h:∀ex,Rep X.K H ex d u):Q u H:=w u H t (Ro.cl (aW.refl H) (h _))
theorem Rv.int(h:Rv X.K RT Y old Z ZV H x u)(e:x.d=.int i):u=.int i:=by unfold Rv at h;rw[e] at h;exact h
theorem Rv.str(h:Rv X.K RT Y old Z ZV H x u)(e:x.d=.str i):u=.str i:=by unfold Rv at h;rw[e] at h;exact h
theorem Rv.bl(h:Rv X.K RT Y old Z ZV H x u)(e:x.d=.bl i):u=.bl i:=by unfold Rv at h;rw[e] at h;exact h
theorem Rv.non(h:Rv X.K RT Y old Z ZV H x u)(e:x.d=.non):u=.non:=by unfold Rv at h;rw[e] at h;exact h
theorem Rv.tup(h:Rv X.K RT Y old Z ZV H x u)(e:x.d=.tup ds):∃a xs,u=.ref a/\SqT X.K H a xs/\Reps X.K H (exV RT Y old Z ZV x.pa x.al) ds xs:=by unfold Rv at h;rw[e] at h;exact h
theorem Rv.lst(h:Rv X.K RT Y old Z ZV H x u)(e:x.d=.lst ds):∃a xs,u=.ref a/\SqL X.K H a xs/\¬ exV RT Y old Z ZV x.pa x.al a/\Reps X.K H (exV RT Y old Z ZV x.pa x.al) ds xs:=by unfold Rv at h;rw[e] at h;obtain⟨a,xs,h1,h2,B,G⟩:=h;exact⟨a,xs,h1,h2,B.1,G⟩
theorem aKE:lim<=sizeLine:=by decide
theorem iV(h:n<=lim):n<=sizeLine:=AJ h aKE
theorem fW{ds:List D}{xs:List V}{pa:Bool}{al:List Nat}{K:Fg}(r:Reps K H (exV RT Y old Z ZV pa al) ds xs) :
 Reps K H (exV RT Y old Z ZV (pa&&!noLs ds) (if noLs ds=true then [] else al)) ds xs:=by by_cases B:noLs ds=true;exact Reps.free ds xs B r;rw[if_neg B];refine r.weak λa z=>z.mono (λhp=>?_) λj G=>G;rw[hp];simp[B]
def aNv(K:Fg):R2:=λx y H Q=>∃l b xs zs,x=.ref l/\y=.ref b/\SqL K H l xs/\SqL K H b zs/\xs.length+zs.length<=sizeLine/\∀p,H p=none->Q (.ref p) (upd H p (.lst (xs++zs)))
theorem aHR:OpR X (Dt .Add) (aNv X.K):=by
 intro pins s ZV H x y v u Q I rx ry h;obtain⟨l,b,xs,zs,rfl,rfl,hH,hB,hz,q⟩:=h;cases rx;cases ry;obtain⟨G,r,pl,z⟩:=I.list hH;obtain⟨B,r2,q2,z2⟩:=I.list hB;obtain⟨⟨cls,dd,data,sl⟩,ho,hc,n,hd⟩:=pl.isList;obtain⟨⟨q4,q1,q0,q3⟩,W,L,n2,U⟩:=q2.isList;simp only at hc hd L U;subst hc hd L U;have e:G.toArray++B.toArray=(G++B).toArray:=by simp
 have hl:=r.length;have q5:=r2.length;refine F4 ⟨_,ho,rfl⟩ ⟨_,W,rfl⟩ noFill_list_add seq_list_add PySem.F.slot_list_add PySem.F.entry_list_add (PySem.F.args_list_add_2 _ _) (list_addW l b G.toArray B.toArray n n2 dd q1 sl q3 (by rw[Ah,Ah];omega)) ⟨ho,W,?_⟩;rw[e];exact⟨.ref _,_,I.lnew (r.append r2) (by rw[lA];omega),rfl,q _ I.fresh⟩
def aKF(K:Fg):R2:=λx y H Q=>∃a b xs ys,x=.ref a/\y=.ref b/\SqT K H a xs/\SqT K H b ys/\xs.length+ys.length<=sizeLine /\
 (xs=[]->Q (.ref b) H)/\(xs≠[]->ys=[]->Q (.ref a) H)/\(xs≠[]->ys≠[]->∀p,H p=none->Q (.ref p) (upd H p (.tup (xs++ys))))
theorem aER:OpR X (Dt .Add) (aKF X.K):=by
 intro pins s Z H x y v u Q I rx ry h;obtain⟨a,b,xs,ys,rfl,rfl,ha,hb,hz,q0,q1,q2⟩:=h;by_cases hx:xs=[]
 cases rx;cases ry;obtain⟨q4,r1,p1,_⟩:=I.tuple ha;obtain⟨U,r2,p2,_⟩:=I.tuple hb;obtain⟨⟨cls,dd,data,sl⟩,ho,hc,n,hd⟩:=id p1;obtain⟨⟨q6,q3,W,q5⟩,L,B,n2,G⟩:=id p2;simp only at hc hd B G;subst hc hd B G;exact F4 ⟨_,ho,rfl⟩ ⟨_,L,rfl⟩ Fo G2 DR DM (DB _ _)
  (tuple_addW0 a b q4.toArray U.toArray n n2 dd q3 sl q5 (by simp[(r1.nil_iff.mpr hx)])) ⟨ho,L,⟨.ref b,H,I,rfl,q0 hx⟩⟩
 exact aHG pins s Z H _ _ v u Q I rx ry ⟨a,b,xs,ys,rfl,rfl,ha,hb,hx,hz,q1 hx,q2 hx⟩
theorem aES{o:Operator}(I:Inv X pins ZV H s)(S:Sx X.K RT Y old Z ZV H)(rx:bV ux vx)(ry:bV uy vy)(hx:Rv X.K RT Y old Z ZV H x ux)(U:Rv X.K RT Y old Z ZV H y uy)
 (q6:x.fr=true->∃a xs,ux=.ref a/\H a=some (.lst xs)) {w:D->Prop} (h:RE w (opD o x y) (Wn X RT Y old Z ZV H Q)):An (Ay X.prog X.w) X.A (Dt o vx vy) (EP X pins ZV Q) X.xe s:=by
 have t:=Inv.tk I;have go:∀{f:Value->Value->Kz Value} {r:R2},OpR X f r->(r ux uy H λv H'=>Tk X.K H'->Q v H')->An (Ay X.prog X.w) X.A (f vx vy) (EP X pins ZV Q) X.xe s:=λhr q=>thn (hr pins s ZV H ux uy vx vy _ I rx ry q) λu s' z=>EP.tk z;cases o with
 | Add=>have h:RE w (aHN x y) (Wn X RT Y old Z ZV H Q):=h;unfold aHN at h;split at h;rename_i i j B G;exact go aKh ⟨i,j,hx.int B,U.int G,λ_=>h.val t λ_=>rfl⟩;rename_i as bs B G;obtain⟨c,h⟩:=h.iff;obtain⟨a,xs,e1,W,L⟩:=hx.tup B;obtain⟨b,ys,e2,q2,r2⟩:=U.tup G;have l1:=L.length;have l2:=r2.length;have c':=of_decide_eq_true c;have q4:Reps X.K H (exV RT Y old Z ZV (x.pa||y.pa) (x.al++y.al)) as xs:=L.weak λa z=>z.mono (λhp=>by rw[hp];rfl) λj hj=>Bc _ hj;have q5:Reps X.K H (exV RT Y old Z ZV (x.pa||y.pa) (x.al++y.al)) bs ys:=r2.weak λa z=>z.mono (λhp=>by rw[hp,E0]) λj hj=>A5 _ hj;refine go aER ⟨a,b,xs,ys,e1,e2,W,q2,iV (by omega),λz t'=>?_,λz z' t'=>?_,λz z' p hp t'=>?_⟩;subst z;have:=CN.mp (by simpa using l1);subst this;exact h _ _ t' (Ro.plain (aW.refl H) rfl ⟨b,ys,rfl,q2,q5⟩);subst z';have:=CN.mp (by simpa using l2);subst this;exact h _ _ t' (Ro.plain (aW.refl H) rfl ⟨a,xs,rfl,W,by rw[C9];exact q4⟩);exact h _ _ t' (Ro.tup hp rfl rfl (q4.append q5));rename_i as bs B G;obtain⟨c,h⟩:=h.iff;obtain⟨a,xs,e1,W,_,L⟩:=hx.lst B;obtain⟨b,ys,e2,q2,_,r2⟩:=U.lst G;have l1:=L.length;have l2:=r2.length;have c':=of_decide_eq_true c;refine go aHR ⟨a,b,xs,ys,e1,e2,W,q2,iV (by omega),λp hp t'=>h _ _ t' (Ro.fresh hp t' rfl rfl S ?_)⟩;refine Reps.append ((fW L).weak λa z=>z.mono (λhp=>?_) λj hj=>Bc _ hj) ((fW r2).weak λa z=>z.mono (λhp=>?_) λj hj=>A5 _ hj);show(_||_)=true;rw[hp];rfl;show(_||_)=true;rw[hp,E0];exact h.elim|Mult=>
  have h:RE w (aHO x y) (Wn X RT Y old Z ZV H Q):=h;unfold aHO at h;split at h;rename_i i j B G;obtain⟨c,h⟩:=h.iff;refine go aKj ⟨i,j,hx.int B,U.int G,?_,λ_=>Wn.val h t λ_=>rfl⟩;simp only[iI,B9,bA,AA] at c;exact c;rename_i as k B G;obtain⟨c,h⟩:=h.iff;simp only[bA,AA] at c;obtain⟨a,xs,e1,W,_,L⟩:=hx.lst B;obtain⟨a',q7,q0,q3⟩:=q6 c.1.1.1;rw[e1] at q0;cases q0;have e3:=I.list_inj W (SqL.of q3);subst e3;have hk:=c.1.1.2;unfold aT at hk;simp only[bA,AA] at hk;exact go aKv ⟨a,k,xs,e1,U.int G,q3,by omega,by omega,iV (by rw[<-L.length];exact c.1.2),λp hp t'=>h _ _ t' (Ro.fresh hp t' rfl rfl S (Reps.flat (Reps.free as xs c.2 L) _))⟩;rename_i as k B G;obtain⟨c,h⟩:=h.iff;simp only[bA,AA,Ch,List.isEmpty_eq_false_iff] at c;obtain⟨⟨⟨⟨c1,c2⟩,c3⟩,c4⟩,c5⟩:=c;obtain⟨a,xs,e1,W,L⟩:=hx.tup B;unfold aT at c2;simp only[bA,AA] at c2;have r2:=Reps.flat (Reps.free (ex':=exV RT Y old Z ZV false []) as xs c5 L) k.toNat;refine go aHM ⟨a,k,xs,e1,U.int G,W,λz=>c3 (CN.mp (by rw[L.length,z];rfl)),c1,by omega,iV (by rw[<-L.length];exact c4),λz t'=>?_,λ_ p hp t'=>h _ _ t' (Ro.tup hp rfl rfl r2)⟩;subst z;have e:∀{α:Type} (l:List α),(Af (1:Int).toNat l).flatten=l:=λl=>by simp
  rw[e] at h;rw[e,e] at r2;exact h _ _ t' (Ro.cl (aW.refl H) ⟨a,xs,rfl,W,r2⟩);exact h.elim
 | Sub=>dsimp only[opD,aAK] at h;split at h;rename_i i j B G;exact go aKi ⟨i,j,hx.int B,U.int G,λ_=>h.val t λ_=>rfl⟩;exact h.elim|FloorDiv=>dsimp only[opD,aAK] at h;split at h;rename_i i j B G;obtain⟨c,h⟩:=h.iff;refine go aHx ⟨i,j,hx.int B,U.int G,?_,λ_=>Wn.val h t λ_=>rfl⟩;simp only[yK,bA,AA] at c;exact c;exact h.elim|Mod=>dsimp only[opD,aAK] at h;split at h;rename_i i j B G;obtain⟨c,h⟩:=h.iff;exact go aKk ⟨i,j,hx.int B,U.int G,of_decide_eq_true c,λ_=>Wn.val h t λ_=>rfl⟩;exact h.elim|_=>exact h.elim
end
end Hp
namespace Hp
open PySem PySem.Spec PyProof.Rows L2 PySem.SeqAt
def mS(n:Nat)(ds es:List D)(j:Nat):Bool:=match ds[j]?,es[j]? with|some x,some y=>(eqF n x y).getD false|_,_=>false
theorem aCb:∀{n:Nat} {ds es:List D} {k:Bool},gH n ds es=some k->∀{j:Nat} {x y:D},ds[j]? = some x->es[j]? = some y->∃b,eqF n x y=some b
 | n,[],es,k,h,j,x,y,e1,e2=>by simp at e1|n,d::ds,[],k,h,j,x,y,e1,e2=>by simp at e2|n,d::ds,e::es,k,h,j,x,y,e1,e2=>by
  rw[gH] at h;cases h1:eqF n d e with
  | none=>rw[h1] at h;simp at h|some b=>
   cases h2:gH n ds es with
   | none=>rw[h1,h2] at h;simp at h|some B=>
    cases j with
    | zero=>simp at e1 e2;subst e1 e2;exact⟨b,h1⟩|succ j=>exact aCb h2 (by simpa using e1) (by simpa using e2)
theorem mT:∀{n:Nat} {ds es:List D} {k:Bool},gH n ds es=some k->k=((Ap (min ds.length es.length)).all (mS n ds es)&&ds.length==es.length)
 | n,[],[],k,h=>by simp[gH] at h;simp[<-h]|n,[],e::es,k,h=>by simp[gH] at h;simp[<-h]|n,d::ds,[],k,h=>by simp[gH] at h;simp[<-h]|n,d::ds,e::es,k,h=>by
  rw[gH] at h;cases h1:eqF n d e with
  | none=>rw[h1] at h;simp at h|some b=>
   cases h2:gH n ds es with
   | none=>rw[h1,h2] at h;simp at h|some G=>
    rw[h1,h2] at h;have B:mS n (d::ds) (e::es) 0=b:=by simp[mS,h1]
    have hm:min (d::ds).length (e::es).length=min ds.length es.length+1:=by simp only[lC];omega
    rw[hm,Dc,Eg,B,FE];have:(mS n (d::ds) (e::es))∘Nat.succ=mS n ds es:=funext λj=>(λj=>by simp[mS]) j;rw[this,<-(Aq h),(mT h2)];simp[Bool.and_assoc]
theorem _root_.L2.Inv.lt_ne(I:L2.Inv X pins ZV H s)(h1:SqL X.K H a xs)(h2:SqT X.K H a ys):False:=by obtain⟨G,_,pl,_⟩:=I.list h1;obtain⟨B,_,pt,_⟩:=I.tuple h2;exact ne_of_list_tuple pl.isList (pt) rfl
mutual
theorem wG(I:L2.Inv X pins ZV H s):∀(n:Nat) (d e:D) (u:V) (k:Bool) (ex ex':Addr->Prop),Rep X.K H ex d u->Rep X.K H ex' e u->eqF n d e=some k->k=true
 | 0,d,e,u,k,_,_,_,_,h=>by simp[eqF] at h|n+1,.non,e,u,k,_,_,h1,h2,h=>by
  rw[show u=.non from h1] at h2;cases e with
  | non=>simpa[eqF] using h.symm|tup ds=>obtain⟨a,xs,z,_⟩:=h2;cases z|lst ds=>obtain⟨a,xs,z,_⟩:=h2;cases z|err _ _=>simp[eqF] at h|bl b=>cases(h2)|int b=>cases(h2)|str b=>cases(h2)
 | n+1,.bl b,e,u,k,_,_,h1,h2,h=>by
  rw[show u=.bl b from h1] at h2;cases e with
  | bl B=>cases(h2);simpa[eqF] using h.symm|tup ds=>obtain⟨a,xs,z,_⟩:=h2;cases z|lst ds=>obtain⟨a,xs,z,_⟩:=h2;cases z|err _ _=>simp[eqF] at h|non=>cases(h2)|int B=>cases(h2)|str B=>cases(h2)
 | n+1,.int b,e,u,k,_,_,h1,h2,h=>by
  rw[show u=.int b from h1] at h2;cases e with
  | int B=>cases(h2);simpa[eqF] using h.symm|tup ds=>obtain⟨a,xs,z,_⟩:=h2;cases z|lst ds=>obtain⟨a,xs,z,_⟩:=h2;cases z|err _ _=>simp[eqF] at h|non=>cases(h2)|bl B=>cases(h2)|str B=>cases(h2)
 | n+1,.str b,e,u,k,_,_,h1,h2,h=>by
  rw[show u=.str b from h1] at h2;cases e with
  | str B=>cases(h2);simpa[eqF] using h.symm|tup ds=>obtain⟨a,xs,z,_⟩:=h2;cases z|lst ds=>obtain⟨a,xs,z,_⟩:=h2;cases z|err _ _=>simp[eqF] at h|non=>cases(h2)|bl B=>cases(h2)|int B=>cases(h2)
 | n+1,.tup ds,e,u,k,ex,ex',h1,h2,h=>by
  obtain⟨a,xs,z,q,r⟩:=h1;subst z;cases e with
  | tup es=>obtain⟨U,W,z,G,L⟩:=h2;cases z;have:=I.tuple_inj q G;subst this;exact eqs_same I n ds es xs k ex ex' r L (by simpa[eqF] using h)|lst es=>obtain⟨U,W,z,G,_,L⟩:=h2;cases z;exact(I.lt_ne G q).elim|err _ _=>simp[eqF] at h|non=>cases(h2)|bl B=>cases(h2)|int B=>cases(h2)|str B=>cases(h2)
 | n+1,.lst ds,e,u,k,ex,ex',h1,h2,h=>by
  obtain⟨a,xs,z,q,_,r⟩:=h1;subst z;cases e with
  | lst es=>obtain⟨U,W,z,G,_,L⟩:=h2;cases z;have:=I.list_inj q G;subst this;exact eqs_same I n ds es xs k ex ex' r L (by simpa[eqF,(r.length.trans L.length.symm)] using h)|tup es=>obtain⟨U,W,z,G,L⟩:=h2;cases z;exact(I.lt_ne q G).elim|err _ _=>simp[eqF] at h|non=>cases(h2)|bl B=>cases(h2)|int B=>cases(h2)|str B=>cases(h2)
 | n+1,.err _ _,e,u,k,ex,ex',h1,h2,h=>by cases e <;> cases h
theorem eqs_same(I:L2.Inv X pins ZV H s):∀(n:Nat) (ds es:List D) (us:List V) (k:Bool) (ex ex':Addr->Prop),Reps X.K H ex ds us->Reps X.K H ex' es us->gH n ds es=some k->k=true
 | n,[],[],us,k,_,_,h1,h2,h=>by simpa[gH] using h.symm|n,[],e::es,us,k,_,_,h1,h2,h=>by obtain⟨x,r,z,_⟩:=h2;rw[show us=[] from h1] at z;cases z|n,d::ds,[],us,k,_,_,h1,h2,h=>by obtain⟨x,r,z,_⟩:=h1;rw[show us=[] from h2] at z;cases z|n,d::ds,e::es,us,k,ex,ex',h1,h2,h=>by
  obtain⟨x,r,z,U,b1⟩:=h1;obtain⟨x',r',L,W,b2⟩:=h2;rw[z] at L;cases L;rw[gH] at h;cases B:eqF n d e with
  | none=>rw[B] at h;simp at h|some b=>
   cases G:gH n ds es with
   | none=>rw[B,G] at h;simp at h|some b'=>rw[B,G] at h;have e1:=wG I n d e x b ex ex' U W B;have e2:=eqs_same I n ds es r b' ex ex' b1 b2 G;subst e1 e2;simpa using h.symm
end
def Eq3(A:B6)(s:Ad)(v z:Value)(k:Bool):Prop:=EqAt A s v z k/\RcAt A s v z k/\RcNeAt A s v z (!k)
theorem aCc{xs:List V}{us:List Value}(r:bJ xs us)(h:j<us.toArray.size):∃x,xs[j]? = some x/\bV x us.toArray[j]:=by
 have I:=r.length;have B:j<xs.length:=by rw[Ah] at h;omega
 obtain⟨u,e,q⟩:=r.get (Ae B);refine⟨xs[j],Ae B,?_⟩;have:us.toArray[j]=u:=by
  have G:us[j]? = some us.toArray[j]:=by simp[Ae (show j<us.length by simpa using h)]
  rw[G] at e;exact Aq e
 rw[this];exact q
theorem uC(A:B6):A.in1.units=A.units+1:=rfl
theorem aCd(I:L2.Inv X pins ZV H s):∀(n:Nat) (A:B6) (d e:D) (u w:V) (v z:Value) (k:Bool) (ex ex':Addr->Prop),A.units+n<HU->Rep X.K H ex d u->Rep X.K H ex' e w->bV u v->bV w z->eqF n d e=some k->Eq3 A s v z k:=by
 intro n
 induction n with
 | zero=>intro A d e u w v z k ex ex' _ _ _ _ _ h;simp[eqF] at h|succ n ih=>
  intro A d e u w v z k ex ex' hA h1 h2 r1 L h;have G:A.units<HU:=by omega
  have items:∀{ds es:List D} {xs ys:List V} {W U:List Value} {k:Bool},Reps X.K H ex ds xs->Reps X.K H ex' es ys->bJ xs W->bJ ys U->gH n ds es=some k ->
   ∀j _ (_:j<U.toArray.size),EqAt A.in1 s W.toArray[j] U.toArray[j] (mS n ds es j):=by
   intro ds es xs ys W U k q1 q2 v1 v2 hk j w3 w4;obtain⟨x,q8,rx⟩:=aCc v1 w3;obtain⟨y,q9,ry⟩:=aCc v2 w4;obtain⟨d',ed,rd⟩:=q1.get' q8;obtain⟨e',ee,re⟩:=q2.get' q9;obtain⟨b,hb⟩:=aCb hk ed ee;have hj:mS n ds es j=b:=by simp[mS,ed,ee,hb]
   rw[hj];exact(ih A.in1 d' e' x y _ _ b ex ex' (by rw[uC];omega) rd re rx ry hb).1
  cases d with
  | err _ _=>cases e <;> cases h|non=>
   rw[show u=.non from h1] at r1;cases r1;cases e with
   | err _ _=>simp[eqF] at h|non=>rw[show w=.non from h2] at L;cases L;simp[eqF] at h;subst h;exact⟨EqAt.same _,RcAt.none_none,RcNeAt.none_none⟩|bl b=>rw[show w=.bl b from h2] at L;cases L;simp[eqF] at h;subst h;exact⟨EqAt.none_bool _,RcAt.none_bool _,RcNeAt.none_bool _⟩|int b=>rw[show w=.int b from h2] at L;obtain⟨t,rfl⟩:=L;simp[eqF] at h;subst h;exact⟨EqAt.none_int _ _,RcAt.none_int _ _,RcNeAt.none_int _ _⟩|str b=>rw[show w=.str b from h2] at L;obtain⟨t,rfl⟩:=L;simp[eqF] at h;subst h;exact⟨EqAt.none_str _ _,RcAt.none_str _ _,RcNeAt.none_str _ _⟩|tup es=>obtain⟨b,ys,rfl,q,r⟩:=h2;cases L;obtain⟨W,_,p,_⟩:=I.tuple q;simp[eqF] at h;subst h;exact⟨EqAt.none_tuple (p) G,RcAt.none_tuple (p) G,RcNeAt.none_tuple (p) G⟩|lst es=>obtain⟨b,ys,rfl,q,_,r⟩:=h2;cases L;obtain⟨W,_,p,_⟩:=I.list q;simp[eqF] at h;subst h;exact⟨EqAt.none_list p.isList G,RcAt.none_list p.isList G,RcNeAt.none_list p.isList G⟩
  | bl a=>
   rw[show u=.bl a from h1] at r1;cases r1;cases e with
   | err _ _=>simp[eqF] at h|non=>rw[show w=.non from h2] at L;cases L;simp[eqF] at h;subst h;exact⟨EqAt.bool_none _,RcAt.bool_none _,RcNeAt.bool_none _⟩|bl b=>rw[show w=.bl b from h2] at L;cases L;simp only[eqF,Ci] at h;subst h;exact⟨EqAt.bool_bool _ _,RcAt.bool_bool _ _,RcNeAt.bool_bool _ _⟩|int b=>rw[show w=.int b from h2] at L;obtain⟨t,rfl⟩:=L;simp only[eqF,Ci] at h;subst h;exact⟨EqAt.bool_int _ _ _,RcAt.bool_int _ _ _,RcNeAt.bool_int _ _ _⟩|str b=>rw[show w=.str b from h2] at L;obtain⟨t,rfl⟩:=L;simp[eqF] at h;subst h;exact⟨EqAt.bool_str _ _ _,RcAt.bool_str _ _ _,RcNeAt.bool_str _ _ _⟩|tup es=>obtain⟨b,ys,rfl,q,r⟩:=h2;cases L;obtain⟨W,_,p,_⟩:=I.tuple q;simp[eqF] at h;subst h;exact⟨EqAt.bool_tuple _ (p) G,RcAt.bool_tuple _ (p) G,RcNeAt.bool_tuple _ (p) G⟩|lst es=>obtain⟨b,ys,rfl,q,_,r⟩:=h2;cases L;obtain⟨W,_,p,_⟩:=I.list q;simp[eqF] at h;subst h;exact⟨EqAt.bool_list _ p.isList G,RcAt.bool_list _ p.isList G,RcNeAt.bool_list _ p.isList G⟩
  | int a=>
   rw[show u=.int a from h1] at r1;obtain⟨t1,rfl⟩:=r1;cases e with
   | err _ _=>simp[eqF] at h|non=>rw[show w=.non from h2] at L;cases L;simp[eqF] at h;subst h;exact⟨EqAt.int_none _ _,RcAt.int_none _ _,RcNeAt.int_none _ _⟩|bl b=>rw[show w=.bl b from h2] at L;cases L;simp only[eqF,Ci] at h;subst h;exact⟨EqAt.int_bool _ _ _,RcAt.int_bool _ _ _,RcNeAt.int_bool _ _ _⟩|int b=>rw[show w=.int b from h2] at L;obtain⟨t,rfl⟩:=L;simp only[eqF,Ci] at h;subst h;exact⟨EqAt.int_int _ _ _ _,RcAt.int_int _ _ _ _,RcNeAt.int_int _ _ _ _⟩|str b=>rw[show w=.str b from h2] at L;obtain⟨t,rfl⟩:=L;simp[eqF] at h;subst h;exact⟨EqAt.int_str _ _ _ _,RcAt.int_str _ _ _ _,RcNeAt.int_str _ _ _ _⟩|tup es=>obtain⟨b,ys,rfl,q,r⟩:=h2;cases L;obtain⟨W,_,p,_⟩:=I.tuple q;simp[eqF] at h;subst h;exact⟨EqAt.int_tuple _ _ (p) G,RcAt.int_tuple _ _ (p) G,RcNeAt.int_tuple _ _ (p) G⟩|lst es=>obtain⟨b,ys,rfl,q,_,r⟩:=h2;cases L;obtain⟨W,_,p,_⟩:=I.list q;simp[eqF] at h;subst h;exact⟨EqAt.int_list _ _ p.isList G,RcAt.int_list _ _ p.isList G,RcNeAt.int_list _ _ p.isList G⟩
  | str a=>
   rw[show u=.str a from h1] at r1;obtain⟨t1,rfl⟩:=r1;cases e with
   | err _ _=>simp[eqF] at h|non=>rw[show w=.non from h2] at L;cases L;simp[eqF] at h;subst h;exact⟨EqAt.str_none _ _,RcAt.str_none _ _,RcNeAt.str_none _ _⟩|bl b=>rw[show w=.bl b from h2] at L;cases L;simp[eqF] at h;subst h;exact⟨EqAt.str_bool _ _ _,RcAt.str_bool _ _ _,RcNeAt.str_bool _ _ _⟩|int b=>rw[show w=.int b from h2] at L;obtain⟨t,rfl⟩:=L;simp[eqF] at h;subst h;exact⟨EqAt.str_int _ _ _ _,RcAt.str_int _ _ _ _,RcNeAt.str_int _ _ _ _⟩|str b=>rw[show w=.str b from h2] at L;obtain⟨t,rfl⟩:=L;simp only[eqF,Ci] at h;subst h;exact⟨EqAt.str_str _ _ _ _,RcAt.str_str _ _ _ _,RcNeAt.str_str _ _ _ _⟩|tup es=>obtain⟨b,ys,rfl,q,r⟩:=h2;cases L;obtain⟨W,_,p,_⟩:=I.tuple q;simp[eqF] at h;subst h;exact⟨EqAt.str_tuple _ _ (p) G,RcAt.str_tuple _ _ (p) G,RcNeAt.str_tuple _ _ (p) G⟩|lst es=>obtain⟨b,ys,rfl,q,_,r⟩:=h2;cases L;obtain⟨W,_,p,_⟩:=I.list q;simp[eqF] at h;subst h;exact⟨EqAt.str_list _ _ p.isList G,RcAt.str_list _ _ p.isList G,RcNeAt.str_list _ _ p.isList G⟩
  | tup ds=>
   have q6:=h1;obtain⟨a,xs,rfl,q1,q3⟩:=h1;cases r1;obtain⟨q5,v1,p1,_⟩:=I.tuple q1;have B:=p1;cases e with
   | err _ _=>simp[eqF] at h|non=>rw[show w=.non from h2] at L;cases L;simp[eqF] at h;subst h;exact⟨EqAt.tuple_none B G,RcAt.tuple_none B G,RcNeAt.tuple_none B G⟩|bl b=>rw[show w=.bl b from h2] at L;cases L;simp[eqF] at h;subst h;exact⟨EqAt.tuple_bool _ B G,RcAt.tuple_bool _ B G,RcNeAt.tuple_bool _ B G⟩|int b=>rw[show w=.int b from h2] at L;obtain⟨t,rfl⟩:=L;simp[eqF] at h;subst h;exact⟨EqAt.tuple_int _ _ B G,RcAt.tuple_int _ _ B G,RcNeAt.tuple_int _ _ B G⟩|str b=>rw[show w=.str b from h2] at L;obtain⟨t,rfl⟩:=L;simp[eqF] at h;subst h;exact⟨EqAt.tuple_str _ _ B G,RcAt.tuple_str _ _ B G,RcNeAt.tuple_str _ _ B G⟩|tup es=>
    have q7:=h2;obtain⟨b,ys,rfl,q2,q0⟩:=h2;cases L;obtain⟨U,v2,p2,_⟩:=I.tuple q2;have hk:gH n ds es=some k:=by simpa[eqF] using h
    have l1:q5.toArray.size=ds.length:=by rw[Ah,<-v1.length,q3.length]
    have l2:U.toArray.size=es.length:=by rw[Ah,<-v2.length,q0.length]
    have rc:RcAt A s (.ref a) (.ref b) k:=by rw[(mT hk),<-l1,<-l2];exact RcAt.tuples B (p2) G (items q3 q0 v1 v2 hk)
    have rn:RcNeAt A s (.ref a) (.ref b) (!k):=by rw[(mT hk),<-l1,<-l2];exact RcNeAt.tuples B (p2) G (items q3 q0 v1 v2 hk)
    refine⟨?_,rc,rn⟩;by_cases q4:a=b;subst q4;have:=wG I (n+1) (.tup ds) (.tup es) (.ref a) k ex ex' q6 q7 h;subst this;exact EqAt.same _;exact EqAt.of_refs q4 rc
   | lst es=>obtain⟨b,ys,rfl,q2,_,q0⟩:=h2;cases L;obtain⟨U,v2,p2,_⟩:=I.list q2;simp[eqF] at h;subst h;exact⟨EqAt.tuple_list B p2.isList G,RcAt.tuple_list B p2.isList G,RcNeAt.tuple_list B p2.isList G⟩
  | lst ds=>
   have q6:=h1;obtain⟨a,xs,rfl,q1,_,q3⟩:=h1;cases r1;obtain⟨q5,v1,p1,_⟩:=I.list q1;have B:=p1.isList;cases e with
   | err _ _=>simp[eqF] at h|non=>rw[show w=.non from h2] at L;cases L;simp[eqF] at h;subst h;exact⟨EqAt.list_none B G,RcAt.list_none B G,RcNeAt.list_none B G⟩|bl b=>rw[show w=.bl b from h2] at L;cases L;simp[eqF] at h;subst h;exact⟨EqAt.list_bool _ B G,RcAt.list_bool _ B G,RcNeAt.list_bool _ B G⟩|int b=>rw[show w=.int b from h2] at L;obtain⟨t,rfl⟩:=L;simp[eqF] at h;subst h;exact⟨EqAt.list_int _ _ B G,RcAt.list_int _ _ B G,RcNeAt.list_int _ _ B G⟩|str b=>rw[show w=.str b from h2] at L;obtain⟨t,rfl⟩:=L;simp[eqF] at h;subst h;exact⟨EqAt.list_str _ _ B G,RcAt.list_str _ _ B G,RcNeAt.list_str _ _ B G⟩|lst es=>
    have q7:=h2;obtain⟨b,ys,rfl,q2,_,q0⟩:=h2;cases L;obtain⟨U,v2,p2,_⟩:=I.list q2;have l1:q5.toArray.size=ds.length:=by rw[Ah,<-v1.length,q3.length]
    have l2:U.toArray.size=es.length:=by rw[Ah,<-v2.length,q0.length]
    have both:RcAt A s (.ref a) (.ref b) k/\RcNeAt A s (.ref a) (.ref b) (!k):=by
     by_cases hl:ds.length=es.length;have hk:gH n ds es=some k:=by simpa[eqF,hl] using h
     have hv:=mT hk;rw[<-hl,Nat.min_self,beq_self_eq_true,Fe,<-l1] at hv;rw[hv];exact⟨RcAt.lists B p2.isList (by rw[l1,l2,hl]) G (items q3 q0 v1 v2 hk),RcNeAt.lists B p2.isList (by rw[l1,l2,hl]) G (items q3 q0 v1 v2 hk)⟩;have hk:k=false:=by simpa[eqF,hl] using h.symm
     subst hk;exact⟨RcAt.lists_lengths B p2.isList (by rw[l1,l2];simpa using hl) G,RcNeAt.lists_lengths B p2.isList (by rw[l1,l2];simpa using hl) G⟩
    refine⟨?_,both.1,both.2⟩;by_cases q4:a=b;subst q4;have:=wG I (n+1) (.lst ds) (.lst es) (.ref a) k ex ex' q6 q7 h;subst this;exact EqAt.same _;exact EqAt.of_refs q4 both.1
   | tup es=>obtain⟨b,ys,rfl,q2,q0⟩:=h2;cases L;obtain⟨U,v2,p2,_⟩:=I.tuple q2;simp[eqF] at h;subst h;exact⟨EqAt.list_tuple B p2 G,RcAt.list_tuple B p2 G,RcNeAt.list_tuple B p2 G⟩
section
variable {X:Cx} {ZV:L2.St} {H:Hp} {s:Ad} {pins:List (Addr×Obj)}
mutual
theorem aCe(I:L2.Inv X pins ZV H s):∀(d e:D) (u:V) (ex ex':Addr->Prop),Rep X.K H ex d u->Rep X.K H ex' e u->True->jQ d=true->jQ e=true->d=e
 | .non,e,u,_,_,h1,h2,_,_,_=>by
  rw[show u=.non from h1] at h2;cases e with
  | non=>rfl|_=>first|(obtain⟨a,xs,z,_⟩:=h2;cases z)|exact h2.elim|(injection h2)
 | .bl b,e,u,_,_,h1,h2,_,_,_=>by
  rw[show u=.bl b from h1] at h2;cases e with
  | bl G=>cases(show V.bl b=.bl G from h2);rfl|_=>first|(obtain⟨a,xs,z,_⟩:=h2;cases z)|exact h2.elim|(injection h2)
 | .int b,e,u,_,_,h1,h2,_,_,_=>by
  rw[show u=.int b from h1] at h2;cases e with
  | int G=>cases(show V.int b=.int G from h2);rfl|_=>first|(obtain⟨a,xs,z,_⟩:=h2;cases z)|exact h2.elim|(injection h2)
 | .str b,e,u,_,_,h1,h2,_,_,_=>by
  rw[show u=.str b from h1] at h2;cases e with
  | str G=>cases(show V.str b=.str G from h2);rfl|_=>first|(obtain⟨a,xs,z,_⟩:=h2;cases z)|exact h2.elim|(injection h2)
 | .tup ds,e,u,ex,ex',h1,h2,_,L,U=>by
  obtain⟨a,xs,z,q,r⟩:=h1;subst z;cases e with
  | tup es=>obtain⟨a',ys,z,B,W⟩:=h2;cases z;have:=I.tuple_inj q B;subst this;rw[reps_inj I ds es xs ex ex' r W (by simpa[jQ] using L) (by simpa[jQ] using U)]|lst es=>obtain⟨a',ys,z,B,_,W⟩:=h2;cases z;exact(I.lt_ne B q).elim|err _ _=>simp[jQ] at U|_=>injection h2
 | .lst ds,e,u,ex,ex',h1,h2,_,L,U=>by
  obtain⟨a,xs,z,q,_,r⟩:=h1;subst z;cases e with
  | lst es=>obtain⟨a',ys,z,B,_,W⟩:=h2;cases z;have:=I.list_inj q B;subst this;rw[reps_inj I ds es xs ex ex' r W (by simpa[jQ] using L) (by simpa[jQ] using U)]|tup es=>obtain⟨a',ys,z,B,W⟩:=h2;cases z;exact(I.lt_ne q B).elim|err _ _=>simp[jQ] at U|_=>injection h2
 | .err _ _,e,u,_,_,h1,_,_,L,_=>by simp[jQ] at L
theorem reps_inj(I:L2.Inv X pins ZV H s):∀(ds es:List D) (us:List V) (ex ex':Addr->Prop),Reps X.K H ex ds us->Reps X.K H ex' es us->noDics ds=true->noDics es=true->ds=es
 | [],[],_,_,_,_,_,_,_=>rfl|[],e::es,us,_,_,h1,h2,_,_=>by obtain⟨x,r,z,_⟩:=h2;rw[show us=[] from h1] at z;cases z|d::ds,[],us,_,_,h1,h2,_,_=>by obtain⟨x,r,z,_⟩:=h1;rw[show us=[] from h2] at z;cases z|d::ds,e::es,us,ex,ex',h1,h2,n1,n2=>by obtain⟨x,r,z,G,U⟩:=h1;obtain⟨x',r',B,L,W⟩:=h2;rw[z] at B;cases B;simp only[noDics,bA] at n1 n2;rw[aCe I d e x ex ex' G L trivial n1.1 n2.1,reps_inj I ds es r ex ex' U W n1.2 n2.2]
end
theorem jV:∀{ds:List D} {ns:List Int} {xs:List V} {ex:Addr->Prop},dO ds=some ns->Reps X.K H ex ds xs->xs=ns.map V.int
 | [],ns,xs,ex,h,r=>by simp[dO] at h;subst h;exact r|.int a::ds,ns,xs,ex,h,r=>by
  obtain⟨x,B,z,h1,h2⟩:=r;rw[dO] at h;cases q:dO ds with
  | none=>rw[q] at h;cases h|some ms=>rw[q] at h;cases h;rw[z,show x=.int a from h1,jV q h2];rfl
 | .non::ds,ns,xs,ex,h,r=>by simp[dO] at h|.bl _::ds,ns,xs,ex,h,r=>by simp[dO] at h|.str _::ds,ns,xs,ex,h,r=>by simp[dO] at h|.tup _::ds,ns,xs,ex,h,r=>by simp[dO] at h|.lst _::ds,ns,xs,ex,h,r=>by simp[dO] at h|.err _ _::ds,ns,xs,ex,h,r=>by simp[dO] at h
theorem aCf:∀(ns ms:List Int),aHP ns ms=HT.lexLt ns ms
 | [],[]=>rfl|[],_::_=>rfl|_::_,[]=>rfl|x::xs,y::ys=>by rw[aHP,HT.lexLt_cons,aCf xs ys]
theorem aDq(h:aKx as bs=some k):∃ns ms,dO as=some ns/\dO bs=some ms/\k=HT.lexLt ns ms:=by
 unfold aKx at h;cases B:dO as with
 | none=>rw[B] at h;cases h|some ns=>
  cases G:dO bs with
  | none=>rw[B,G] at h;cases h|some ms=>rw[B,G] at h;exact⟨ns,ms,rfl,rfl,(Aq h).symm.trans (aCf ns ms)⟩
theorem aCg:∀{x:D} {I:List D} {k:Bool},mQ x I=some k->(∀y∈I,∃b,eqD y x=some b)/\(k=true↔∃y∈I,eqD y x=some true)
 | x,[],k,h=>by simp[mQ] at h;subst h;simp|x,y::I,k,h=>by
  rw[mQ] at h;cases B:eqD y x with
  | none=>rw[B] at h;simp at h|some a=>
   cases U:mQ x I with
   | none=>rw[B,U] at h;simp at h|some b=>rw[B,U] at h;obtain⟨i1,i2⟩:=aCg U;refine⟨λz G=>?_,?_⟩;rcases As.mp G with e|e;subst e;exact⟨a,B⟩;exact i1 z e;rw[<-(Aq h),B9,i2];constructor;rintro (e|⟨z,G,e⟩);exact⟨y,Ar,by rw[B,e]⟩;exact⟨z,Aj _ G,e⟩;rintro ⟨z,G,e⟩;rcases As.mp G with L|L;subst L;rw[B] at e;exact .inl (Aq e);exact .inr ⟨z,L,e⟩
theorem lU:∀{ds:List D} {d:D},noDics ds=true->d∈ds->jQ d=true
 | d'::ds,d,h,hm=>by simp only[noDics,bA] at h;rcases As.mp hm with e|e;subst e;exact h.1;exact lU h.2 e
open Classical in
theorem kO(I:L2.Inv X pins ZV H s){A:B6}(hA:A.units+mP+1<HU){ex ex':Addr->Prop}{B:List Value}
 (hx:Rep X.K H ex x ux) (rx:bV ux vx) (r:Reps X.K H ex' ys xs) (v:bJ xs B) (hn:noDics ys=true) (h:mQ x ys=some k) :
 ∃e:Value->Bool,(∀y,y∈B.toArray->EqAt A.in1 s y vx (e y))/\B.toArray.any e=k:=by
 obtain⟨h1,h2⟩:=aCg h;have q0:∀y∈B,∃u d,bV u y/\Rep X.K H ex' d u/\d∈ys:=λy G=>by
  obtain⟨j,W⟩:=CD G;have hl:=v.length;have U:j<xs.length:=by have:=(Ax.mp W).1;omega
  obtain⟨u',e',q⟩:=v.get (Ae U);rw[W] at e';cases e';obtain⟨d,hd,rd⟩:=r.get' (Ae U);exact⟨_,d,q,rd,mG hd⟩
 refine⟨λy=>decide (∃u d,bV u y/\Rep X.K H ex' d u/\d∈ys/\eqD d x=some true),λy G=>?_,?_⟩;obtain⟨u,d,q,rd,hd⟩:=q0 y (by simpa using G);obtain⟨b,hb⟩:=h1 d hd;have q2:(decide (∃u d,bV u y/\Rep X.K H ex' d u/\d∈ys/\eqD d x=some true))=b:=by
  cases b with
  | true=>exact Ao ⟨u,d,q,rd,hd,hb⟩|false=>refine Az ?_;rintro ⟨u',d',q',q4,q1,L⟩;have e1:=q'.inj q;subst e1;have n1:=lU hn hd;have e2:=aCe I d d' u' ex' ex' rd q4 trivial n1 (lU hn q1);subst e2;rw[hb] at L;cases L
 show EqAt A.in1 s y vx (decide (∃u d,bV u y/\Rep X.K H ex' d u/\d∈ys/\eqD d x=some true));rw[q2];exact(aCd I mP A.in1 d x u ux y vx b ex' ex (by rw[uC];omega) rd hx q rx hb).1;rw[Dg,h2];constructor;intro q;have q':B.any (λy=>decide (∃u d,bV u y/\Rep X.K H ex' d u/\d∈ys/\eqD d x=some true))=true:=by simpa using q
 obtain⟨y,G,q3⟩:=Eb.mp q';obtain⟨u,d,_,_,hd,e⟩:=of_decide_eq_true q3;exact⟨d,hd,e⟩;rintro ⟨d,hd,e⟩;have:B.any (λy=>decide (∃u d,bV u y/\Rep X.K H ex' d u/\d∈ys/\eqD d x=some true))=true:=by obtain⟨j,W⟩:=CD hd;obtain⟨u,hu,ru⟩:=r.get W;obtain⟨y,G,q⟩:=v.get hu;exact Eb.mpr ⟨y,mG G,Ao ⟨u,d,q,ru,hd,e⟩⟩
 simpa using this
end
section
variable {X:Cx} {RT Y old:Addr->Prop} {Z:Sg} {ZV:L2.St} {H:Hp} {s:Ad} {pins:List (Addr×Obj)} {Q:VK} {ux uy:V} {vx vy:Value} {x y:Vl}
theorem aDr(I:L2.Inv X pins ZV H s)(hA:X.A.units+200<HU)(rx:bV ux vx)(ry:bV uy vy)(hx:Rv X.K RT Y old Z ZV2 H x ux)(W:Rv X.K RT Y old Z ZV2 H y uy)
 (h:cZ o x.d y.d=some k) (q:Q (.bl k) H):An (Ay X.prog X.w) X.A (BN o vx vy) (EP X pins ZV Q) X.xe s:=by
 have U:EP X pins ZV Q (.bool k) s:=⟨.bl k,H,I,rfl,q⟩
 have hD:mP=120:=rfl;have go:∀{f:Value->Value->Kz Value} {r:R2},OpR X f r->r ux uy H Q->An (Ay X.prog X.w) X.A (f vx vy) (EP X pins ZV Q) X.xe s:=λhr q=>hr pins s ZV H ux uy vx vy Q I rx ry q;have e3:∀{b:Bool},eqD x.d y.d=some b->Eq3 X.A s vx vy b:=λ{b} hb=>aCd I mP X.A x.d y.d ux uy vx vy b _ _ (by omega) hx W rx ry hb;cases o with
 | Eq=>exact(e3 h).2.1 X.prog X.w X.xe _ U|NotEq=>simp only[cZ,Bb] at h;obtain⟨b,hb,e⟩:=h;subst e;exact(e3 hb).2.2 X.prog X.w X.xe _ U|Lt=>simp only[cZ] at h;unfold ltD at h;split at h;rename_i a b G B;exact go aMW ⟨a,b,hx.int G,W.int B,by show Q (.bl (decide (a<b))) H;rw[Aq h];exact q⟩;rename_i as bs G B;obtain⟨ns,ms,q1,q2,e⟩:=aDq h;obtain⟨a,xs,e1,p1,r1⟩:=hx.tup G;obtain⟨b,ys,e2,p2,r2⟩:=W.tup B;rw[jV q1 r1] at p1;rw[jV q2 r2] at p2;exact go (aKq (by omega)) ⟨a,b,ns,ms,e1,e2,p1,p2,by rw[<-e];exact q⟩;cases h|Gt=>simp only[cZ] at h;split at h;rename_i a b G B;exact go aMY ⟨a,b,hx.int G,W.int B,by show Q (.bl (decide (b<a))) H;rw[Aq h];exact q⟩;cases h|LtE=>simp only[cZ] at h;unfold leD at h;split at h;rename_i a b G B;exact go aMX ⟨a,b,hx.int G,W.int B,by show Q (.bl (decide (a<=b))) H;rw[Aq h];exact q⟩;cases h|GtE=>cases h|Is=>
  simp only[cZ] at h;split at h;rename_i B;refine go aKm ⟨W.non B,?_⟩;have:decide (ux=V.non)=k:=by
   rw[<-Aq h];unfold isNone;split;rename_i G;rw[hx.non G];simp;rename_i G;refine Az λz=>?_;rw[z] at hx;unfold Rv at hx;cases q':x.d with
   | non=>exact G q'|_=>rw[q'] at hx;first|(obtain⟨a,xs,z',_⟩:=hx;cases z')|exact hx.elim|injection hx
  rw[this];exact q;cases h
 | IsNot=>
  simp only[cZ] at h;split at h;rename_i B;refine go aHy ⟨W.non B,?_⟩;have:(!decide (ux=V.non))=k:=by
   rw[<-Aq h];unfold isNone;split;rename_i G;rw[hx.non G];simp;rename_i G;rw[Az λz=>?_];rw[z] at hx;unfold Rv at hx;cases q':x.d with
   | non=>exact G q'|_=>rw[q'] at hx;first|(obtain⟨a,xs,z',_⟩:=hx;cases z')|exact hx.elim|injection hx
  rw[this];exact q;cases h
 | In=>simp only[cZ] at h;unfold inD at h;split at h;rename_i ys B;by_cases L:noDics ys=true;rw[if_pos L] at h;obtain⟨b,xs,e2,p2,_,r2⟩:=W.lst B;subst e2;cases ry;obtain⟨q0,v2,t2,_⟩:=I.list p2;obtain⟨e,he,hk⟩:=kO I (A:=X.A) (by omega) hx rx r2 v2 L h;exact in_listAt e t2.isList he (by rw[hk];exact U);rw[if_neg L] at h;cases h;rename_i ys B;by_cases L:noDics ys=true;rw[if_pos L] at h;obtain⟨b,xs,e2,p2,r2⟩:=W.tup B;subst e2;cases ry;obtain⟨q0,v2,t2,_⟩:=I.tuple p2;obtain⟨e,he,hk⟩:=kO I (A:=X.A) (by omega) hx rx r2 v2 L h;exact in_tupleAt e (show s.heap.IsTuple b q0.toArray from t2) he (by rw[hk];exact U);rw[if_neg L] at h;cases h;rename_i a b G B;exact go aDg ⟨a,b,hx.str G,W.str B,by rw[show(!(CM b a 0 b.length 1).isEmpty)=k from Aq h];exact q⟩;cases h|NotIn=>simp only[cZ,Bb] at h;obtain⟨k',h,ek⟩:=h;subst ek;unfold inD at h;split at h;rename_i ys B;by_cases L:noDics ys=true;rw[if_pos L] at h;obtain⟨b,xs,e2,p2,_,r2⟩:=W.lst B;subst e2;cases ry;obtain⟨q0,v2,t2,_⟩:=I.list p2;obtain⟨e,he,hk⟩:=kO I (A:=X.A) (by omega) hx rx r2 v2 L h;exact notIn_listAt e t2.isList he (by rw[hk];exact U);rw[if_neg L] at h;cases h;rename_i ys B;by_cases L:noDics ys=true;rw[if_pos L] at h;obtain⟨b,xs,e2,p2,r2⟩:=W.tup B;subst e2;cases ry;obtain⟨q0,v2,t2,_⟩:=I.tuple p2;obtain⟨e,he,hk⟩:=kO I (A:=X.A) (by omega) hx rx r2 v2 L h;exact notIn_tupleAt e (show s.heap.IsTuple b q0.toArray from t2) he (by rw[hk];exact U);rw[if_neg L] at h;cases h;rename_i a b G B;exact go vW ⟨a,b,hx.str G,W.str B,by rw[show(!(CM b a 0 b.length 1).isEmpty)=k' from Aq h];exact q⟩;cases h
end
end Hp
namespace Hp
open PySem PySem.Spec PyProof.Rows L2
theorem pX(n:Nat)(hd:d<=n):∀lo,sIx n d lo<=n
 | none=>hd|some v=>by unfold sIx;dsimp only;split <;> omega
theorem yS(lo hi:Option Int)(n:Nat):B2 lo hi 1 n=B2 (some ((sIx n 0 lo:Nat):Int)) (some ((sIx n n hi:Nat):Int)) 1 n:=by
 have h1:(1:Int)>0:=by decide
 have B:∀d (hd:d<=n) o,(match o with|none=>(d:Int)|some i=>max 0 (min (if i<0 then i+(n:Int) else i) (n:Int)))=((sIx n d o:Nat):Int):=by
  intro d hd o;cases o with
  | none=>rfl|some i=>unfold sIx;dsimp only;split <;> omega
 have k2:∀m,m<=n->max (0:Int) (min (if (m:Int)<0 then (m:Int)+(n:Int) else (m:Int)) (n:Int))=(m:Int):=by intro m hm;split <;> omega
 unfold B2;simp only[h1];have G:=B 0 (B7 _) lo;have I:=B n (Al _) hi;rw[(k2 _ (pX n (B7 _) lo)),(k2 _ (pX n (Al _) hi))];cases lo <;> cases hi <;> simp_all
theorem tP(x:Str)(lo hi:Option Int):CF x lo hi=aDn x lo hi:=by
 have L:x.cps.toList.length=x.length:=by show _=x.cps.size;simp
 have e:CF x lo hi=CF x (some ((sIx x.length 0 lo:Nat):Int)) (some ((sIx x.length x.length hi:Nat):Int)):=by unfold CF;rw[yS]
 rw[e];unfold aDn cut;rw[L];by_cases h:sIx x.length 0 lo<=sIx x.length x.length hi;exact StrLaws.sliceText_nat x h (pX _ (Al _) hi);have G:sIx x.length x.length hi-sIx x.length 0 lo=0:=by omega
 have U:=pX x.length (B7 _) lo;rw[G];generalize sIx x.length 0 lo=i at *;generalize sIx x.length x.length hi=j at *;have I:B2 (some (i:Int)) (some (j:Int)) 1 x.length=[]:=by
  unfold B2;have h1:(1:Int)>0:=by decide
  simp only[h1,if_true];rw[if_neg (by omega),if_neg (by omega)];have B:max (0:Int) (min (i:Int) (x.length:Int))=i:=by omega
  have W:max (0:Int) (min (j:Int) (x.length:Int))=j:=by omega
  rw[B];unfold sliceRange;simp;omega
 unfold CF;rw[I];simp;intro hz;omega
def aET:V->Option Int->Option Int->L2.Hp->VK->Prop:=λx lo hi H Q=>∃a,x=.str a/\a.length<=sizeLine/\Q (.str (aDn a lo hi)) H
theorem aKG:SlR X aET:=by
 intro pins s Z H x v vl vu lo hi sl Q I rx hs pl W h;obtain⟨a,rfl,hz,q⟩:=h;obtain⟨t,rfl⟩:=rx;have B:∀l u,l.map (·.1)=lo->u.map (·.1)=hi->s.heap.IsSlice sl l u none->An (Ay X.prog X.w) X.A (F6 (.str a t) (.ref sl)) (EP X pins Z Q) X.xe s:=by
  intro l u e1 e2 h;refine wpAny_getItem_str_slice h rfl ?_;have e:=tP a lo hi;unfold CF at e;subst e1 e2;show Made.post (if ((1:Int)==1&&(B2 (l.map (·.1)) (u.map (·.1)) 1 a.length).length==a.length)=true then _ else _) _ s;split;rename_i L;rw[if_pos L] at e;exact⟨.str a,H,I,⟨t,rfl⟩,by rw[e];exact q⟩;rename_i L;rw[if_neg L] at e;have G:(aDn a (l.map (·.1)) (u.map (·.1))).length<=sizeLine:=by refine AJ ?_ hz;show(cut a.cps.toList _ _).toArray.size<=a.cps.size;unfold cut;rw[Ah,A8,Bs,Bj];omega
  refine⟨by rw[<-e] at G;exact G,.str (aDn a (l.map (·.1)) (u.map (·.1))),H,I.tok _,?_,q⟩;rw[<-e];exact⟨_,rfl⟩
 refine⟨"str",_,H9.lookup,rfl,?_⟩;cases pl with
 | none=>
  cases W with
  | none=>exact B none none rfl rfl hs|int j U=>exact B none (some (j,U)) rfl rfl hs
 | int i ti=>
  cases W with
  | none=>exact B (some (i,ti)) none rfl rfl hs|int j U=>exact B (some (i,ti)) (some (j,U)) rfl rfl hs
theorem aPn(a b:Str):(a++b).length=a.length+b.length:=by show(a.cps++b.cps).size=_;rw[Array.size_append];rfl
section
variable {X:Cx} {RT Y old:Addr->Prop} {Z:Sg} {ZV:L2.St} {H:Hp} {x y:Vl}
theorem rD(n:Nat)(k:Int):Hp.ixN n k=L2.ixN n k:=rfl
theorem Rv.ofSub(h:Rep X.K H (exV RT Y old Z ZV x.pa x.al) d u):Ro X.K RT Y old Z ZV H H (x.sub d) u:=by refine Ro.plain (aW.refl H) ?_ (Rv.sub (ds:=[]) (xs:=[]) (j:=0) h);unfold Vl.sub Vl.cl;split <;> rfl
theorem aDs(t:Tk X.K H)(hx:Rv X.K RT Y old Z ZV H x ux)(U:Rv X.K RT Y old Z ZV H y uy){w:D->Prop}(h:RE w (eA x y) (Wn X RT Y old Z ZV H Q)):rIx X.K ux uy H (λv H'=>Tk X.K H'->Q v H'):=by
 unfold eA at h;split at h;rename_i ds k G I;obtain⟨a,xs,e,q,_,r⟩:=hx.lst G;cases B:Hp.ixN ds.length k with
 | none=>rw[B] at h;exact h.elim|some j=>
  rw[B] at h;cases hd:ds[j]? with
  | none=>simp only[hd] at h;exact h.elim|some d=>simp only[hd] at h;obtain⟨v,L,rv⟩:=r.get hd;refine .inl ⟨a,xs,k,v,e,U.int I,q,?_,λt'=>h v H t' (Rv.ofSub rv)⟩;unfold atI;rw[<-r.length,<-rD,B];exact L
 rename_i ds k G I;obtain⟨a,xs,e,q,r⟩:=hx.tup G;cases B:Hp.ixN ds.length k with
 | none=>rw[B] at h;exact h.elim|some j=>
  rw[B] at h;cases hd:ds[j]? with
  | none=>simp only[hd] at h;exact h.elim|some d=>simp only[hd] at h;obtain⟨v,L,rv⟩:=r.get hd;refine .inr (.inl ⟨a,xs,k,v,e,U.int I,q,?_,λt'=>h v H t' (Rv.ofSub rv)⟩);unfold atI;rw[<-r.length,<-rD,B];exact L
 rename_i z k G I;obtain⟨c,h⟩:=h.iff;have W:=of_decide_eq_true c;cases B:Hp.ixN z.length k with
 | none=>rw[B] at h;exact h.elim|some j=>
  rw[B] at h;cases hd:z.cps.toList[j]? with
  | none=>simp only[hd] at h;exact h.elim|some c=>
   simp only[hd] at h;refine .inr (.inr ⟨z,k,c,hx.str G,U.int I,iV W,?_,λt'=>Wn.val h t' λ_=>rfl⟩);unfold atI;have hl:z.cps.toList.length=z.length:=by simp[Kn]
   rw[hl,<-rD,B];exact hd
 exact h.elim
theorem aAR(n d:Nat)(o:Option Int):Hp.sIx n d o=HT.sIx n d o:=by cases o <;> rfl
theorem yT{K:Fg}{ex:Addr->Prop}{ds:List D}{xs:List V}(r:Reps K H ex ds xs)(lo hi:Option Int):Reps K H ex (cut ds lo hi) (yG xs lo hi):=by unfold cut yG;rw[aAR,r.length];exact(r.drop _).take _
theorem lK{prog:AB}{w:AV}{A:B6}{E:Value->Ad->Prop}{t sl:Addr}{items:Array Value}{W vu:Value}{lo hi:Option Int}{Q:Value->Ad->Prop}(B:IsTup s.heap t items)(hs:s.heap.IsSliceOf sl W vu .none)(pl:F5 W lo)(pu:F5 vu hi)
 (U:HT.sIx items.size 0 lo=0/\HT.sIx items.size items.size hi=items.size) (h:Q (.ref t) s):An (Ay prog w) A (F6 (.ref t) (.ref sl)) Q E s:=by
 obtain⟨os,L,I,q0⟩:=id hs;unfold F6
 try with_reducible refine Bt ?_
 first|refine Aa (Ac ?_)|skip
 refine Aa (GV B.typeIs (by decide) ?_);refine Aa (AT B.typeIs Bp
  (Bl Bp B.typeIs Gu ?_ (GC _ _)))
 show An _ _ (EC (.ref t) >>= _) _ _ s;refine Aa (Jh B ?_);refine Aa (DS (⟨os,L,I⟩) ?_);refine Aa (HT.sliceApplied_gen hs pl pu ?_);have G:(((HT.sIx items.size 0 lo:Nat):Int)==0&&(1:Int)==1&&(HT.sIx items.size items.size hi-HT.sIx items.size 0 lo)==items.size)=true:=by rw[U.1,U.2];simp
 show An _ _ (if (((HT.sIx items.size 0 lo:Nat):Int)==0&&(1:Int)==1&&(HT.sIx items.size items.size hi-HT.sIx items.size 0 lo)==items.size)=true then _ else _) _ _ s;rw[if_pos G];refine Aa (Aa (DS B.typeIs (Ac ?_)));exact Aa (Ec (Ac ⟨_,rfl,Ac h⟩))
def yU(K:Fg):V->Option Int->Option Int->Hp->VK->Prop:=λx lo hi H Q=>∃a xs,x=.ref a/\SqT K H a xs/\(HT.sIx xs.length 0 lo=0/\HT.sIx xs.length xs.length hi=xs.length)/\Q (.ref a) H
theorem aHS:SlR X (yU X.K):=by
 intro pins s Z H x v vl vu lo hi sl Q I rx hs pl W h;obtain⟨a,xs,rfl,hx,U,q⟩:=h;cases rx;obtain⟨G,r,L,hz⟩:=I.tuple hx;have B:G.toArray.size=xs.length:=by exact r.length.symm
 exact⟨"tuple",_,Bp.lookup,L.typeIs,(lK L hs pl W (by rw[B];exact U) ⟨.ref a,H,I,rfl,q⟩)⟩
theorem aKH:SlR X (λx lo hi H Q=>aEI X.K x lo hi H Q\/aEF X.K x lo hi H Q\/yU X.K x lo hi H Q\/aET x lo hi H Q):=aHI.or (aKp.or (aHS.or aKG))
theorem aDt{α:Type}{xs:List α}{lo hi:Option Int}(h1:Hp.sIx xs.length 0 lo=0)(h2:Hp.sIx xs.length xs.length hi=xs.length):cut xs lo hi=xs:=by unfold cut;rw[h1,h2,II,FF,BZ]
theorem aDu{lo hi:Option Int}(S:Sx X.K RT Y old Z ZV H)(t:Tk X.K H)(hx:Rv X.K RT Y old Z ZV H x ux){w:D->Prop}(h:RE w (fA x lo hi) (Wn X RT Y old Z ZV H Q)) :
 aEI X.K ux lo hi H (λv H'=>Tk X.K H'->Q v H')\/aEF X.K ux lo hi H (λv H'=>Tk X.K H'->Q v H')\/yU X.K ux lo hi H (λv H'=>Tk X.K H'->Q v H')\/aET ux lo hi H (λv H'=>Tk X.K H'->Q v H'):=by
 unfold fA at h;split at h;rename_i ds B;obtain⟨a,xs,e,q,_,r⟩:=hx.lst B;exact .inl ⟨a,xs,e,q,λp hp t'=>h _ _ t' (Ro.fresh hp t' rfl rfl S (yT (fW r) lo hi))⟩;rename_i ds B;obtain⟨a,xs,e,q,r⟩:=hx.tup B;by_cases G:HT.sIx xs.length 0 lo=0/\HT.sIx xs.length xs.length hi=xs.length;refine .inr (.inr (.inl ⟨a,xs,e,q,G,λt'=>h _ _ t' (Ro.plain (aW.refl H) rfl ?_)⟩));rw[(aDt (by rw[aAR,r.length];exact G.1) (by rw[aAR,r.length];exact G.2))];exact⟨a,xs,rfl,q,(fW r)⟩;exact .inr (.inl ⟨a,xs,e,q,G,λp hp t'=>h _ _ t' (Ro.tup hp rfl rfl (yT (fW r) lo hi))⟩);rename_i a B;obtain⟨I,h⟩:=h.iff;have e:ux=.str a:=by unfold Rv at hx;rw[B] at hx;exact hx
 exact .inr (.inr (.inr ⟨a,e,iV (of_decide_eq_true I),λt'=>h _ _ t' (Ro.cl (aW.refl H) rfl)⟩));exact h.elim
theorem iW:∀{ds:List D} {bs:List Bool} {xs:List V} {ex:Addr->Prop},cE ds=some bs->Reps X.K H ex ds xs->xs=bs.map V.bl
 | [],bs,xs,ex,h,r=>by simp[cE] at h;subst h;exact r|.bl a::ds,bs,xs,ex,h,r=>by
  obtain⟨x,B,z,h1,h2⟩:=r;rw[cE] at h;cases q:cE ds with
  | none=>rw[q] at h;cases h|some ms=>rw[q] at h;cases h;rw[z,show x=.bl a from h1,iW q h2];rfl
 | .non::ds,ns,xs,ex,h,r=>by simp[cE] at h|.int _::ds,ns,xs,ex,h,r=>by simp[cE] at h|.str _::ds,ns,xs,ex,h,r=>by simp[cE] at h|.tup _::ds,ns,xs,ex,h,r=>by simp[cE] at h|.lst _::ds,ns,xs,ex,h,r=>by simp[cE] at h|.err _ _::ds,ns,xs,ex,h,r=>by simp[cE] at h
theorem uD:∀{bs:List Bool} {us:List Value},bJ (bs.map V.bl) us->us=bs.map Cw:=by
 intro bs
 induction bs with
 | nil=>intro us r;rw[mN] at r;cases r;rfl|cons b bs B=>
  intro us r;rw[mC] at r;cases r with
  | cons G I=>rw[show _=Cw b from G,B I];rfl
theorem aAS(bs:List Bool):((Ap bs.length).all λi=>(bs[i]?).getD true)=bs.all id:=by rw[Dg];simp only[AO,B5,id];constructor;intro h b hb;obtain⟨i,hi⟩:=CD hb;have:=h i (Ax.mp hi).1;rw[hi] at this;simpa using this;intro h i hi;rw[(Ae hi)];exact h _ (AI hi)
theorem aDv(hc:X.calm=true):gX X (.builtin "all") (λxs H Q=>∃(p:Addr) (bs:List Bool),xs=[.ref p]/\SqL X.K H p (bs.map V.bl)/\Q (.bl (bs.all id)) H):=by
 intro pins s Z H xs us Q I r h;obtain⟨p,bs,rfl,hq,q⟩:=h;obtain⟨u,rfl,rx⟩:=pD r;cases rx;obtain⟨q0,rv,pl,hz⟩:=I.list hq;have L:=uD rv;subst L;refine call_all_walk (CG pl.isList ?_);refine⟨s.heap.objs.size,[s.heap.objs.size,p],[s.heap.objs.size],(bs.map Cw).toArray.size,_,_,λi=>(bs[i]?).getD true,rfl,GG (A:=X.A.in1) (I.ok.hd hc) _ p (Aw pl.lt) _,
  ⟨⟨_,Ak _ rfl,rfl,rfl⟩,pl.isList.push _⟩,λi v s' Q' E' W U=>?_,λh' tk hk=>?_⟩
 have B:bs[i]?.map Cw=some v:=by simpa using W
 cases e:bs[i]? with
 | none=>rw[e] at B;cases B|some b=>rw[e] at B;cases B;simp only[e] at U;exact BF U
 have e:((Ap (bs.map Cw).toArray.size).all λi=>(bs[i]?).getD true)=bs.all id:=by rw[Ah,lM];exact aAS bs
 rw[e];refine⟨.bl _,H,I.kept λb o G=>hk b o ?_ (Ab _ G),rfl,q⟩;intro hm;rw[Av.mp hm] at G;exact AU _ (Ag G)
theorem aAT(bs:List Bool):((Ap bs.length).any λi=>(bs[i]?).getD true)=bs.any id:=by rw[Dg];simp only[Eb,B5,id];constructor;rintro ⟨i,hi,h⟩;rw[Ae hi] at h;exact⟨bs[i],AI hi,h⟩;rintro ⟨b,hb,h⟩;obtain⟨i,hi⟩:=CD hb;exact⟨i,(Ax.mp hi).1,by rw[hi];exact h⟩
theorem aDw(hc:X.calm=true):gX X (.builtin "any") (λxs H Q=>∃(p:Addr) (bs:List Bool),xs=[.ref p]/\SqL X.K H p (bs.map V.bl)/\Q (.bl (bs.any id)) H):=by
 intro pins s Z H xs us Q I r h;obtain⟨p,bs,rfl,hq,q⟩:=h;obtain⟨u,rfl,rx⟩:=pD r;cases rx;obtain⟨q0,rv,pl,hz⟩:=I.list hq;have L:=uD rv;subst L;refine call_any_walk (CG pl.isList ?_);refine⟨s.heap.objs.size,[s.heap.objs.size,p],[s.heap.objs.size],(bs.map Cw).toArray.size,_,_,λi=>(bs[i]?).getD true,rfl,GG (A:=X.A.in1) (I.ok.hd hc) _ p (Aw pl.lt) _,
  ⟨⟨_,Ak _ rfl,rfl,rfl⟩,pl.isList.push _⟩,λi v s' Q' E' W U=>?_,λh' tk hk=>?_⟩
 have B:bs[i]?.map Cw=some v:=by simpa using W
 cases e:bs[i]? with
 | none=>rw[e] at B;cases B|some b=>rw[e] at B;cases B;simp only[e] at U;exact BF U
 have e:((Ap (bs.map Cw).toArray.size).any λi=>(bs[i]?).getD true)=bs.any id:=by rw[Ah,lM];exact aAT bs
 rw[e];refine⟨.bl _,H,I.kept λb o G=>hk b o ?_ (Ab _ G),rfl,q⟩;intro hm;rw[Av.mp hm] at G;exact AU _ (Ag G)
def rBi(X:Cx)(b:Bi):List V->Hp->VK->Prop:=match b with|.len=>λxs H Q=>(∃p ys,xs=[.ref p]/\(SqL X.K H p ys\/SqT X.K H p ys)/\Q (.int ys.length) H)\/∃z,xs=[.str z]/\z.length<=sizeLine/\Q (.int z.length) H|.list=>λxs H Q=>∃p ys,xs=[.ref p]/\(SqL X.K H p ys\/SqT X.K H p ys)/\∀l,H l=none->Q (.ref l) (upd H l (.lst ys))|.tuple=>λxs H Q=>∃p ys,xs=[.ref p]/\((SqL X.K H p ys/\∀l,H l=none->Q (.ref l) (upd H l (.tup ys)))\/(SqT X.K H p ys/\Q (.ref p) H))|.int=>λxs H Q=>(∃i,xs=[.int i]/\Q (.int i) H)\/∃k,xs=[.bl k]/\Q (.int (if k then 1 else 0)) H|.all=>λxs H Q=>∃(p:Addr) (bs:List Bool),xs=[.ref p]/\SqL X.K H p (bs.map V.bl)/\Q (.bl (bs.all id)) H|.any=>λxs H Q=>∃(p:Addr) (bs:List Bool),xs=[.ref p]/\SqL X.K H p (bs.map V.bl)/\Q (.bl (bs.any id)) H|_=>λ_ _ _=>False
noncomputable def aJx:Bi->Value
 | .len=>.builtin "len" | .list=>.type "list" | .tuple=>.type "tuple" | .min=>.builtin "min" | .max=>.builtin "max" | .abs=>.builtin "abs" | .int=>.type "int" | .str=>.type "str"
 | .all=>.builtin "all" | .any=>.builtin "any" | .sum=>.builtin "sum" | .sorted=>.builtin "sorted" | .bool=>.type "bool" | .repr=>.builtin "repr"
theorem aHT(B:X.calm=true)(G:X.A.guards=some [])(I:X.A.units+200<HU)(b:Bi)(hb:aEO b=true):gX X (aJx b) (rBi X b):=by
 cases b with
 | len=>exact vX.or vY|list=>exact vZ|tuple=>exact tM|int=>exact aDh|all=>exact aDv B|any=>exact aDw B|_=>cases hb
theorem aEU(hb:aEO b=true)(S:Sx X.K RT Y old Z ZV H)(U:Rvs X.K RT Y old Z ZV H vs us){w:D->Prop}(h:RE w (biD b vs) (Wn X RT Y old Z ZV H Q)) :
 rBi X b us H (λv H'=>Tk X.K H'->Q v H'):=by
 unfold biD at h;split at h;rename_i x;obtain⟨u,r,e,hx,I⟩:=U;rw[show r=[] from I] at e;subst e;cases b with
 | len=>dsimp only[yL] at h;split at h;rename_i ds B;obtain⟨a,xs,e,q,_,r⟩:=hx.lst B;exact .inl ⟨a,xs,by rw[e],.inl q,λt'=>by rw[<-r.length];exact Wn.val h t' λ_=>rfl⟩;rename_i ds B;obtain⟨a,xs,e,q,r⟩:=hx.tup B;exact .inl ⟨a,xs,by rw[e],.inr q,λt'=>by rw[<-r.length];exact Wn.val h t' λ_=>rfl⟩;rename_i z B;obtain⟨c,h⟩:=h.iff;exact .inr ⟨z,by rw[hx.str B],iV (of_decide_eq_true c),λt'=>Wn.val h t' λ_=>rfl⟩;exact h.elim|list=>dsimp only[yL] at h;split at h;rename_i ds B;obtain⟨a,xs,e,q,_,r⟩:=hx.lst B;exact⟨a,xs,by rw[e],.inl q,λp hp t'=>h _ _ t' (Ro.fresh hp t' rfl rfl S (fW r))⟩;rename_i ds B;obtain⟨a,xs,e,q,r⟩:=hx.tup B;exact⟨a,xs,by rw[e],.inr q,λp hp t'=>h _ _ t' (Ro.fresh hp t' rfl rfl S (fW r))⟩;exact h.elim|tuple=>dsimp only[yL] at h;split at h;rename_i ds B;obtain⟨a,xs,e,q,_,r⟩:=hx.lst B;exact⟨a,xs,by rw[e],.inl ⟨q,λp hp t'=>h _ _ t' (Ro.tup hp rfl rfl (fW r))⟩⟩;rename_i ds B;obtain⟨a,xs,e,q,r⟩:=hx.tup B;exact⟨a,xs,by rw[e],.inr ⟨q,λt'=>h _ _ t' (Ro.plain (aW.refl H) rfl ⟨a,xs,rfl,q,r⟩)⟩⟩;exact h.elim|abs=>cases hb|int=>dsimp only[yL] at h;split at h;rename_i i B;exact .inl ⟨i,by rw[hx.int B],λt'=>Wn.val h t' λ_=>rfl⟩;rename_i k B;exact .inr ⟨k,by rw[hx.bl B],λt'=>Wn.val h t' λ_=>rfl⟩;exact h.elim|str=>cases hb|all=>dsimp only[yL] at h;split at h;rename_i ds B;obtain⟨a,xs,e,q,_,r⟩:=hx.lst B;split at h;rename_i bs G;rw[iW G r] at q;exact⟨a,bs,by rw[e],q,λt'=>Wn.val h t' λ_=>rfl⟩;exact h.elim;exact h.elim|repr=>cases hb|bool=>cases hb|sum=>cases hb|any=>dsimp only[yL] at h;split at h;rename_i ds B;obtain⟨a,xs,e,q,_,r⟩:=hx.lst B;split at h;rename_i bs G;rw[iW G r] at q;exact⟨a,bs,by rw[e],q,λt'=>Wn.val h t' λ_=>rfl⟩;exact h.elim;exact h.elim|sorted=>cases hb|min=>exact h.elim|max=>exact h.elim
 rename_i x y;obtain⟨u,r,e,hx,u',W,L,hy,I⟩:=U;rw[show W=[] from I] at L;subst L e;cases b <;> first|exact h.elim|cases hb
 exact h.elim
noncomputable def yV:Cl->Option Value
 | .tInt=>some (.type "int")|.tBool=>some (.type "bool")|.tStr=>some (.type "str")|.tList=>some (.type "list")|.tTuple=>some (.type "tuple")|.tDict=>some (.type "dict")
 | _=>none
noncomputable def tyD:D->Option String
 | .non=>some "NoneType" | .bl _=>some "bool" | .int _=>some "int" | .str _=>some "str" | .tup _=>some "tuple" | .lst _=>some "list" | .err _ _=>none
theorem kP(K:Fg)(P:Pg){c:Cl}{I:Value}{d:D}{k:Bool}{T:String}(B:yV c=some I)(G:tyD d=some T)(h:isI [c] P d=some k):Dx K (.type T) I=some k:=by
 cases c with
 | own c=>cases B|tValueError=>cases B|tInt=>cases B;cases d <;> cases G <;> simp[isI] at h <;> subst h <;> kernel_rfl|tBool=>cases B;cases d <;> cases G <;> simp[isI] at h <;> subst h <;> kernel_rfl|tStr=>cases B;cases d <;> cases G <;> simp[isI] at h <;> subst h <;> kernel_rfl|tList=>cases B;cases d <;> cases G <;> simp[isI] at h <;> subst h <;> kernel_rfl|tTuple=>cases B;cases d <;> cases G <;> simp[isI] at h <;> subst h <;> kernel_rfl|tDict=>cases B;cases d <;> cases G <;> simp[isI] at h <;> subst h <;> kernel_rfl
theorem aDx(P:Pg)(I:L2.Inv X pins ZV H s)(G:bV ux vx)(hx:Rv X.K RT Y old Z ZV H x ux)(L:yV c=some cv)(h:isI [c] P x.d=some k)(q:Q (.bl k) H) :
 An (Ay X.prog X.w) X.A (IG (.builtin "isinstance") [vx,cv]) (EP X pins ZV Q) X.xe s:=by
 have B:∀tk,EP X pins ZV Q (.bool k) { s with toks:=tk }:=λtk=>⟨.bl k,H,I.tok tk,rfl,q⟩
 cases d:x.d with
 | non=>rw[hx.non d] at G;cases G;exact Co EX I.kIn GH (kP X.K P L (by rw[d];rfl) h) (λz=>nomatch z) B|bl b=>rw[hx.bl d] at G;cases G;exact Co PySem.W.kitx_bool I.kIn GH (kP X.K P L (by rw[d];rfl) h) (λz=>nomatch z) B|int i=>rw[hx.int d] at G;obtain⟨t,rfl⟩:=G;exact Co PySem.W.kitx_int I.kIn GH (kP X.K P L (by rw[d];rfl) h) (λz=>nomatch z) B|str z=>rw[hx.str d] at G;obtain⟨t,rfl⟩:=G;exact Co PySem.W.kitx_str I.kIn GH (kP X.K P L (by rw[d];rfl) h) (λz=>nomatch z) B|tup ds=>obtain⟨a,xs,U,p,_⟩:=hx.tup d;subst U;cases G;obtain⟨W,_,t,_⟩:=I.tuple p;obtain⟨o,h1,h2,_⟩:=t;exact Co PySem.W.kitx_tuple I.kIn ⟨o,h1,h2⟩ (kP X.K P L (by rw[d];rfl) h) (λz=>nomatch z) B|lst ds=>obtain⟨a,xs,U,p,_⟩:=hx.lst d;subst U;cases G;obtain⟨W,_,t,_⟩:=I.list p;obtain⟨o,n,h1,h2,_⟩:=t;exact Co PySem.W.kitx_list I.kIn ⟨o,h1,h2⟩ (kP X.K P L (by rw[d];rfl) h) (λz=>nomatch z) B|err _ _=>rw[d] at h;cases h
end
def uE(prog:AB)(w:AV)(K:Fg)(a:Addr)(t:List (Str×D)):Prop:=(a==DY)=false/\∃vs:List (Key×Value),(∀h:Heap,K.In h->h.DictOf (bX prog w) a vs) /\
 ∀k:Str,(t.lookup k=none/\FG vs (BP k:Key)=none)\/∃d u v,t.lookup k=some d/\FG vs (BP k:Key)=some u/\bV v u/\∀(H:Hp) (ex:Addr->Prop),Rep K H ex d v
theorem aHU{t:List (Str×D)}{p ap cp:Ht}(T:uE X.prog X.w X.K a t)(hg:Gl X x)(hm:X.mg x=some (.ref a))(hd:(x==("__debug__" : Str))=false)(he:PE X e te)(B:(ap.endLine==cp.line)=true)
 (hs:AW [e] X.env=[(false,De e X.env)]) :
 PE X (.Call (.Attribute (.Name x p) "get" ap) [e] [] cp) (λZ H Q=>te Z H λu H1=>∃k,u=.str k/\∀v,(∀(H:Hp) (ex:Addr->Prop),Rep X.K H ex ((t.lookup k).getD .non) v)->Q v H1):=by
 intro pins s Z H Q I h;obtain⟨U,vs,dict,W⟩:=T;refine F9 rfl (by rw[hs];rfl) B rfl (thn (pU (v:=.ref a) hg hm rfl hd pins s Z H (λv H1=>v=.ref a/\H1=H) I ⟨rfl,rfl⟩) λv s1 ⟨y,H1,I1,r1,e1,e2⟩=>?_);subst e1 e2;obtain rfl:v=Bu a:=r1;have dd:=dict s1.heap I1.kIn;refine⟨"dict", "dict.get",PySem.F.plainAttrs_dict,FR,PySem.F.type_dict_get,dd.typeIs,λb q=>?_,?_⟩;cases q;obtain⟨ob,_,_,h1,h2,_⟩:=dd;exact⟨ob,h1,h2.2.1⟩
 . have hA:=(eQ he gG hs) cp pins s1 Z H1 (λus H2=>match us with|[u]=>(∃k,u=.str k/\∀v,(∀H ex,Rep X.K H ex ((t.lookup k).getD .non) v)->Q v H2)|_=>False) I1 h;rw[hs] at hA ⊢;refine FA rfl (Dv ?_);refine thn hA λus s2 ⟨xs,H2,I2,r2,G⟩=>?_
   match xs,r2,G with
   | [y],.cons ry .nil,G=>
    obtain⟨k,ey,G⟩:=G;subst ey;obtain⟨tk,rfl⟩:=ry;have L:=dict s2.heap I2.kIn;refine call_meetsIn FR L.typeIs PySem.F.entry_dict_get (PySem.F.args_dict_get_2 _ _) (meets_dict_get (bX X.prog X.w) a (k:=(BP k:Key)) (kM k tk) U) ⟨_,L.mapOf,?_⟩;rcases W k with⟨l1,l2⟩|⟨d,u,v,l1,l2,rv,rep⟩
    rw[l2];refine⟨.non,H2,I2.tok _,rfl,G .non λH ex=>?_⟩;rw[l1];rfl;rw[l2];refine⟨v,H2,I2.tok _,rv,G v λH ex=>?_⟩;rw[l1];exact rep H ex
end Hp
namespace L2
open PySem PySem.Spec PyProof.Rows
abbrev bmV:List Value:=[.type "ValueError",.type "Exception",.type "BaseException",.type "object"]
section
variable {X:Cx}
theorem eC.old(x:eC P w H h a o):Old h a:=by
 cases o with
 | lst xs=>obtain⟨_,_,_,_,e⟩:=x;exact⟨_,e⟩|tup xs=>obtain⟨_,_,_,B,e,_⟩:=x;exact⟨_,e⟩|dK kvs=>obtain⟨_,_,_,_,o,_,_,e,_⟩:=x;exact⟨_,e⟩|dT kvs=>obtain⟨_,_,_,_,o,_,_,e,_⟩:=x;exact⟨_,e⟩|set S n=>obtain⟨o,_,_,_,e,_⟩:=x;exact⟨_,e⟩|ins C dx fs=>obtain⟨_,_,_,e,_⟩:=x;exact⟨_,e⟩|own y=>obtain⟨_,e⟩:=x;exact⟨_,e⟩|xd fs=>obtain⟨_,⟨_,_,_,e,_⟩,_⟩:=x;exact⟨_,e⟩|rng lo hi=>obtain⟨_,_,_,e⟩:=x;exact⟨_,e⟩|frz B u=>obtain⟨e,_⟩:=x;exact⟨_,e⟩|tbl ps=>exact⟨_,(x)⟩|met f y=>exact⟨_,(x)⟩|ext φ=>obtain⟨_,e,_⟩:=x;exact e
theorem aKI{h:Heap}(I:X.K.In h)(q:DC X.K C bmV newId=true) :
 ∃bm N nm q bs hdct sn sub ab col dd k0 k1 k2 k3 k5 mN,h.get? C=some (CU nm q C N bs bm hdct sn sub ab col dd k0 k1 k2 k3 k5 newId)/\h.Ns N mN/\mN "__init__" = none/\Gq h bmV bm:=by
 unfold DC at q;split at q;rename_i dd cd sl W;split at q;rename_i C' bm k0 k1 k2 k3 n k5 hm hs;simp only[bA,beq_iff_eq,Ch] at q;obtain⟨⟨⟨⟨⟨rfl,rfl⟩,B⟩,ht⟩,hok⟩,G⟩:=q;obtain⟨nm,bs,mro,ns,qn,hd,sn,sub,ab,col,U⟩:=cd;dsimp only at hm B hok G;subst hm B;have L:sl=#[k0,k1,k2,k3,some (.builtin n),k5]:=by obtain⟨l⟩:=sl;simp only at hs;rw[hs]
 subst L;exact⟨bm,ns,nm,qn,bs,hd,sn,sub,ab,col,dd,k0,k1,k2,k3,k5,_,I _ _ W,.of_isNs (PySem.W.isNs_of_in I hok),PySem.W.nsMap_none_of_in I hok G,GI I ht⟩;cases q;cases q
noncomputable def lV(K:Ai)(C:Addr):Bool:=match K.lookup C with
 | some ⟨.type "type",_,.cls cd,sl⟩=>(match cd.mro,sl.toList with
  | .ref C'::bm,[_,_,_,_,some (.builtin n),_]=>C'==C&&n == "ValueError.__new__" && !cd.hasDel&&IJ K bmV bm|_,_=>false)
 | _=>false
theorem wH{h:Heap}(I:X.K.In h)(q:lV X.K C=true) :
 ∃bm N nm q bs hdct sn sub ab col dd k0 k1 k2 k3 k5,h.get? C=some (CU nm q C N bs bm hdct sn sub ab col dd k0 k1 k2 k3 k5 "ValueError.__new__")/\Gq h bmV bm:=by
 unfold lV at q;split at q;rename_i dd cd sl U;split at q;rename_i C' bm k0 k1 k2 k3 n k5 hm hs;simp only[bA,beq_iff_eq,Ch] at q;obtain⟨⟨⟨rfl,rfl⟩,B⟩,W⟩:=q;obtain⟨nm,bs,mro,ns,qn,hd,sn,sub,ab,col,L⟩:=cd;dsimp only at hm B;subst hm B;have G:sl=#[k0,k1,k2,k3,some (.builtin "ValueError.__new__"),k5]:=by obtain⟨l⟩:=sl;simp only at hs;rw[hs]
 subst G;exact⟨bm,ns,nm,qn,bs,hd,sn,sub,ab,col,dd,k0,k1,k2,k3,k5,I _ _ U,GI I W⟩;cases q;cases q
theorem aEV(m:EF h h' e (.ref C) vs)(G:H e=none)(l:∀b,Old h0 b->b∉ex->Old h b)(U:∀b∈L,Old h b):Fly h0 ex H L e (.ref C) h':=by
 have B:¬ Old h e:=λ⟨o,q⟩=>by rw[m.new] at q;cases q
 refine⟨none,?_,λb z=>?_⟩;obtain⟨t,I,_⟩:=m.there;exact⟨_,_,I,rfl,rfl,rfl,rfl⟩;rcases z with rfl|z;exact⟨λz=>B (l _ z.1 z.2),G,λz=>B (U _ z)⟩;cases z
theorem aEW{E:Value->St->Hp->Prop}(Fn:ExcBaseFacts Bn newId inN bmN)(U:bmV.contains (.type Bn)=true)
 (hg:Gl X x) (hm:X.mg x=some (.ref C)) (q:DC X.K C bmV newId=true) (ha:PA X (a::args) t) (hc:X.calm=true) (hR:Rs X E)
 (hd:(x==("__debug__" : Str))=false) (he:AW (a::args) X.env=(false,De a X.env)::AW args X.env) (q0:(DZ cpos (AW (a::args) X.env)).any (·.1)=false) :
 PS X (.Raise (some (.Call (.Name x np) (a::args) [] cpos)) none pos) (λD Z H=>t Z H λvs H1=>vs.length<=sizeLine/\E (.ref C) Z H1):=by
 intro pins s Z H D I h;obtain⟨bm,N,nm,qn,bs,hdct,sn,sub,ab,col,dd,k0,k1,k2,k3,k5,mN,hC,hN,W,TL⟩:=aKI I.mod.kin q;have G:=ha cpos pins s Z H _ I h;refine wpAny_Raise_call_subU (nm:=nm) (q:=qn) (N:=N) (bs:=bs) (hdct:=hdct) (sn:=sn) (sub:=sub) (ab:=ab) (col:=col) (dd:=dd) (k0:=k0) (k1:=k1) (k2:=k2) (k3:=k3) (k5:=k5)
  Fn U Dy (TL.hasType rfl) (I.ok.hd hc) q0 W (kN I hg hm ⟨rfl,?_⟩ hd)
 rw[he] at G ⊢;refine Dv (thn G λus s2 ⟨vs,H1,B,rv,hl,hE⟩=>⟨rfl,by rw[<-rv.length];exact hl,B.bk _ _ hC,hN.keeps B.bk,TL.keeps B.bk,λh' e m=>?_⟩);have hn:H1 e=none:=by
  cases z:H1 e with
  | none=>rfl|some o=>obtain⟨ob,L⟩:=(B.hok e o z).old;rw[m.new] at L;cases L
 exact hR pins Z H1 { s2 with heap:=h' } e (.ref C) (B.un (Un.kept m.keeps) (B.hok.kept m.keeps)) (aEV m hn (wF B) (mR B)) hE
end
theorem Rec.data{h:Heap}(r:Rec h e cls T):∀b,(b=e\/T=some b)->∃o vs,h.get? b=some o/\o.data=.fields vs:=by obtain⟨L,vs,G,_,_,hd,B⟩:=r;intro b hb;rcases hb with rfl|hb;exact⟨L,vs,G,hd⟩;subst hb;obtain⟨_,_,I,ts,g1,g2,_⟩:=B;exact⟨I,ts,g1,g2⟩
theorem Inv.note{fr:List Addr}{e:Addr}{cls:Value}{T:Option Addr}(I:Inv X pins Z H s)(x:Lx fr e T s.heap h')(U:∀b∈fr,b∈frs X.stack)(q2:∀b∈X.fs,b∈fr\/fr=[])(r:Rec s.heap e cls T)
 (n:∀b,(b=e\/T=some b)->¬ (Old X.s₀.heap b/\b∉X.ex)/\H b=none/\b∉pinA X pins):Inv X pins Z H { s with heap:=h' }:=by
 have any:∀b o,s.heap.get? b=some o->b≠e->T≠some b->∃sl,h'.get? b=some { o with slots:=sl }:=λb o q h1 h2=>by by_cases hb:b∈fr;exact x.slot b o q hb;exact⟨o.slots,x.keep b o q hb h1 h2⟩
 have q0:∀b o,s.heap.get? b=some o->(∀vs,o.data≠.fields vs)->b≠e/\T≠some b:=λb o q d=>by constructor;intro z;obtain⟨o',vs,g,d'⟩:=r.data b (.inl z);rw[q] at g;cases g;exact d vs d';intro z;obtain⟨o',vs,g,d'⟩:=r.data b (.inr z);rw[q] at g;cases g;exact d vs d'
 have G:∀c v,s.heap.IsCell c v->h'.IsCell c v:=λc v ⟨o,ho,hd⟩=>by
  obtain⟨h1,h2⟩:=q0 c o ho λvs z=>by rw[hd] at z;cases z
  obtain⟨sl,q⟩:=any c o ho h1 h2;exact⟨_,q,hd⟩
 have B:∀b o,X.s₀.heap.get? b=some o->b∉X.ex->b≠e/\T≠some b:=λb o q hx=>⟨λz=>(n b (.inl z)).1 ⟨⟨o,q⟩,hx⟩,λz=>(n b (.inr z)).1 ⟨⟨o,q⟩,hx⟩⟩
 refine⟨I.ok,I.os,I.bare,⟨λb o e n hb hx=>?_,λb o e n hb hx=>?_,I.base.free,λb o e hx=>?_,I.base.tups,I.base.frzs,I.base.tbls⟩,?_,λy c e=>?_,I.free,I.freeC,λp hp=>?_,uB I.hok x (λb hb=>I.stkFree b (U b hb)) (n e (.inl rfl)).2.1 (λt z=>(n t (.inr z)).2.1),I.len⟩;refine x.keep b o (I.base.keep b o e n hb hx) (λz=>?_) (B b o e hx).1 (B b o e hx).2;rcases(λb hb=>As.mp (I.stkSub b (U b hb))) b z with z|z;exact absurd (Ag e) (Db.mpr (by rw[z];exact I.ok.above));exact hb z;obtain⟨sl,L⟩:=I.base.slot b o e n hb hx;obtain⟨q1,W⟩:=any b _ L (B b o e hx).1 (B b o e hx).2;exact⟨q1,W⟩;obtain⟨o',L⟩:=I.base.there b o e hx;obtain⟨q1,W⟩:=any b _ L (B b o e hx).1 (B b o e hx).2;exact⟨_,W⟩;obtain⟨m,hn,hl⟩:=I.loc;refine⟨m,?_,λi y v L W e3=>?_⟩;obtain⟨o,es,ep,ho,hd,rr⟩:=hn;obtain⟨h1,h2⟩:=q0 _ o ho λvs z=>by rw[hd] at z;cases z
 obtain⟨sl,q⟩:=any _ o ho h1 h2;exact⟨_,es,ep,q,hd,rr⟩;obtain⟨u,rr,l⟩:=hl i y v L W e3;refine⟨u,rr,?_⟩;rcases l with l|⟨k,c,e,z⟩
 exact .inl l;exact .inr ⟨k,c,e,G c _ z⟩;obtain⟨v,z⟩:=I.cell y c e;exact⟨v,G c v z⟩;obtain⟨L,n1,ne,nf,d⟩:=I.pin p hp;refine⟨x.keep p.1 p.2 L (λz=>((λb hb=>As.mp (I.stkSub b (U b hb))) _ z).elim ne nf) (λz=>(n _ (.inl z)).2.2 (A0.mpr ⟨p,hp,rfl⟩)) (λz=>(n _ (.inr z)).2.2 (A0.mpr ⟨p,hp,rfl⟩)),n1,ne,nf,d⟩
theorem aEX{E:Value->Ad->Prop}{Q:Unit->Ad->Prop}(r:Rec s.heap e cls (some T))
 (h:∀h',Lx [] e (some T) s.heap h'->Rec h' e cls (some T)->Q () { s with heap:=h' }):An M A (Fq (.ref e) none) Q E s:=by obtain⟨oe,vs,W,hc,I,hd,h1,G,oT,ts,U,B,fl,L⟩:=r;refine Gb W hd h1 U B (A6.mp L).1 (h _ ⟨λb o q _ _ hb=>?_,λb o _ z=>by cases z⟩ ?_);exact(A2 _ _ λz=>hb (by rw[z])).trans q;refine⟨oe,vs,(A2 _ _ G).trans W,hc,I,hd,h1,G,_,_,Bh _ U (BI (Bg B _)),Bg B _,none,?_⟩;have:=(A6.mp L).1;simp[this]
theorem aKJ{E:Value->Ad->Prop}{Q:Unit->Ad->Prop}(r:Rec s.heap e cls (some T))
 (h:∀h',Lx [] e (some T) s.heap h'->Rec h' e cls (some T)->Q () { s with heap:=h' }):An M A (Fq (.ref e) f) Q E s:=by obtain⟨oe,vs,W,hc,I,hd,h1,G,oT,ts,U,B,fl,L⟩:=r;refine Aa (AH W hd h1 ?_);refine Cz U B (A6.mp L).1 (h _ ⟨λb o q _ _ hb=>?_,λb o _ z=>by cases z⟩ ?_);exact(A2 _ _ λz=>hb (by rw[z])).trans q;refine⟨oe,vs,(A2 _ _ G).trans W,hc,I,hd,h1,G,_,_,Bh _ U (BI (Bg B _)),Bg B _,f,?_⟩;have:=(A6.mp L).1;simp[this]
theorem Inv.track(I:Inv X pins Z H s)(n:¬ (Old X.s₀.heap a/\a∉X.ex))(hn:H a=none)(hp:a∉pinA X pins)(hl:a≠X.env.locals)(W:∀x c,X.env.cells.lookup x=some c->c≠a)(new:eC X.prog X.w (upd H a o) s.heap a o):Inv X pins Z (upd H a o) s:=by
 have ne:∀b o,X.s₀.heap.get? b=some o->b∉X.ex->b≠a:=λb o q hx z=>n (by rw[<-z];exact⟨⟨o,q⟩,hx⟩);have nt:∀b u,H b=some u->b≠a:=λb u q z=>by rw[z,hn] at q;cases q
 refine⟨I.ok,I.os,I.bare,⟨I.base.keep,I.base.slot,λb o q U hx=>by rw[aP (ne b o q hx)];exact I.base.free b o q U hx,I.base.there,λb xs q=>?_,λb o u q=>?_,λb ps q=>?_⟩,I.loc,I.cell,by rw[aP (BQ hl)];exact I.free,λx c e=>by rw[aP (W x c e)];exact I.freeC x c e,λp B=>?_,λb u q=>?_,I.len⟩;have z:=I.base.tups b xs q;rw[aP (nt b _ z)];exact z;have z:=I.base.frzs b o u q;rw[aP (nt b _ z)];exact z;obtain⟨more,z⟩:=I.base.tbls b ps q;exact⟨more,by rw[aP (nt b _ z)];exact z⟩;obtain⟨L,n1,G,nf,d⟩:=I.pin p B;exact⟨L,by rw[aP λz=>hp (A0.mpr ⟨p,B,z⟩)];exact n1,G,nf,d⟩;by_cases hb:b=a;subst hb;rw[bE] at q;cases q;exact new;rw[aP hb] at q;exact(I.hok b u q).stay (λ_ _ _ g=>g) (λc g=>by rw[aP (nt c _ g)];exact g) λc xs g=>by rw[aP (nt c _ g)];exact g
theorem aDy{E:Value->Ad->Prop}{Q:Unit->Ad->Prop}(I:Inv X pins Z H s)(hN:X.N.Nodup)(hi:X.N[i]? = some x)(hk:X.env.scope.names.lookup x=some .local)(hv:Z[i]? = some (some v))
 (h:∀s',Inv X pins (Z.set i none) H s'->Q () s'):An M A (unbindName X.env x) Q E s:=by
 obtain⟨m,hn,hl⟩:=id I.loc;obtain⟨u,r,lk⟩:=hl i x v hi hv (.inl hk);have hm:m x=some u:=by
  rcases lk with⟨_,e⟩|⟨k,_⟩
  exact e;have k':X.env.scope.names.lookup x=some .cell\/X.env.scope.names.lookup x=some .free:=k;rw[hk] at k';rcases k' with z|z <;> cases z
 refine wpAny_unbindName_local hk hn hm (by rw[I.ok.kind];rfl) λh' u' q0 hs=>?_;obtain⟨oL,_,_,q1,_⟩:=id hn;have B:HOk X.prog X.w H h':=λb ob e=>by refine(I.hok b ob e).stay (λc w' U q=>(hs.2 c ?_).trans q) (λ_ q=>q) λ_ _ q=>q;rintro rfl;rcases U with rfl|U;rw[I.free] at e;cases e;rw[I.free] at U;cases U
 refine h { s with heap:=h' } ⟨I.ok,I.os,I.bare,⟨λb o e n hb hx=>?_,λb o e n hb hx=>?_,I.base.free,λb o e hx=>?_,I.base.tups,I.base.frzs,I.base.tbls⟩,⟨_,q0,λj y v' G L e3=>?_⟩,λy c e=>?_,I.free,I.freeC,λp hp=>?_,B,by simpa using I.len⟩;exact(hs.2 b (Aw (A1 (Ag e) I.ok.above))).trans (I.base.keep b o e n hb hx);obtain⟨sl,G⟩:=I.base.slot b o e n hb hx;exact⟨sl,(hs.2 b (Aw (A1 (Ag e) I.ok.above))).trans G⟩;obtain⟨o',G⟩:=I.base.there b o e hx;exact⟨o',(hs.2 b (Aw (A1 (Ag e) I.ok.above))).trans G⟩;by_cases W:j=i;subst W;rw[AK (by rw[I.len];exact(Ax.mp hi).1)] at L;cases L;rw[Au (BQ W)] at L;obtain⟨w',r',q⟩:=hl j y v' G L e3;refine⟨w',r',?_⟩;rcases q with⟨k,e⟩|⟨k,c,e,z⟩
 refine .inl ⟨k,?_⟩;have:y≠x:=λe=>W (qP hN G (e▸hi));simp[this,e];exact .inr ⟨k,c,e,z.sameBut hs (I.cne y c e)⟩;obtain⟨w',z⟩:=I.cell y c e;exact⟨w',z.sameBut hs (I.cne y c e)⟩;obtain⟨e,n,ne,nf,d⟩:=I.pin p hp;exact⟨(hs.2 p.1 ne).trans e,n,ne,nf,d⟩
noncomputable def rE(K:Ai)(C1 C:Addr):Option Bool:=match K.lookup C1 with|some ⟨_,_,.cls cd,_⟩=>some (cd.mro.contains (.ref C))|_=>none
theorem yW{h:Heap}{g:Array Ek}{d:Ky}{t:Nat}{os:FH}{e C C1:Addr}{oe:Obj}{b:Bool}{Q:Bool->Ad->Prop}
 {nm q:Str} {N:Addr} {bs bm:List Value} {hdct:Bool} {sn:List Str} {sub:List Value} {ab:Bool} {col:Option Bool} {dd:Option Addr} {k0 k1 k2 k3 k5:Option Value} {U:String}
 {w6 q':Str} {N':Addr} {q3 G:List Value} {L:Bool} {w7:List Str} {q1:List Value} {q2:Bool} {W:Option Bool} {q4:Option Addr} {q8 q9 w3 w4 w5:Option Value} {B:String}
 (q5:h.get? C1=some (CU nm q C1 N bs bm hdct sn sub ab col dd k0 k1 k2 k3 k5 U)) (hC:h.get? C=some (CU w6 q' C N' q3 G L w7 q1 q2 W q4 q8 q9 w3 w4 w5 B))
 (he:h.get? e=some oe) (q0:oe.cls=.ref C1) (I:G.contains (.type "BaseException")=true) (q7:(Bu C1::bm).contains (.ref C)=b)
 (hq:Q b ⟨h,g,d,t,os⟩):An M A (excMatches (.ref e) (.ref C)) Q E ⟨h,g,d,t,os⟩:=by
 have q6:(Bu C::G).contains (.type "BaseException")=true:=by rw[GJ,I,E0]
 have f:=tc_notTuple;cases b <;> (repeat (first|(with_reducible refine B3 he ?_;rw[q0])|with_reducible refine B3 hC ?_|(with_reducible refine D7 hC ?_;rw[q6])|(with_reducible refine D7 q5 ?_;rw[q7])|wp_step)) <;> exact hq
theorem aHV(r:Rec h a cls T)(W:kC cls=.ref C):eC P w H h a (excO a C (kD cls)):=by obtain⟨L,vs,U,B,G,hd,_⟩:=r;refine⟨⟨L,U,B.trans W,?_,G⟩,⟨L,U⟩,λ_ _ ⟨o',z,I⟩ k=>⟨o',k o' z,I⟩⟩;obtain⟨c,dd,dt,sl⟩:=L;subst hd;rfl
abbrev Cx.inTry(X:Cx)(pins:List (Addr×Obj))(E:Value->Ad->Prop):Cx:={ X with pn:=X.pn++pins,xe:=E }
abbrev Cx.inExc(X:Cx)(e:Value):Cx:={ X with A:=X.A.mark (some e),calm:=false,xe:=λ_ _=>False }
theorem Inv.inTry(I:Inv X pins Z H s):Inv (X.inTry pins E) [] Z H s:=
 ⟨⟨I.ok.mod,I.ok.kind,I.ok.glob,I.ok.blt,I.ok.above,I.ok.inj,I.ok.has,I.ok.cab,I.ok.hd,I.ok.frames,I.ok.stk,I.ok.exf,I.ok.bs,I.ok.bsz,I.ok.noex,I.ok.exfs,I.ok.funs,I.ok.frf⟩,
  I.os,I.bare,I.base,I.loc,I.cell,I.free,I.freeC,λp hp=>I.pin p (by simpa using hp),I.hok,I.len⟩
theorem Inv.outTry(I:Inv (X.inTry pins E) pins' Z H s):Inv X pins Z H s:=
 ⟨⟨I.ok.mod,I.ok.kind,I.ok.glob,I.ok.blt,I.ok.above,I.ok.inj,I.ok.has,I.ok.cab,I.ok.hd,I.ok.frames,I.ok.stk,I.ok.exf,I.ok.bs,I.ok.bsz,I.ok.noex,I.ok.exfs,I.ok.funs,I.ok.frf⟩,
  I.os,I.bare,I.base,I.loc,I.cell,I.free,I.freeC,λp hp=>I.pin p (Bc _ hp),I.hok,I.len⟩
theorem Inv.inExc(I:Inv X pins Z H s):Inv (X.inExc e) pins Z H s:=
 ⟨⟨I.ok.mod,I.ok.kind,I.ok.glob,I.ok.blt,I.ok.above,I.ok.inj,I.ok.has,I.ok.cab,(λz=>nomatch z),I.ok.frames,I.ok.stk,I.ok.exf,I.ok.bs,I.ok.bsz,I.ok.noex,I.ok.exfs,I.ok.funs,I.ok.frf⟩,
  I.os,I.bare,I.base,I.loc,I.cell,I.free,I.freeC,I.pin,I.hok,I.len⟩
theorem Inv.outExc(c:X.calm=true->X.A.handled=none)(I:Inv (X.inExc e) pins Z H s):Inv X pins Z H s:=
 ⟨⟨I.ok.mod,I.ok.kind,I.ok.glob,I.ok.blt,I.ok.above,I.ok.inj,I.ok.has,I.ok.cab,c,I.ok.frames,I.ok.stk,I.ok.exf,I.ok.bs,I.ok.bsz,I.ok.noex,I.ok.exfs,I.ok.funs,I.ok.frf⟩,
  I.os,I.bare,I.base,I.loc,I.cell,I.free,I.freeC,I.pin,I.hok,I.len⟩
theorem SP.outTry(h:SP (X.inTry pins E) [] D f s'):SP X pins D f s':=by
 cases f with
 | next=>obtain⟨Z',H',I,q⟩:=h;exact⟨Z',H',I.outTry,q⟩|brk=>obtain⟨Z',H',I,q⟩:=h;exact⟨Z',H',I.outTry,q⟩|cont=>obtain⟨Z',H',I,q⟩:=h;exact⟨Z',H',I.outTry,q⟩|ret u=>obtain⟨v,Z',H',I,r,q⟩:=h;exact⟨v,Z',H',I.outTry,r,q⟩
theorem aKK{K:Ai}{h:Heap}{o:Obj}(G:K.In h)(B:rE K C1 C=some b)(q:h.get? C1=some o):∃cd,o.data=.cls cd/\cd.mro.contains (.ref C)=b:=by unfold rE at B;split at B;rename_i c d cd sl I;have:=G _ _ I;rw[q] at this;cases this;exact⟨cd,rfl,Aq B⟩;cases B
theorem aHW{x n:Str}{C C1 a T1:Addr}{cls:Value}{b:Bool}{np hp:Ht}{s0:Cj}{G:List Cj}{rest:List ExceptHandler}{pins:List (Addr×Obj)}{Z':St}{H':Hp}{s2:Ad}{D:Ends}{jn:Nat}{ts:TS}
 (hg:Gl X x) (hm:X.mg x=some (.ref C)) (hd:(x==("__debug__" : Str))=false) (qC:lV X.K C=true) (q1:lV X.K C1=true) (q7:rE X.K C1 C=some b)
 (hN:X.N.Nodup) (I:X.N[jn]? = some n) (hn:X.env.scope.names.lookup n=some .local)
 (U:Inv X pins Z' H' s2) (r1:Rec s2.heap a cls (some T1)) (hk:kC cls=.ref C1) (q3:∀b,(b=a\/some T1=some b)->¬ (Old X.s₀.heap b/\b∉X.ex)/\H' b=none/\b∉pinA X pins)
 (q8:b=true->PSs (X.inExc (.ref a)) (s0::G) ts) (hq:b=true->H' a=none->ts { nx:=λZ5 H5=>D.nx ((Z5.set jn (some .non)).set jn none) H5,rt:=λ_ _=>False,bk:=λ_ _=>False,ct:=λ_ _=>False } (Z'.set jn (some (.ref a))) (upd H' a (excO a C1 (kD cls))))
 (hr:b=false->An (Ay X.prog X.w) X.A (IK (.ref a) X.env rest) (SP X pins D) X.xe s2) :
 An (Ay X.prog X.w) X.A (IK (.ref a) X.env (.ExceptHandler (some (.Name x np)) (some n) (s0::G) hp::rest)) (SP X pins D) X.xe s2:=by
 refine wpAny_handleBy_cons (codeAny_handlers_test (kN U.inExc hg hm ?_ hd)) (by intro q;cases q);obtain⟨w8,N1,x7,v0,z0,q5,v2,w4,w6,q9,z2,z6,z8,x0,x3,x5,W,_⟩:=wH U.kIn q1;obtain⟨w9,N2,x8,v1,z1,q6,v3,w5,w7,w3,z3,z7,z9,x1,x4,x6,q4,TL⟩:=wH U.kIn qC;obtain⟨cd,e1,e2⟩:=aKK U.kIn q7 W;cases e1;obtain⟨oe,vs,he,hc,_,z5,hT⟩:=id r1;refine yW W q4 he (hc.trans hk) (TL.hasType rfl) e2 ?_;cases b with
 | false=>exact hr rfl|true=>
  refine codeAny_handlers_suite_as (aEX r1 λh2 x2 r2=>?_);have I3:=Inv.note U x2 (λb hb=>by cases hb) (λb hb=>.inr rfl) r1 q3;obtain⟨x9,v4,q2,z4,_,q0,_⟩:=id r2;have nl:a≠X.env.locals:=λz=>by obtain⟨m,⟨o,es,ep,L,B,_⟩,_⟩:=I3.loc;rw[<-z] at L;rw[q2] at L;cases L;rw[q0] at B;cases B
  have nc:∀x c,X.env.cells.lookup x=some c->c≠a:=λx c e z=>by obtain⟨v,o,L,B⟩:=I3.cell x c e;rw[z] at L;rw[q2] at L;cases L;rw[q0] at B;cases B
  have na:=q3 a (.inl rfl);refine mM (v:=.ref a) (I3.track na.1 na.2.1 na.2.2 nl nc (aHV r2 hk)) hN I (.inl hn) rfl (λs4 I5=>?_) (.inr hn);refine Bk (q8 rfl pins s4 _ _ _ I5.inExc (hq rfl na.2.1)) (λf s5 q=>?_) (λ_ _ z=>z.elim);cases f with
  | next=>obtain⟨Z5,H5,I6,e5⟩:=q;have I6:=I6.outExc U.ok.hd;refine Aa (wpAny_bindName (mM (v:=.non) I6 hN I (.inl hn) rfl (λs6 I7=>?_) (.inr hn)));refine Eh (aDy I7 hN I hn (AK (by rw[I6.len];exact(Ax.mp I).1)) λs7 I8=>?_);exact⟨_,_,I8,e5⟩|brk=>obtain⟨_,_,_,z⟩:=q;exact z.elim|cont=>obtain⟨_,_,_,z⟩:=q;exact z.elim|ret u=>obtain⟨_,_,_,_,_,z⟩:=q;exact z.elim
noncomputable def iX(cells:List (Str×Addr)):List (Str×CA)->List (Str×Addr)->List (Str×Addr)
 | [],acc=>acc|(n,k)::r,acc=>if k==.free then iX cells r ((n,(cells.lookup n).getD 0)::acc) else iX cells r acc
theorem clos_mem{cells:List (Str×Addr)}:∀{names:List (Str×CA)} {B:List (Str×Addr)} {p:Str×Addr},p∈iX cells names B->p∈B\/((p.1,Bz)∈names/\p.2=(cells.lookup p.1).getD 0)
 | [],_,_,h=>.inl h|(n,k)::r,B,p,h=>by unfold iX at h;by_cases G:(k==Bz)=true;rw[if_pos G] at h;rcases clos_mem h with q|q;rcases As.mp q with q|q;subst q;have:=eq_of_beq G;subst this;exact .inr ⟨Ar,rfl⟩;exact .inl q;exact .inr ⟨Aj _ q.1,q.2⟩;rw[if_neg G] at h;rcases clos_mem h with q|q;exact .inl q;exact .inr ⟨Aj _ q.1,q.2⟩
theorem rG{cells:List (Str×Addr)}:∀{names:List (Str×CA)} {B:List (Str×Addr)} {p:Str×Addr},p∈B->p∈iX cells names B
 | [],_,_,h=>h|(n,k)::r,B,p,h=>by unfold iX;by_cases G:(k==Bz)=true;rw[if_pos G];exact rG (Aj _ h);rw[if_neg G];exact rG h
theorem mU{cells:List (Str×Addr)}:∀{names:List (Str×CA)} {B:List (Str×Addr)} {n:Str},(n,Bz)∈names->(n,(cells.lookup n).getD 0)∈iX cells names B
 | [],_,_,h=>by simp at h|(m,k)::r,B,n,h=>by unfold iX;rcases As.mp h with q|q;cases q;exact rG Ar;by_cases G:(k==Bz)=true;rw[if_pos G];exact mU q;rw[if_neg G];exact mU q
theorem fR{α:Type}:∀{l:List (Str×α)} {x:Str} {a:α},(x,a)∈l->∃b,l.lookup x=some b
 | (y,b)::r,x,a,h=>by
  rw[Ed];cases hx:x==y with
  | true=>exact⟨b,rfl⟩|false=>rcases As.mp h with q|q;cases q;simp at hx;exact fR q
theorem dB{cells:List (Str×Addr)}(G:∀n,(n,Bz)∈names->∃c,cells.lookup n=some c)(h:(iX cells names []).lookup x=some c):cells.lookup x=some c:=by
 rcases clos_mem (B0 h) with q|⟨I,B⟩
 simp at q;obtain⟨L,e⟩:=G x I;simp only at B;rw[e] at B;rw[e,B];rfl
theorem jL{scope:DA}{env:HS}(W:∀n,(n,Bz)∈scope.names->∃c,env.cells.lookup n=some c):closureFor scope env=pure (iX env.cells scope.names []):=by
 have go:∀l B,(∀n,(n,Bz)∈l->∃c,env.cells.lookup n=some c) ->
  (forIn l B (λx r=>(match x with|(name,kind)=>if (kind==Bz)=true then do let __do_lift<-cellOf env name;pure (Dh ((name,__do_lift)::r)) else pure (Dh r):Kz (ForInStep (List (Str×Addr))))))=(pure (iX env.cells l B):Kz (List (Str×Addr))):=by
  intro l
  induction l with
  | nil=>intro B _;rfl|cons p r L=>
   intro B G;obtain⟨n,k⟩:=p;rw[FO];unfold iX;by_cases I:(k==Bz)=true;have:=eq_of_beq I;subst this;obtain⟨c,e⟩:=G n Ar;have U:cellOf env n=pure c:=by unfold cellOf;rw[e]
   simp only[ U];rw[e];exact L _ λm hm=>G m (Aj _ hm);simp only[I];exact L _ λm hm=>G m (Aj _ hm)
 unfold closureFor;exact(bind_pure _).trans (go scope.names [] W)
theorem jW(I:Nat->Ad->Prop)
 (q7:∀n s,I n s->An (Ay prog w) A (Dm it) (λr B=>match r with
  | none=>R (.ok .next) B|some v=>An (Ay prog w) A (Eo target it v) (λ_ G=>An (Ay prog w) A (Iw target env v) (λ_ q0=>
   An (Ay prog w) A (forIn ifs true λc r=>if r=true then do let ok<-Iu c env (De c env);pure (Dh ok) else pure (Dh r)) (λok L=>
    if ok=true then An (Ay prog w) A (De elt env) (λx q1=>
     An (Ay prog w) A (call (.builtin "list.append") [acc,x]) (λ_ q2=>∃m,m<n/\I m q2) (λ_ _=>False) q1) (notedBy (Ay prog w) A env λe s'=>R (.error e) s') L
    else ∃m,m<n/\I m L) (λ_ _=>False) q0) (λ_ _=>False) G) (λ_ _=>False) B) (λ_ _=>False) s)
 (n:Nat) (h:I n s) :
 DF (Ay prog w) A (.compLoop (.ListComp elt [⟨target,iter,ifs,0⟩] scope pos) 0 it acc env) R s:=by
 refine codeAny_loop rfl I (λn s hI=>?_) n h;refine wpAny_noted ?_;refine Aa (Cd (Aa (Bk (q7 n s hI) (λr B U=>?_) λ_ _ h'=>h'.elim)));cases r with
 | none=>exact Ac U|some v=>
  refine Aa (Bk U (λ_ G q3=>?_) λ_ _ h'=>h'.elim);refine Aa (Bk q3 (λ_ q0 q4=>Aa (Bk q4 (λok L W=>?_) λ_ _ h'=>h'.elim)) λ_ _ h'=>h'.elim);cases ok with
  | false=>exact Ac ⟨rfl,W⟩|true=>exact Aa (Aa (Bk W (λx q1 q5=>Aa (Bk q5 (λ_ q2 q6=>Ac (Ac ⟨rfl,q6⟩)) λ_ _ h'=>h'.elim)) λ_ _ h'=>h'))
theorem pO{env env':HS}(h:env'.frame=env.frame):Dj e env'=Dj e env:=by unfold Dj PySem.frameOf;rw[h]
noncomputable def cX(X:Cx)(scope:DA)(N':List Str)(C:Addr)(s₀:Ad)(H₀:Hp)(ex:List Addr):Cx:=
 { X with env:=Gc scope (iX X.env.cells scope.names []) C X.env,N:=N',s₀:=s₀,H₀:=H₀,outer:=X.stack,ex:=ex,fn:=λ_=>false,pn:=[],xe:=λ_ _=>False }
def PTs(X:Cx)(ifs:List AE)(t:TT):Prop:=
 ∀(pins:List (Addr×Obj)) (s:Ad) (Z:St) (H:Hp) (Q:Bool->Hp->Prop),Inv X pins Z H s->t Z H Q ->
  An (Ay X.prog X.w) X.A (forIn ifs true λc r=>if r=true then do let ok<-Iu c X.env (De c X.env);pure (Dh ok) else pure (Dh r)) (TP X pins Z Q) X.xe s
theorem aHX:PTs X [] (λ_ H Q=>Q true H):=λpins s Z H Q I h=>Ac ⟨H,I,h⟩
theorem aHY(h:PT X c t):PTs X [c] t:=λpins s Z H Q I B=>wpAny_tests_one (h pins s Z H Q I B)
structure dS (X:Cx) (scope:DA) (k:Nat) (caps:List Nat) (N':List Str):Prop where
 kind:scope.kind=.function
 nocell:∀y∈scope.names,y.2≠.cell
 loc:∀y∈scope.names,y.2=.local->scope.names.lookup y.1=some .local
 free:∀n,(n,Bz)∈scope.names->X.env.kindOf n=some .cell\/X.env.kindOf n=some .free
 len:N'.length=k+caps.length
 cap:∀j i,caps[j]? = some i->∃x,N'[k+j]? = some x/\X.N[i]? = some x/\scope.names.lookup x=some .free/\X.env.kindOf x=some .cell
 ndp:X.N.Nodup
def lW(k:Nat)(caps:List Nat)(Z:St):St:=Af k none++caps.map λi=>(Z[i]?).getD none
def aEY(WX:Value->St->Hp->Prop)(k:Nat)(caps:List Nat)(wi:TI)(g:TG)(tt:TT)(te:(Value->St->Hp->Prop)->TE):TE:=λZ H Q=>wi Z H λJ H1=>
 ∃W0:Nat->Nat->List V->St->Hp->Prop,(∃m,W0 0 m [] (lW k caps Z) H1)/\∀i m ys Z1 H,W0 i m ys Z1 H ->
  (J.stop i H/\ys.length<=sizeLine/\∀p,H p=none->Q (.ref p) (upd H p (.lst ys))) \/
  (J.go i H/\ys.length<sizeLine/\∀x H',J.yld i H x H'->g x Z1 H' λZ2 H2=>tt Z2 H2 λb H3=>
   if b=true then te (λc _ H=>WX c Z H) Z2 H3 λy H4=>∃m',m'<m/\W0 (i+1) m' (ys++[y]) Z2 H4 else ∃m',m'<m/\W0 (i+1) m' ys Z2 H3)
theorem HOk.track(ok:HOk P w H h)(n:H a=none)(new:eC P w (upd H a o) h a o):HOk P w (upd H a o) h:=λb u e=>by by_cases hb:b=a;subst hb;rw[bE] at e;cases e;exact new;rw[aP hb] at e;exact(ok b u e).stay (λ_ _ _ q=>q) (λc q=>by rw[aP (bO q n)];exact q) λc xs q=>by rw[aP (bO q n)];exact q
abbrev eD(its:List Value)(n:Nat):Obj:={ cls:=.type "list",data:=.seq its.toArray n }
theorem Inv.cellLt(I:Inv X pins Z H s)(e:X.env.cells.lookup x=some c):c<s.heap.objs.size:=by obtain⟨v,q⟩:=I.cell x c e;exact q.lt
theorem gY:∀{l:List (Str×CA)} {x:Str} {k:CA},l.lookup x=some k->(x,k)∈l:=λh=>B0 h
theorem relabel_lookup{env:HS}:∀{names:List (Str×CA)} {x:Str} {k:CA},
 (names.map λ(n,k)=>if (k==Bz&&env.scope.kind==.function&&env.kindOf n==some .cell) then (n,NameKind.cell) else (n,k)).lookup x=some k ->
 (k=.cell/\names.lookup x=some .free/\env.kindOf x=some .cell)\/names.lookup x=some k
 | [],_,_,h=>by simp at h|(n,k')::r,x,k,h=>by
  have G:=@relabel_lookup env r x k;rw[mC] at h;by_cases B:(k'==Bz&&env.scope.kind==.function&&env.kindOf n==some .cell)=true;simp only[B,if_true,Ed] at h ⊢;cases hx:x==n with
  | true=>rw[hx] at h;simp only at h ⊢;simp only[bA] at B;have I:=eq_of_beq hx;subst I;cases h;exact .inl ⟨rfl,by rw[(eq_of_beq B.1.1)],(eq_of_beq B.2)⟩|false=>rw[hx] at h;exact G h
  simp only[Bool.not_eq_true] at B;simp only[B,if_false,Ed,bF] at h ⊢;cases hx:x==n with
  | true=>rw[hx] at h;exact .inr h|false=>rw[hx] at h;exact G h
theorem aQl(B:dS X scope k caps N')(I:Inv X pins Z H s)(f:∀b∈fp,mO X pins H b)(W:∀b∈fp,b<s.heap.objs.size) :
 (cX X scope N' (s.heap.objs.size+1) { s with heap:=s.heap.push (eD [] 0) } H (s.heap.objs.size::fp)).Ok:=by
 have G:∀b∈frs X.stack,∃o,s.heap.get? b=some o:=λb hb=>by obtain⟨_,o,ho,_⟩:=I.stack.mem hb;exact⟨o,ho⟩
 refine⟨I.ok.mod,?_,I.ok.glob,I.ok.blt,?_,λx y c h1 h2=>?_,λx hx=>?_,λx c h _=>?_,I.ok.hd,I.ok.frames,.inl rfl,λb hb=>?_,λb o e=>?_,?_,λb o e hb=>?_,λb hb=>?_,?_,I.stkFree⟩;exact B.kind;show(s.heap.push (eD [] 0)).objs.size<=s.heap.objs.size+1;rw[AX];exact Al _;exact I.ok.inj x y c (dB (λn L=>I.ok.has n (B.free n L)) h1) (dB (λn L=>I.ok.has n (B.free n L)) h2);have fr:(x,Bz)∈scope.names:=by rcases hx with q|q;rcases relabel_lookup q with⟨_,z,_⟩|z;exact gY z;exact absurd rfl (B.nocell _ (gY z));rcases relabel_lookup q with⟨z,_⟩|z;cases z;exact gY z
 obtain⟨c,e⟩:=fR (mU fr);exact⟨c,e⟩;cases(h);refine⟨?_,λx c e=>?_⟩;show b≠s.heap.objs.size+1;rcases As.mp hb with z|z;rw[z];exact Aw (Bx _);exact Aw (B4 (W b z));have U:=dB (λn L=>I.ok.has n (B.free n L)) e;rcases As.mp hb with z|z;rw[z];exact Aw (I.cellLt U);exact(f b z).2.2.2.2.1 x c U;exact⟨(λb o e=>Ab _ e) b o (I.bs b o e).1,(I.bs b o e).2⟩;show X.base.objs.size<=(s.heap.push (eD [] 0)).objs.size;rw[AX];exact Hi (AJ I.ok.bsz I.sz);have lt:=Ag e;rcases As.mp hb with z|z;subst z;exact absurd (A1 lt (AJ I.ok.bsz I.sz)) (AU _);rcases(f b z).2.2.2.1 with q|q;exact I.ok.noex b o e q;exact absurd (A1 lt (AJ I.ok.bsz q)) (AU _);show b∉frs X.stack;intro hs;rcases As.mp hb with z|z;subst z;obtain⟨o,e⟩:=G _ hs;exact absurd (Ag e) (AU _);rcases As.mp (I.stkSub b hs) with q|q;exact(f b z).2.1 q;exact(f b z).2.2.1 q;exact I.stack.of_keeps λb o e _=>⟨o,(λb o e=>Ab _ e) b o e,rfl⟩
theorem aEZ(I:dS X scope k caps N')(h:(lW k caps Z)[j]? = some (some v)):∃G i,j=k+G/\caps[G]? = some i/\Z[i]? = some (some v):=by
 unfold lW at h;by_cases B:j<k;rw[AQ (by simpa using B),BO] at h;split at h <;> cases h;rw[AD (by simpa using B),A9,A3] at h;cases e:caps[j-k]? with
 | none=>rw[e] at h;cases h|some i=>
  rw[e] at h;have h':(Z[i]?).getD none=some v:=Aq h;refine⟨j-k,i,by omega,e,?_⟩;cases q:Z[i]? with
  | none=>rw[q] at h';cases h'|some z=>rw[q] at h';exact congrArg some h'
theorem aNw(L:dS X scope k caps N')(I:Inv X pins Z H s)(f:∀b∈fp,mO X pins H b)(hf:∀b∈fp,b<s.heap.objs.size){B:Heap}{tk:Nat}
 (q2:B.Ns (s.heap.objs.size+1) λ_=>none) (hk:∀b o,(s.heap.push (eD [] 0)).get? b=some o->B.get? b=some o) :
 Inv (cX X scope N' (s.heap.objs.size+1) { s with heap:=s.heap.push (eD [] 0) } H (s.heap.objs.size::fp)) [] (lW k caps Z) H { s with heap:=B,toks:=tk }:=by
 have G:∀{c:Addr} {v:Option Value},s.heap.IsCell c v->B.IsCell c v:=λ{c v} ⟨o,e,d⟩=>⟨o,(λb o e=>hk b o (Ab _ e)) _ _ e,d⟩
 refine⟨aQl L I f hf,rfl,I.bare,Un.kept hk,⟨_,q2,λj x v e1 e2 e3=>?_⟩,λx c e=>?_,?_,λx c e=>?_,λp hp=>absurd (show p∈([]:List (Addr×Obj)) from hp) (by simp),I.hok.kept (λb o e=>hk b o (Ab _ e)),?_⟩;obtain⟨j',i,ej,ec,es⟩:=aEZ L e2;obtain⟨y,h1,h2,h3,h4⟩:=L.cap j' i ec;have W:N'[j]? = some x:=e1;rw[ej,h1] at W;have ey:=Aq W;subst ey;obtain⟨m,U,hl⟩:=I.loc;obtain⟨u,ru,lk⟩:=hl i y v h2 es (.inr (.inl h4));rcases lk with⟨k1,_⟩|⟨_,c,q1,hc⟩
 rw[h4] at k1;cases k1;refine⟨u,ru,.inr ⟨?_,c,?_,G hc⟩⟩;have q0:=e3;rcases q0 with z|z|z;rcases relabel_lookup z with⟨z,_⟩|z;cases z;rw[h3] at z;cases z;exact .inl z;exact .inr z;obtain⟨c',e⟩:=fR (mU (gY h3));have e':=dB (λn U=>I.ok.has n (L.free n U)) e;rw[q1] at e';cases e';exact e;obtain⟨v,q⟩:=I.cell x c (dB (λn U=>I.ok.has n (L.free n U)) e);exact⟨v,G q⟩;exact I.hok.fresh (CC _);exact I.freeC x c (dB (λn U=>I.ok.has n (L.free n U)) e);show(lW k caps Z).length=N'.length;unfold lW;rw[lA,A9,lM,L.len]
theorem yX{tg q5 elt:AE}{w9:List AE}{pos:Ht}{g:TG}{tt:TT}{te:(Value->St->Hp->Prop)->TE}{WX:Value->St->Hp->Prop}{it:Addr}{tn:Nat->Heap->Prop}{J:It}{RR:Value->Addr->J3->Ad->Prop}{E:Value->Ad->Prop}{Q:VK}
 (CS:dS X scope k caps N') (hc:X.calm=true) (I:Inv X pins Z H s) (T:vR X.prog X.w X.K tg J fp it tn) (st:tn 0 s.heap) (f:∀b∈fp,mO X pins H b)
 (v4:∀C s₀ H₀ ex,PG (cX X scope N' C s₀ H₀ ex) tg g/\PTs (cX X scope N' C s₀ H₀ ex) w9 tt/\∀pl E W0,Di (Ay X.prog X.w) X.A (cX X scope N' C s₀ H₀ ex).env E->Rs ((cX X scope N' C s₀ H₀ ex).inTry pl E) W0->PE ((cX X scope N' C s₀ H₀ ex).inTry pl E) elt (te W0))
 (v3:∀c Z H,WX c Z H->X.stack=X.env::X.outer/\RX X c Z H)
 (hw:∃W0:Nat->Nat->List V->St->Hp->Prop,(∃m,W0 0 m [] (lW k caps Z) H)/\∀i m ys Z1 H,W0 i m ys Z1 H ->
  (J.stop i H/\ys.length<=sizeLine/\∀p,H p=none->Q (.ref p) (upd H p (.lst ys))) \/
  (J.go i H/\ys.length<sizeLine/\∀x H',J.yld i H x H'->g x Z1 H' λZ2 H2=>tt Z2 H2 λb H3=>
   if b=true then te (λc _ H=>WX c Z H) Z2 H3 λy H4=>∃m',m'<m/\W0 (i+1) m' (ys++[y]) Z2 H4 else ∃m',m'<m/\W0 (i+1) m' ys Z2 H3))
 (hE:∀D C L H' m a cls T,Inv X pins Z H' L->L.heap.Ns C m->s.heap.objs.size<C->(∀(Z':St) (G:Ad) (h':Heap),Inv X pins Z' H' G->Cc C G.heap h'->Inv X pins Z' H' { G with heap:=h' })->Rec L.heap a cls (some T) ->
  (∀b,(b=a\/some T=some b)->¬ (Old X.s₀.heap b/\b∉X.ex)/\H' b=none/\b∉pinA X pins)->RX X cls Z H'->RR (.ref D) C (.error (.ref a)) L)
 (hR:∀D C L H' m,Inv X pins Z H' L->L.heap.Ns C m->s.heap.objs.size<C->(∀(Z':St) (G:Ad) (h':Heap),Inv X pins Z' H' G->Cc C G.heap h'->Inv X pins Z' H' { G with heap:=h' })->Q (.ref D) H'->RR (.ref D) C (.ok .next) L) :
 An (Ay X.prog X.w) X.A (newList []) (λz9 x6=>An (Ay X.prog X.w) X.A (newFunctionEnv scope X.env.globals (iX X.env.cells scope.names []) [] X.env.qual none .none (some X.env)) (λz3 x7=>
  DF (Ay X.prog X.w) X.A (.compStart (.ListComp elt [⟨tg,q5,w9,0⟩] scope pos) 0 (.ref it) z9 { z3 with scope:=J9 scope X.env }) (RR z9 z3.locals) x7) E x6) E s:=by
 obtain⟨W0,⟨m0,w0⟩,x8⟩:=hw;have hf:∀b∈fp,b<s.heap.objs.size:=λb hb=>by obtain⟨o,e,_⟩:=T.obj 0 _ st b hb;exact Ag e
 refine Be (wpAny_newFunctionEnv CS.nocell (by intro y hy;simp at hy) (λq0 w5 w6=>?_) CS.kind);have q2:(s.heap.push (eD [] 0)).objs.size=s.heap.objs.size+1:=AX _ _;have v6:q0.Ns (s.heap.objs.size+1) λ_=>none:=by have:=w5;rw[show({ s with heap:=s.heap.push (eD [] 0) }:Ad).heap.objs.size=s.heap.objs.size+1 from q2] at this;exact this
 have hk:∀b o,(s.heap.push (eD [] 0)).get? b=some o->q0.get? b=some o:=λb o e=>w6.extBut b o (Aw (by have:=Ag e;rw[q2] at this;show b<(s.heap.push (eD [] 0)).objs.size;rw[q2];exact this)) (Ab _ e);have x5:∀b∈frs X.stack,b<s.heap.objs.size:=λb hb=>by obtain⟨_,o,ho,_⟩:=I.stack.mem hb;exact Ag ho
 have z4:∀pl,(∀p∈pl,p.1=s.heap.objs.size)->∀{H':Hp},(∀b∈fp,H' b=none)->∀b∈fp,mO (cX X scope N' (s.heap.objs.size+1) { s with heap:=s.heap.push (eD [] 0) } H (s.heap.objs.size::fp)) pl H' b:=by
  intro pl z6 H' hn b hb;refine⟨hn b hb,(λ{b} hb=>Aw (B4 hb)) (hf b hb),λz=>?_,.inl (Aj _ hb),λx c e=>(f b hb).2.2.2.2.1 x c (dB (λn hn=>I.ok.has n (CS.free n hn)) e),λp hp z=>?_⟩;rcases As.mp (I.stkSub b z) with q|q;exact(f b hb).2.1 q;exact(f b hb).2.2.1 q;have v7:p∈pl:=by simpa[cX] using hp
  rw[z6 p v7] at z;exact absurd (hf b hb) (by rw[<-z];exact AU _)
 have w4:∀{Z':St} {H':Hp} {L:Ad} {B:List Value} {n:Nat} {pl:List (Addr×Obj)},Inv (cX X scope N' (s.heap.objs.size+1) { s with heap:=s.heap.push (eD [] 0) } H (s.heap.objs.size::fp)) pl Z' H' L ->
  L.heap.get? s.heap.objs.size=some (eD B n)->H' s.heap.objs.size=none->Inv (cX X scope N' (s.heap.objs.size+1) { s with heap:=s.heap.push (eD [] 0) } H (s.heap.objs.size::fp)) [(s.heap.objs.size,eD B n)] Z' H' L:=by
  intro Z' H' L B n pl J e nn;refine J.pins_of λp hp=>?_;have:p=(s.heap.objs.size,eD B n):=by simpa using hp
  subst this;refine⟨e,nn,Aw (Bx _),λz=>absurd (x5 _ z) (AU _),λv z=>by cases z⟩
 have nb:∀{b:Addr} {o:Obj},s.heap.get? b=some o->b∉fp->b∉s.heap.objs.size::fp:=λ{b o} e hb z=>by rcases As.mp z with z|z;exact absurd (Ag e) (by rw[z];exact AU _);exact hb z
 have z2:∀{H':Hp},H' (s.heap.objs.size+1)=none->∀Z' G h',Inv X pins Z' H' G->Cc (s.heap.objs.size+1) G.heap h'->Inv X pins Z' H' { G with heap:=h' }:=λ{H'} hn Z' G h' I6 v8=>by
  have:=I6.turned (t':=G.toks) (λb o hb e=>v8.extBut b o hb e) hn
   (Bq (B4 I.lt)) (.inr (Hi I.sz)) (λx c e=>Aw (B4 (I.cellLt e))) λp hp z=>?_
  exact this;have:=Ag (I.pin p hp).1;rw[z] at this;exact absurd this (Db.mpr (CC _))
 have x3:∀{pl:List (Addr×Obj)} {E:Value->Ad->Prop},(∀b∈s.heap.objs.size::fp,b∈pl.map (·.1)) ->
  Rs ((cX X scope N' (s.heap.objs.size+1) { s with heap:=s.heap.push (eD [] 0) } H (s.heap.objs.size::fp)).inTry pl λx L=>An (Ay X.prog X.w) X.A (Dj x (Gc scope (iX X.env.cells scope.names []) (s.heap.objs.size+1) X.env)) (λ_ G=>RR (.ref s.heap.objs.size) (s.heap.objs.size+1) (.error x) G) E L) λc _ H=>WX c Z H:=by
  intro pl E z6 pins' Z' H' L a cls I' fl hW;obtain⟨q4,hW⟩:=v3 _ _ _ hW;have q3:=I'.outTry;obtain⟨T,rc,nw⟩:=fl;have U:∀b,(b=a\/T=some b)->¬ (Old (s.heap.push (eD [] 0)) b/\b∉s.heap.objs.size::fp)/\H' b=none/\b∉pl.map (·.1):=λb z=>⟨(nw b z).1,(nw b z).2.1,λy=>(nw b z).2.2 (by
   obtain⟨p,hp,e⟩:=A0.mp y;exact A0.mpr ⟨p,Bc _ (A5 _ hp),e⟩)⟩
  have v5:X.env.frame=some X.env.locals:=by
   rcases I.ok.stk with z|⟨_,z⟩
   rw[q4] at z;exact absurd (congrArg EU z) (by simp);exact z
  show An (Ay X.prog X.w) X.A (Dj (.ref a) (Gc scope (iX X.env.cells scope.names []) (s.heap.objs.size+1) X.env)) _ _ L;rw[pO (env:=X.env) (env':=Gc scope (iX X.env.cells scope.names []) (s.heap.objs.size+1) X.env) rfl];refine aHQ (by rw[<-q4];exact q3.ok.frames) (by rw[<-q4];exact q3.stack) v5 rc λh1 T1 l1 x1 r1=>?_;have I1:=q3.note x1 (λb hb=>by rw[<-q4] at hb;exact hb) (λb hb=>.inl (by rw[<-q4];exact hb)) rc (λb z=>⟨(U b z).1,(U b z).2.1,by
   show b∉(([]:List (Addr×Obj))++pl).map (·.1);exact(U b z).2.2⟩)
  have W:=I1.base;have u:Un (frs X.stack) fp H H' s.heap h1:={
   keep:=λb o e nn hb hx=>W.keep b o (Ab _ e) nn hb (nb e hx)
   slot:=λb o e nn hb hx=>W.slot b o (Ab _ e) nn hb (nb e hx)
   free:=λb o e nn hx=>W.free b o (Ab _ e) nn (nb e hx)
   there:=λb o e hx=>W.there b o (Ab _ e) (nb e hx)
   tups:=W.tups
   frzs:=W.frzs
   tbls:=W.tbls }
  obtain⟨m4,z5,_⟩:=I1.loc;have new:∀b,(b=a\/T=some b)->¬ Old s.heap b:=λb z ⟨o,q⟩=>(U b z).1 ⟨⟨o,Ab _ q⟩,λy=>(U b z).2.2 (z6 b y)⟩;refine hE s.heap.objs.size (s.heap.objs.size+1) { L with heap:=h1 } H' m4 a cls T1 (I.call' I1.os u I1.hok I1.bare λb hb=>⟨(f b hb).2.2.2.1,(f b hb).2.1,(f b hb).2.2.2.2.1,(f b hb).2.2.2.2.2⟩) z5 (Bx _) (z2 I1.free) r1 (λb z=>?_) hW;have q9:¬ Old s.heap b/\H' b=none:=by rcases z with z|z;exact⟨new b (.inl z),(U b (.inl z)).2.1⟩;cases z;rcases l1 with l1|l1;exact⟨λq=>absurd (A1 q.lt (AJ (DP (A1 (show s.heap.objs.size<(s.heap.push (eD [] 0)).objs.size by rw[q2];exact Bx _) q3.sz)) l1)) (AU _),q3.hok.fresh l1⟩;exact⟨new _ (.inr l1),(U _ (.inr l1)).2.1⟩
  exact⟨λy=>q9.1 (wF I b y.1 y.2),q9.2,λy=>q9.1 (mR I b y)⟩
 have start:DF (Ay X.prog X.w) X.A (.compLoop (.ListComp elt [⟨tg,q5,w9,0⟩] scope pos) 0 (.ref it) (.ref s.heap.objs.size) (Gc scope (iX X.env.cells scope.names []) (s.heap.objs.size+1) X.env))
  (RR (.ref s.heap.objs.size) (s.heap.objs.size+1)) { s with heap:=q0,toks:=s.toks+([]:List (Str×Value)).length }:=by
  refine jW (λn L=>∃i ys B cnt Z1 H',Inv (cX X scope N' (s.heap.objs.size+1) { s with heap:=s.heap.push (eD [] 0) } H (s.heap.objs.size::fp)) [(s.heap.objs.size,eD B cnt)] Z1 H' L /\
   tn i L.heap/\(∀b∈fp,H' b=none)/\bJ ys B/\W0 i n ys Z1 H') ?_ m0 ⟨0,[],[],0,_,H,w4 (aNw CS I f hf v6 hk) (hk _ _ (Ak _ rfl)) I.fresh,T.keep _ _ _ st λb _ o e=>hk b o (Ab _ e),λb hb=>(f b hb).1,.nil,w0⟩
  rintro n s3 ⟨i,ys,B,cnt,Z1,H3,I3,x4,x0,z0,w3⟩;obtain⟨u1,u2,_⟩:=I3.pin (s.heap.objs.size,eD B cnt) (by simp[cX]);have z7:∀p∈[(s.heap.objs.size,eD B cnt)],p.1=s.heap.objs.size:=λp hp=>by
   have:p=(s.heap.objs.size,eD B cnt):=by simpa using hp
   rw[this]
  rcases x8 i n ys Z1 H3 w3 with⟨stop,hz,qn⟩|⟨go,hz,step⟩
  refine thn (T.done (cX X scope N' (s.heap.objs.size+1) { s with heap:=s.heap.push (eD [] 0) } H (s.heap.objs.size::fp)) rfl rfl rfl hc i _ s3 _ H3 _ I3 (z4 _ z7 x0) x4 stop) λr s4 ⟨hr,I4⟩=>?_;subst hr;obtain⟨v1,x2,_⟩:=I4.pin (s.heap.objs.size,eD B cnt) (by simp[cX]);have W:=I4.base;have u0:∀{b:Addr} {o:Obj},s.heap.get? b=some o->b≠s.heap.objs.size:=λ{b o} e=>Aw (Ag e);have z8:∀{b:Addr} {o:HO},H b=some o->b≠s.heap.objs.size:=λ{b o} e=>bO e I.fresh;have u:Un (frs X.stack) fp H (upd H3 s.heap.objs.size (.lst ys)) s.heap s4.heap:={
   keep:=λb o e nn hb hx=>W.keep b o (Ab _ e) nn hb (nb e hx)
   slot:=λb o e nn hb hx=>W.slot b o (Ab _ e) nn hb (nb e hx)
   free:=λb o e nn hx=>by rw[aP (u0 e)];exact W.free b o (Ab _ e) nn (nb e hx)
   there:=λb o e hx=>W.there b o (Ab _ e) (nb e hx)
   tups:=λb xs e=>by rw[aP (z8 e)];exact W.tups b xs e
   frzs:=λb o u e=>by rw[aP (z8 e)];exact W.frzs b o u e
   tbls:=λb ps e=>by rw[aP (z8 e)];exact W.tbls b ps e }
  obtain⟨m4,z5,_⟩:=I4.loc;exact hR s.heap.objs.size (s.heap.objs.size+1) s4 _ m4 (I.call' I4.os u (HOk.track I4.hok x2 ⟨hz,B,cnt,z0,v1⟩) I4.bare λb hb=>⟨(f b hb).2.2.2.1,(f b hb).2.1,(f b hb).2.2.2.2.1,(f b hb).2.2.2.2.2⟩) z5 (Bx _) (z2 (by rw[aP (Bq (Bx _))];exact I4.free)) (qn _ x2);refine thn (T.item (cX X scope N' (s.heap.objs.size+1) { s with heap:=s.heap.push (eD [] 0) } H (s.heap.objs.size::fp)) rfl rfl rfl hc i _ s3 _ H3 _ I3 (z4 _ z7 x0) x4 go) λr s4 ⟨u,hr,h4⟩=>?_;subst hr;refine thn h4 λ_ s5 ⟨x,H5,I5,r5,y5,z1,v0⟩=>?_;obtain⟨hg,ht,he⟩:=v4 (s.heap.objs.size+1) { s with heap:=s.heap.push (eD [] 0) } H (s.heap.objs.size::fp);have keep:∀{Z7:St} {H7:Hp} {s7:Ad},Inv (cX X scope N' (s.heap.objs.size+1) { s with heap:=s.heap.push (eD [] 0) } H (s.heap.objs.size::fp)) ([(s.heap.objs.size,eD B cnt)]++oA fp s5.heap) Z7 H7 s7 ->
   tn (i+1) s7.heap/\(∀b∈fp,H7 b=none)/\s7.heap.get? s.heap.objs.size=some (eD B cnt)/\H7 s.heap.objs.size=none:=by intro Z7 H7 s7 I7;obtain⟨v2,v9,_⟩:=I7.pin (s.heap.objs.size,eD B cnt) (by simp[cX]);refine⟨T.keep _ _ _ z1 λb hb o e=>(I7.pin (b,o) (A5 _ (A5 _ (gF hb e)))).1,λb hb=>?_,v2,v9⟩;obtain⟨o,e,d⟩:=T.obj _ _ z1 b hb;exact(I7.pin (b,o) (A5 _ (A5 _ (gF hb e)))).2.1
  refine thn (hg _ s5 _ H5 x u _ (I5.pinned (z4 _ z7 v0) (T.obj _ _ z1)) r5 (step x H5 y5)) λ_ s6 ⟨Z6,H6,I6,q6⟩=>?_;refine thn (ht _ s6 Z6 H6 _ I6 q6) λb s7 ⟨H7,I7,q7⟩=>?_;cases b with
  | false=>rw[if_neg bN] at q7 ⊢;obtain⟨m',hm,w7⟩:=q7;obtain⟨t7,f7,d7,n7⟩:=keep I7;exact⟨m',hm,i+1,ys,B,cnt,Z6,H7,w4 I7 d7 n7,t7,f7,z0,w7⟩|true=>
   rw[if_pos rfl] at q7 ⊢;refine Bk (he ([(s.heap.objs.size,eD B cnt)]++oA fp s5.heap) _ _ EY (x3 λb hb=>?_) [] s7 Z6 H7 _ I7.inTry q7) (λyv s8 ⟨y,H8,I8,r8,q8⟩=>?_) λ_ _ z=>z;rcases As.mp hb with z|z;rw[z];simp;obtain⟨o,e,d⟩:=T.obj _ _ z1 b z;exact A0.mpr ⟨(b,o),A5 _ (gF z e),rfl⟩;obtain⟨m',hm,w8⟩:=q8;obtain⟨t8,f8,d8,n8⟩:=keep I8.outTry;have hl:=z0.length;refine Dw GD ⟨_,d8,rfl⟩ Gv (Ga _ _) (GY s.heap.objs.size B.toArray cnt yv (by rw[Ah];omega)) ⟨d8,?_⟩;have q:=HA d8 (λa=>a.push yv);have e':B.toArray.push yv=(B++[yv]).toArray:=by simp
   rw[e'] at q;have x9:=((I8.outTry.unpinned).pins_of (pins':=[]) (λp hp=>absurd hp (by simp))).turned (t':=s8.toks) (h':=s8.heap.update s.heap.objs.size (DJ λa=>a.push yv)) (λb o hb e=>(A2 s8.heap _ (BQ hb)).trans e) n8
    (Aw (Bx _)) (.inl Ar) (λx c e=>Aw (I.cellLt (dB (λn hn=>I.ok.has n (CS.free n hn)) e))) (λp hp=>absurd (show p∈([]:List (Addr×Obj)) from by simpa[cX] using hp) (by simp))
   refine⟨m',hm,i+1,ys++[y],B++[yv],_,Z6,H8,w4 x9 q n8,?_,f8,z0.append (.cons r8 .nil),w8⟩;refine T.keep _ _ _ t8 λb hb o e=>(A2 s8.heap _ ?_).trans e;intro z;exact absurd (hf b hb) (by rw[<-z];exact AU _)
 have q1:∀C,C=s.heap.objs.size+1->DF (Ay X.prog X.w) X.A (.compLoop (.ListComp elt [⟨tg,q5,w9,0⟩] scope pos) 0 (.ref it) (.ref s.heap.objs.size) (Gc scope (iX X.env.cells scope.names []) C X.env))
  (RR (.ref s.heap.objs.size) C) { s with heap:=q0,toks:=s.toks+([]:List (Str×Value)).length }:=by rintro C rfl;exact start
 exact codeAny_compStart_list (q1 _ q2) (T.self X.A 0 _ _ _ (T.keep _ _ _ st λb _ o e=>hk b o (Ab _ e)) (q1 _ q2))
theorem yY{G:Ad}{m:Str->Option Value}{Q:Value->Ad->Prop}{q1:Option (Value->Kz Unit)}(I:Inv X pins Z H' G)(hn:G.heap.Ns C m)
 (U:∀(Z':St) (L:Ad) (h':Heap),Inv X pins Z' H' L->Cc C L.heap h'->Inv X pins Z' H' { L with heap:=h' }) (r:Rec G.heap a cls (some T)) (nw:∀b,(b=a\/some T=some b)->¬ (Old X.s₀.heap b/\b∉X.ex)/\H' b=none/\b∉pinA X pins) (hx:RX X cls Z H') :
 compPost (Ay X.prog X.w) X.A X.xe q1 Q acc C (.error (.ref a)) G:=by
 have q0:∃m,G.heap.Ns C m/\∀h',Cc C G.heap h'->∀B:HS,B.locals=C->An (Ay X.prog X.w) X.A (JA "comprehension.variables-let-go" (.ref a) B:Kz Value) (λ_ _=>False) X.xe { G with heap:=h' }:=by
  refine⟨m,hn,λh' hs B _=>?_⟩;have ne:∀b o,G.heap.get? b=some o->(∃vs,o.data=.fields vs)->b≠C:=λb o q ⟨vs,d⟩ z=>by obtain⟨oC,es,ep,ho,hd,_⟩:=hn;rw[z,ho] at q;cases q;rw[hd] at d;cases d
  have r1:Rec h' a cls (some T):=by obtain⟨oe,vs,he,hc,q3,hd,h1,q2,oT,ts,hT,W,fl,h3⟩:=r;exact⟨oe,vs,(hs.2 a (ne a oe he ⟨vs,hd⟩)).trans he,hc,q3,hd,h1,q2,oT,ts,(hs.2 T (ne T oT hT ⟨ts,W⟩)).trans hT,W,fl,h3⟩
  unfold JA;obtain⟨oe,vs,he,_,_,hd,h1,_⟩:=id r1;refine Aa (AH he hd h1 ?_);exact Aa (aKJ r1 λh2 x2 r2=>(HX (hx pins _ a (Inv.note (U Z G h' I hs) x2 (λb hb=>by cases hb) (λb hb=>.inr rfl) r1 nw) ⟨some T,r2,nw⟩)))
 cases q1 with
 | none=>exact q0|some u=>exact q0
theorem aCh(L:dS X scope k caps N')(hc:X.calm=true)(hi:PI X tg iter wi)
 (W:∀C s₀ H₀ ex,PG (cX X scope N' C s₀ H₀ ex) tg g/\PTs (cX X scope N' C s₀ H₀ ex) ifs tt/\∀pl E W0,Di (Ay X.prog X.w) X.A (cX X scope N' C s₀ H₀ ex).env E->Rs ((cX X scope N' C s₀ H₀ ex).inTry pl E) W0->PE ((cX X scope N' C s₀ H₀ ex).inTry pl E) elt (te W0)) (U:∀c Z H,WX c Z H->X.stack=X.env::X.outer/\RX X c Z H) (hs:∀x,Cg iter X.env x=pure x) :
 PE X (.ListComp elt [⟨tg,iter,ifs,0⟩] scope pos) (aEY WX k caps wi g tt te):=by intro pins s Z H Q I h;refine Ff rfl hs (jL λn G=>I.ok.has n (L.free n G)) L.kind L.loc (thn (hi pins s Z H _ I h) λxv s1 h1=>thn h1 λq2 s2 h2=>?_);obtain⟨it,fp,tn,J,H2,e,I2,T,q1,f2,hw⟩:=h2;subst e;exact yX L hc I2 T q1 f2 W U hw (λD C s' H' m a cls T I G _ B r nw hx=>yY I G B r nw hx) λD C s' H' m J G _ B q=>⟨m,G,λh' q0=>⟨.ref D,H',B Z s' h' J q0,rfl,q⟩⟩
theorem aAU(G:dS X scope k caps N')(hc:X.calm=true)(hi:PI X tg iter wi)
 (U:∀C s₀ H₀ ex,PG (cX X scope N' C s₀ H₀ ex) tg g/\PTs (cX X scope N' C s₀ H₀ ex) ifs tt/\∀pl E W0,Di (Ay X.prog X.w) X.A (cX X scope N' C s₀ H₀ ex).env E->Rs ((cX X scope N' C s₀ H₀ ex).inTry pl E) W0->PE ((cX X scope N' C s₀ H₀ ex).inTry pl E) elt (te W0)) (L:∀c Z H,WX c Z H->X.stack=X.env::X.outer/\RX X c Z H) (hs:∀x,Cg iter X.env x=pure x)
 (hN:X.N.Nodup) (q0:X.N[i]? = some x) (hx:Loc X.env.scope x) (hf:X.fn x=true\/X.env.scope.names.lookup x=some .local) :
 PS X (.Assign [.Name x pos'] (.ListComp elt [⟨tg,iter,ifs,0⟩] scope pos) spos) (aKc (aEY WX k caps wi g tt te) (yC i)):=by
 have hb:∃b,Ju (.ListComp elt [⟨tg,iter,ifs,0⟩] scope pos) (some (.Name x pos')) spos.line X.env=pure b:=⟨_,rfl⟩
 obtain⟨b,hb⟩:=hb;cases b with
 | false=>exact vQ hN q0 hx (aCh G hc hi U L hs) hb hf|true=>intro pins s Z H D I h;rw[exec_Assign_Name_used x pos' _ spos hb];refine Aa (Cd (Aa ?_));refine Aa (Ff rfl hs (jL λn W=>I.ok.has n (G.free n W)) G.kind G.loc (thn (hi pins s Z H _ I h) λxv s1 h1=>thn h1 λq5 s2 h2=>?_));obtain⟨it,fp,tn,J,H2,e,I2,T,q4,f2,hw⟩:=h2;subst e;refine yX (Q:=λv H'=>D.nx (Z.set i (some v)) H') G hc I2 T q4 f2 U L hw (λD C s' H' m a cls T I W _ B r nw hx=>yY I W B r nw hx) λD' C s' H' m J W lt B q=>?_;refine GU (tS (v:=V.ref D') J hN q0 hx rfl (λq3 J' q2=>?_) hf);obtain⟨a,sb,ha⟩:=q2;refine⟨m,W.sameBut sb ?_,λh' q1=>?_⟩;rcases ha with z|z;rw[z];exact Bq (E1 I2.lt lt);exact Bq (E1 (I2.cellLt z) lt);exact Ac (Ac ⟨_,H',B _ q3 h' J' q1,q⟩)
end L2
noncomputable section
namespace L2
open PySem PySem.Spec PyProof.Rows PySem.W
section
variable {prog:AB} {w:AV} {A:B6} {E:Value->Ad->Prop} {K:Ai} {h:Heap} {g:Array Ek} {d:Ky} {t:Nat} {os:FH} {a C:Addr} {o:Obj}
theorem aFa{Q:Jw->Ad->Prop}(X:K.In h)(I:InstAt h a o C od)(g3:CL K (.ref C) "__class__" = some (some (.builtin "object.__class__")))(hm:Jx K C (.type "object")=some true)(B:Q (.done (.ret (.ref C))) ⟨h,g,d,t,os⟩) :
 An (Ay prog w) A (Builtin.«object.__getattribute__» ⟨[.ref a,.str "__class__" tk],[]⟩) Q E ⟨h,g,d,t,os⟩:=by
 have f5:=F.typeOf_object_class;have f6:=F.slot_gs_get.lookup;have f7:=F.slot_gs_set.lookup
 repeat (any_goals (first|assumption|(with_reducible refine B3 I.at_ ?_;rw[I.cls])|with_reducible refine(D2 X g3).at ?_|wp_step))
 refine class_get X I hm ?_
 repeat (any_goals (first|assumption|wp_step))
theorem yZ{Q:Unit->Ad->Prop}(X:K.In h)(I:InstAt h a o C od)(hb:JW K (.ref C) (.type "BaseException")=some true)(L:Q () ⟨h,g,d,t,os⟩) :
 An M A (Ft "BaseException.__getattribute__" ⟨[.ref a,nameV],[]⟩) Q E ⟨h,g,d,t,os⟩:=by
 have G:builtinKind "BaseException.__getattribute__" = some .slot:=by decide +kernel
 have B:Looks M h (isInstance (.ref a) (.type "BaseException")) true:=(I.type).andThen (looks_subIn X hb);simp only[Ft,G];refine Aa (B.at ?_)
 repeat (first|wp_step)
 exact L
theorem aHZ{R:J3->Ad->Prop}(X:K.In h)(I:InstAt h a o C od)(hb:JW K (.ref C) (.type "BaseException")=some true)(g3:CL K (.ref C) "__class__" = some (some (.builtin "object.__class__")))(hm:Jx K C (.type "object")=some true)(B:R (.ok (.ret (.ref C))) ⟨h,g,d,t,os⟩) :
 DF (Ay prog w) A (.call (.builtin "BaseException.__getattribute__") ⟨[.ref a,.str "__class__" tk],[]⟩) R ⟨h,g,d,t,os⟩:=
 CH Dn.ga.plain Ic (yZ X I hb (aFa X I g3 hm B))
theorem aNx{tk:HQ}{G B:Bool}{Q:Value->Ad->Prop}(X:K.In h){od:Option Obj}(I:InstAt h a o C od)(hb:JW K (.ref C) (.type "BaseException")=some true)(g1:CL K (.ref C) "__getattribute__" = some (some (.builtin "BaseException.__getattribute__")))(g2:CL K (.ref C) "__getattr__" = some none)
 (g3:CL K (.ref C) "__class__" = some (some (.builtin "object.__class__"))) (hm:Jx K C (.type "object")=some true) (W:Q (.ref C) ⟨h,g,d,t,os⟩) :
 An (Ay prog w) A (getAttrBy (.ref a) (.str "__class__" tk) G B) Q E ⟨h,g,d,t,os⟩:=by
 have f3:=Dn.ga.bind (.ref a);have L:(B&&onTheHeap (DD "BaseException.__getattribute__"))=false:=by cases B <;> rfl
 have U:(DD "BaseException.__getattribute__" == DD "object.__getattribute__")=false:=by decide +kernel
 repeat (any_goals (first|assumption|(with_reducible refine B3 I.at_ ?_;rw[I.cls])|with_reducible refine(D2 X g1).at ?_|with_reducible refine(D2 X g2).at ?_|wp_step))
 refine aHZ X I hb g3 hm ?_
 repeat (any_goals (first|assumption|wp_step))
theorem aIa{Q:Option Value->Ad->Prop}(X:K.In h){od:Option Obj}(I:InstAt h a o C od)(hb:JW K (.ref C) (.type "BaseException")=some true)(g1:CL K (.ref C) "__getattribute__" = some (some (.builtin "BaseException.__getattribute__")))(g2:CL K (.ref C) "__getattr__" = some none)
 (g3:CL K (.ref C) "__class__" = some (some (.builtin "object.__class__"))) (hm:Jx K C (.type "object")=some true) (B:Q (some (.ref C)) ⟨h,g,d,t+1,os⟩):An (Ay prog w) A (getAttr? (.ref a) "__class__") Q E ⟨h,g,d,t,os⟩:=by
 unfold getAttr? getAttrBy?
 repeat (any_goals (first|assumption|with_reducible apply aNx X I hb g1 g2 g3 hm|wp_step))
theorem aFb{Q:Jw->Ad->Prop}(X:K.In h)(I:InstAt h a o C od)(B:findObj K C od name=some (.value v))(G:Q (.done (.ret v)) ⟨h,g,d,t,os⟩) :
 An (Ay prog w) A (Builtin.«object.__getattribute__» ⟨[.ref a,.str name tk],[]⟩) Q E ⟨h,g,d,t,os⟩:=by exact Aa (Ac (Aa (Ac (Aa ((I.type).at (Aa ((looks_find X I B).at (Ac G))))))))
theorem aIb{Q:Value->Ad->Prop}(X:K.In h)(I:InstAt h a o C od)(hb:JW K (.ref C) (.type "BaseException")=some true)(g1:CL K (.ref C) "__getattribute__" = some (some (.builtin "BaseException.__getattribute__")))(g2:CL K (.ref C) "__getattr__" = some none)
 (B:findObj K C od name=some (.value v)) (G:handedIn v=true) (L:Q v ⟨h,g,d,t+1,os⟩):An (Ay prog w) A (K3 (.ref a) name expr) Q E ⟨h,g,d,t,os⟩:=by
 have f3:=Dn.ga.bind (.ref a);have U:(expr&&onTheHeap (DD "BaseException.__getattribute__"))=false:=by cases expr <;> rfl
 have W:(DD "BaseException.__getattribute__" == DD "object.__getattribute__")=false:=by decide +kernel
 unfold K3 getAttrBy
 repeat (any_goals (first|assumption|(with_reducible refine B3 I.at_ ?_;rw[I.cls])|with_reducible refine(D2 X g1).at ?_|with_reducible refine(D2 X g2).at ?_|wp_step))
 refine CH Dn.ga.plain Ic (yZ X I hb (aFb X I B ?_));show An _ _ (handedOut v) _ _ _;rw[(handedOut_of G)];exact Ac L
end
structure XC (K:Ai) (C:Addr):Prop where
 isc:(K5 K C).isSome=true
 hb:JW K (.ref C) (.type "BaseException")=some true
 g1:CL K (.ref C) "__getattribute__" = some (some (.builtin "BaseException.__getattribute__"))
 g2:CL K (.ref C) "__getattr__" = some none
 g3:CL K (.ref C) "__class__" = some (some (.builtin "object.__class__"))
 hm:Jx K C (.type "object")=some true
theorem zA{K:Ai}{a C:Addr}(c:XC K C):KitX K (.ref a) (.ref C) (λh=>∃o od,InstAt h a o C od) where
 ty:=λ_ _ _ ⟨_,_,I⟩=>I.type
 it:=λ_ _ X _=>by obtain⟨L,B⟩:=Ce.mp c.isc;unfold K5 at B;split at B;rename_i c' d' G q0 U;intro A' Q' E' s' k q;unfold isType loadHead;exact Aa (IL (k _ _ (X _ _ U)) (Ac q));cases B
 ne:=λh tp dd q1 n sl X W=>by obtain⟨L,B⟩:=Ce.mp c.isc;refine Bool.eq_false_iff.mpr λq=>?_;have e:=Value.ref.inj (beq_iff_eq.mp q);subst e;unfold K5 at B;split at B;rename_i c' d' G q0 U;cases((X _ _ U).symm.trans W);cases B
 ca:=λ{prog w A E Q s} X ⟨o,od,I⟩ k=>by obtain⟨h,g,d,t,os⟩:=s;exact aIa X I c.hb c.g1 c.g2 c.g3 c.hm k
section
variable {prog:AB} {w:AV} {A:B6} {E:Value->Ad->Prop} {K:Ai} {h:Heap} {g:Array Ek} {d:Ky} {t:Nat} {os:FH}
variable {nm q:Str} {C N:Addr} {bs bm:List Value} {hdct:Bool} {sn:List Str} {sub:List Value} {ab:Bool} {col:Option Bool} {dd:Option Addr} {k0 k1 k2 k3 k5:Option Value} {fI:Addr} {oI:Obj} {rest:List Value}
theorem aAV{Q:Jw->Ad->Prop}(X:K.In h)(T:Gq h bmV bm)(G:h.get? C=some (CU nm q C N bs bm hdct sn sub ab col dd k0 k1 k2 k3 k5 "ValueError.__new__"))(hi:CL K (.ref C) "__init__" = some (some (.ref fI)))(L:h.get? fI=some oI)(U:oI.cls=.type "function")
 (hq:∀h' e,EF h h' e (.ref C) rest->An (Ay prog w) A (call (.ref fI) (.ref e::rest)) (λr s'=>r=.none/\Q (.done (.ret (.ref e))) s') E ⟨h',g,d,t,os⟩) (hrest:rest.length<=sizeLine) :
 An (Ay prog w) A (Builtin.«type.__call__» ⟨.ref C::rest,[]⟩) Q E ⟨h,g,d,t,os⟩:=by
 have F:=Dy
 repeat (first|with_reducible refine B3 G ?_|with_reducible refine wpAny_madeBy_exc G ?_|wp_step)
 refine codeAny_call_builtin_code (DK _ F.quiet) (wpAny_check_new_subU F (by decide +kernel) T G ?_);refine codeAny_exc_new_subU F (by decide +kernel) F T G ?_ hrest;have W:∀b o,h.get? b=some o->((h.push { cls:=.type "tuple",data:=.seq rest.toArray }).push { cls:=.ref C,data:=.fields #[.ref h.objs.size,.none,.none,.none,.bool false,.none] }).get? b=some o:=λb o z=>Ab _ (Ab _ z);have B:((h.push { cls:=.type "tuple",data:=.seq rest.toArray }).push
  { cls:=.ref C,data:=.fields #[.ref h.objs.size,.none,.none,.none,.bool false,.none] }).get? (h.objs.size+1)=some
  { cls:=.ref C,data:=.fields #[.ref h.objs.size,.none,.none,.none,.bool false,.none] }:=by heap_get
 have I:(Bu C::bm).contains (.ref C)=true:=by simp
 repeat (first|with_reducible refine B3 B ?_|(with_reducible refine D7 (W _ _ G) ?_;rw[I])|wp_step)
 refine(D2 (X.keeps W) hi).at ?_;refine Bt (Aa ?_);refine Aa (DS ⟨_,(W _ _ L),U⟩ ?_);refine Ac (Aa (Bk (hq _ (h.objs.size+1) ⟨λb o hb=>Ab _ (Ab _ hb),Ej (CC _),h.objs.size,B,Ej (Al _),?_⟩) (λr s' hr=>?_) λ_ _ x=>x));exact Ab _ (Hj rfl rfl)
 . obtain⟨rfl,hQ⟩:=hr
   wp_walk
   exact hQ
theorem aDz{Q:Value->Ad->Prop}(X:K.In h)(T:Gq h bmV bm)(B:h.get? C=some (CU nm q C N bs bm hdct sn sub ab col dd k0 k1 k2 k3 k5 "ValueError.__new__"))(hi:CL K (.ref C) "__init__" = some (some (.ref fI)))(G:h.get? fI=some oI)(I:oI.cls=.type "function")
 (L:∀h' e,EF h h' e (.ref C) rest->An (Ay prog w) (A.under (.builtin "type.__call__" ⟨.ref C::rest,[]⟩)) (call (.ref fI) (.ref e::rest)) (λr U=>r=.none/\Q (.ref e) U) E ⟨h',g,d,t,os⟩) (hrest:rest.length<=sizeLine) :
 An (Ay prog w) A (call (.ref C) rest) Q E ⟨h,g,d,t,os⟩:=by
 have f1:=tc_lookup;have f2:=tc_bind (.ref C);have W:(⟨h,g,d,t,os⟩:Ad).TypeIs (.ref C) "type" := ⟨_,B,rfl⟩
 refine FD (Er ?_)
 repeat (any_goals (first|assumption|with_reducible refine B3 B ?_|wp_step))
 refine⟨rfl,?_⟩;exact codeAny_call_builtin_at (DK _ (by decide +kernel)) entry_typeCall (wpAny_check_type_call_sub B (aAV X T B hi G I (λh' e hm=>(L h' e hm)) hrest))
theorem lX{Q:Flow->Ad->Prop}(G:bm.contains (.type "BaseException")=true)(hh:A.handled=none)
 (h:An (Ay prog w) A x (λv B=>∃e t dp,v=.ref e/\B.heap.get? C=some (CU nm q C N bs bm hdct sn sub ab col dd k0 k1 k2 k3 k5 "ValueError.__new__") /\
  B.heap.get? e=some { cls:=.ref C,dict:=dp,data:=.fields #[.ref t,.none,.none,.none,.bool false,.none] }/\E (.ref e) B) E s) :
 An (Ay prog w) A (raiseStmt env (some x) none) Q E s:=by
 have L:(Bu C::bm).contains (.type "BaseException")=true:=by rw[GJ,G,E0]
 refine Aa (Bk h (λv B I=>?_) λ_ _ x=>x);obtain⟨e,t,dp,rfl,U,he,W⟩:=I;obtain⟨hp,g,d,tk,os⟩:=B
 repeat (first|with_reducible refine B3 he ?_|with_reducible refine B3 U ?_|(with_reducible refine D7 U ?_;rw[L])|wp_step)
 exact wpAny_raiseNew_none hh W
theorem aAW{Q:Flow->Ad->Prop}
 (L:bm.contains (.type "BaseException")=true) (hh:A.handled=none) (q0:(DZ cpos (AW args env)).any (·.1)=false) (hi:CL K (.ref C) "__init__" = some (some (.ref fI)))
 (h:An (Ay prog w) A (De (.Name x np) env) (λf U=>f=.ref C/\An (Ay prog w) A (evalArgs (.ref C) true (DZ cpos (AW args env)) [])
  (λa B=>a.kw=[]/\a.pos.length<=sizeLine/\K.In B.heap/\B.heap.get? C=some (CU nm q C N bs bm hdct sn sub ab col dd k0 k1 k2 k3 k5 "ValueError.__new__")/\Gq B.heap bmV bm/\(∃oI,B.heap.get? fI=some oI/\oI.cls=.type "function") /\
   ∀h' e,EF B.heap h' e (.ref C) a.pos->An (Ay prog w) (A.under (.builtin "type.__call__" ⟨.ref C::a.pos,[]⟩)) (call (.ref fI) (.ref e::a.pos)) (λr s'=>r=.none/\s'.heap.get? C=some (CU nm q C N bs bm hdct sn sub ab col dd k0 k1 k2 k3 k5 "ValueError.__new__")/\(∃t dp,s'.heap.get? e=some { cls:=.ref C,dict:=dp,data:=.fields #[.ref t,.none,.none,.none,.bool false,.none] })/\E (.ref e) s') E { B with heap:=h' }) E U) E s) :
 An (Ay prog w) A (exec (.Raise (some (.Call (.Name x np) args [] cpos)) none pos) env) Q E s:=by
 first
  | refine Aa (Cd (lX (C:=C) (nm:=nm) (q:=q) (N:=N) (bs:=bs) (bm:=bm) (hdct:=hdct) (sn:=sn) (sub:=sub) (ab:=ab) (col:=col) (dd:=dd) (k0:=k0) (k1:=k1) (k2:=k2) (k3:=k3) (k5:=k5) L hh (Aa (Bk (EZ (Bk h (λf U G=>?_) λ_ _ x=>x)) (λv q1 I=>Aa (Cd (Ac I))) λ_ _ x=>x))))
  | (simp only[evalOpt,Option.map];refine Aa (Cd (lX (C:=C) (nm:=nm) (q:=q) (N:=N) (bs:=bs) (bm:=bm) (sn:=sn) (ab:=ab) (dd:=dd) (k0:=k0) (k1:=k1) (k2:=k2) (k3:=k3) (k5:=k5) L hh (Aa (Bk (EZ (Bk h (λf U G=>?_) λ_ _ x=>x)) (λv q1 I=>Aa (Cd (Ac I))) λ_ _ x=>x)))))
  | (refine Aa (Cd (lX (C:=C) (nm:=nm) (q:=q) (N:=N) (bs:=bs) (bm:=bm) (sn:=sn) (ab:=ab) (dd:=dd) (k0:=k0) (k1:=k1) (k2:=k2) (k3:=k3) (k5:=k5) L hh ?_));refine Aa (Bk (EZ (Bk h (λf U G=>?_) λ_ _ x=>x)) (λv q1 I=>Aa (Cd (Ac I))) λ_ _ x=>x))
 obtain⟨rfl,G⟩:=G;refine Aa (Bt (Bk G (λa B W=>Aa (Cd ?_)) λ_ _ x=>x));obtain⟨q7,q3⟩:=a;obtain⟨q6,q2,hX,hC,T,⟨oI,hf,q5⟩,W⟩:=W;obtain rfl:q3=[]:=q6;obtain⟨hp,g,d,tk,os⟩:=B;simp only[q0];refine Aa (wpAny_keeperOf_exc hC ?_);refine Aa (aDz (hrest:=q2) hX T hC hi hf q5 λh' e hm=>Bk (W h' e hm) (λr s' ⟨hr,q4,⟨t,dp,he⟩,hE⟩=>⟨hr,Aa (Bt (wpAny_point (Ac ⟨e,t,dp,rfl,q4,he,hE⟩)))⟩) λ_ _ z=>z)
end
end L2
namespace L2
open PySem PySem.Spec PyProof.Rows PySem.W Builtin Builtin.ObjectAttr
section
variable {prog:AB} {w:AV} {A:B6} {E:Value->Ad->Prop} {K:Ai} {s:Ad} {x C:Addr} {cd:ClassData} {bm:List Value} {vs:Array Value} {name:Str} {v:Value}
theorem zB(T:Gq h bmV l):refuseLoop self "__setattr__" l=pure ():=by
 induction T with
 | base=>exact PySem.F.store_ValueError.passes _|own _ _ _ _ B=>rw[IM];exact B
theorem aIc{Q:Unit->Ad->Prop}(X:K.In s.heap)(hx:s.heap.get? x=some { cls:=.ref C,data:=.fields vs })(hs:CL K (.ref C) "__setattr__" = some (some (.builtin "object.__setattr__")))(hm:Jx K C (.type "object")=some true)(hc:K5 K C=some cd)(hd:cd.hasDict=true)(W:cd.mro=.ref C::bm)(T:Gq s.heap bmV bm)(ha:CL K (.ref C) name=some none)
 (h:∀h' t',h'.get? x=some { cls:=.ref C,dict:=some s.heap.objs.size,data:=.fields vs }->h'.Ns1 s.heap.objs.size (λy=>if y=name then some v else none)->(∀b o,b≠x->s.heap.get? b=some o->h'.get? b=some o)->Q () { s with heap:=h',toks:=t' }) :
 An (Ay prog w) A (setAttr (.ref x) name v) Q E s:=by
 have B:=PySem.F.store_object;have I:InstAt s.heap x { cls:=.ref C,data:=.fields vs } C none:=⟨hx,rfl,rfl,trivial⟩
 refine set_plain X I hs ?_;refine CH B.slot.plain B.entry (@check_slot (Ay prog w) _ _ { s with toks:=s.toks+1 } "object.__setattr__" "object" "__setattr__" (.ref x) [.str name s.toks,v] [] _ B.kind B.split (I.type.andThen (looks_mroIn X hm)) (B.args (.ref x) (.str name s.toks) v) ?_);have q1:Looks (Ay prog w) s.heap (mroOf (.ref C)) cd.mro:=(JX X hc).andThen .now;have L3:Looks (Ay prog w) s.heap (HD none) none:=.now;rw[osa_eq,refuse_eq];refine Aa (Aa (I.type.here (s:={ s with toks:=s.toks+1 }) (Aa (q1.here (s:={ s with toks:=s.toks+1 }) ?_))));rw[W,IM,zB T];refine Ac (Aa (I.type.here (s:={ s with toks:=s.toks+1 }) (Aa ((D2 X ha).here (s:={ s with toks:=s.toks+1 }) (Aa (L3.here (s:={ s with toks:=s.toks+1 }) ?_))))));refine Aa (Ac (Aa (Aa (IL hx (Aa (Looks.here (JX X hc) ?_))))));rw[hd];refine Aa (wpAny_alloc' ?_);refine Aa (wpAny_update' (Ab _ hx) ?_);refine Ac ?_;have q0:((s.heap.push { cls:=.type "dict",data:=.dict #[] }).update x λo=>{ cls:=o.cls,dict:=some s.heap.objs.size,data:=o.data,slots:=o.slots }).get? s.heap.objs.size
  = some { cls:=.type "dict",data:=.dict #[] }:=
  (D8 _ _ _ _ (Aw (Ag hx)).symm).trans (Hj rfl rfl)
 have q2:((s.heap.push { cls:=.type "dict",data:=.dict #[] }).update x λo=>{ cls:=o.cls,dict:=some s.heap.objs.size,data:=o.data,slots:=o.slots }).Ns s.heap.objs.size (λ_=>none):=
  ⟨_,#[],_,q0,rfl,λe W=>absurd W (by simp),λ_=>rfl⟩
 refine Aa (Ac (Aa (wpAny_nsSet1 (K6 q2) λh' G hs=>?_)));obtain⟨oD,q5,q4,q3,U,L⟩:=G.count (Within.cons name v Within.nil);refine Aa (wpAny_lookBehind q3 (by rw[U];exact pastItsLine_dict (AJ L (by rw[lC,lN,Du];omega))) ?_)
 wp_walk
 refine h h' _ ((hs.2 x (Aw (Ag hx))).trans (Bh _ (Ab _ hx) rfl)) G λb o hb q=>?_;exact(hs.2 b (Aw (Ag q))).trans ((D8 _ _ _ _ hb).trans (Ab _ q))
end
def uF(e C t:Addr)(dd:Option Addr):HO:=.ext λh=>h.get? e=some { cls:=.ref C,dict:=dd,data:=.fields #[.ref t,.none,.none,.none,.bool false,.none] }
theorem zC{h:Heap}(q:h.get? e=some { cls:=.ref C,dict:=dd,data:=.fields #[.ref t,.none,.none,.none,.bool false,.none] }):eC P w H h e (uF e C t dd):=
 ⟨q,⟨_,q⟩,λ_ _ z k=>k _ z⟩
structure PlC (K:Ai) (C f:Addr):Prop where
 sa:CL K (.ref C) "__setattr__" = some (some (.builtin "object.__setattr__"))
 mo:Jx K C (.type "object")=some true
 na:CL K (.ref C) "place" = some none
 init:CL K (.ref C) "__init__" = some (some (.ref f))
 cl:∃cd bm,K5 K C=some cd/\cd.hasDict=true/\cd.mro=.ref C::bm/\tailIn K bmV bm=true
noncomputable def rH(H:Hp)(e C t dp:Addr)(v:V):Hp:=upd (upd H dp (.xd [("place",v)])) e (uF e C t (some dp))
theorem aKL(hp:PlC X.K C f)(ha:PE X (.Name a p1) (aAB 0))(hb:PE X (.Name b p3) (aAB 1)) :
 PS X (.Assign [.Attribute (.Name a p1) "place" p2] (.Name b p3) pos) (λD Z H=>∃e t v,Z[0]? = some (some (.ref e))/\Z[1]? = some (some v)/\H e=some (uF e C t none)/\∀dp,H dp=none->dp≠e->D.nx Z (rH H e C t dp v)):=by
 intro pins s Z H D I ⟨e,t,v,h0,h1,he,hq⟩;refine plainObj_wpAny_Assign_Attribute (thn (hb pins s Z H (λy H1=>y=v/\H1=H) I ⟨v,h1,rfl,rfl⟩) λu s1 ⟨y,H1,I1,ry,e1,e2⟩=>thn (ha pins s1 Z H1 (λy W=>y=.ref e/\W=H1) I1 ⟨.ref e,h0,rfl,rfl⟩) λov s2 ⟨x,W,G,rx,e3,e4⟩=>?_) rfl;subst e1 e2 e3 e4;obtain rfl:ov=Bu e:=rx;obtain⟨cd,bm,c1,c2,c3,c4⟩:=hp.cl;have ho:=(G.hok e _ he).1;refine aIc G.kIn ho hp.sa hp.mo c1 c2 c3 (tail_of_in G.kIn c4) hp.na λh' t' g1 g2 g3=>?_;have ne:∀b,W b=none->b≠e:=λb z q=>by rw[q,he] at z;cases z
 have B:∀b o,W b=some o->(∀φ,o≠.ext φ)->rH W e C t s2.heap.objs.size y b=some o:=λb o z n=>by unfold rH;rw[aP λq=>by rw[q,he] at z;cases z;exact n _ rfl,aP (bO z (G.hok.fresh (Al _)))];exact z
 refine⟨Z,_,G.call' (ch:=[]) rfl ⟨λb o q n _ _=>g3 b o (ne b n) q,λb o q n _ _=>⟨o.slots,g3 b o (ne b n) q⟩,λb o q n _=>?_,λb o q _=>?_,λb xs z=>B b _ z (λ_ z=>nomatch z),λb o u z=>B b _ z (λ_ z=>nomatch z),λb ps z=>⟨#[],by exact B b _ z (λ_ z=>nomatch z)⟩⟩ ?_ G.bare (λb z=>absurd z (by simp)),hq _ (G.hok.fresh (Al _)) (Bq (Ag ho))⟩;unfold rH;rw[aP (ne b n),aP (Aw (Ag q))];exact n;by_cases hb:b=e;rw[hb];exact⟨_,g1⟩;exact⟨o,g3 b o hb q⟩;intro b o z;unfold rH at z;by_cases hb:b=e;rw[hb,bE] at z;cases z;rw[hb];exact zC g1;rw[aP hb] at z;by_cases L:b=s2.heap.objs.size;rw[L,bE] at z;cases z;rw[L];refine⟨_,g2,λfl=>?_⟩;by_cases hf:fl = "place";rw[ hf];exact ry;rw[if_neg hf,Ed,beq_false_of_ne hf];exact trivial;rw[aP L] at z;exact(G.hok b o z).stay (λc u U q=>g3 c u (λw=>by
  rcases U with U|U;exact hb (U.symm.trans w);rw[w,he] at U;cases U) q) (λc q=>B c _ q (λ_ z=>nomatch z)) λc xs q=>B c _ q (λ_ z=>nomatch z)
end L2
end
namespace L2
open PySem PySem.Spec PyProof.Rows PySem.W
noncomputable def lY(st:Cj)(a b:Str):Bool:=(match iT st with
 | [.Assign [.Attribute (.Name x _) f _] (.Name y _) _]=>f == "place" && x==a&&y==b|_=>false)&&(decide ((bK st).kind=.function))&&!(bK st).isCoroutine&&!(bK st).isGenerator&&decide ([a,b].Nodup)&&decide ((bK st).names.lookup a=some .local)&&decide ((bK st).names.lookup b=some .local)&&((bK st).names.all λy=>decide (y.2≠.free))&&a != "__debug__" && a != "__classdict__" && b != "__debug__" && b != "__classdict__"
section
variable {P:AB} {w:AV} {K:Ai} {mg:Str->Option Value} {base:Heap}
theorem aFc{qual:Str}{st:Cj}{f C e t:Addr}{fd:E9}{a b:Str}(F:Fun K "__init__" qual st f fd)(hc:lY st a b=true)(hb:jP K fd [a,b] [])(hp:PlC K C f){A:B6}{outer:List HS}{s:Ad}{H:Hp}{v:V}{u:Value}(hd:A.depth<FY)(hh:A.handled=none)(G:yE P w K mg base A outer s H)
 (he:H e=some (uF e C t none)) (ru:bV v u):DF (Ay P w) A (.call (.ref f) ⟨[.ref e,u],[]⟩) (CR (CX1 P w) outer P w H s (λr H'=>r=.non/\∃dp,H dp=none/\dp≠e/\H'=rH H e C t dp v) λ_ _ _=>False) s:=by
 unfold lY at hc;simp only[bA,Ch,AA,ne_eq,AO] at hc;obtain⟨⟨⟨⟨⟨⟨⟨⟨⟨⟨⟨L,c2⟩,c3⟩,c4⟩,c5⟩,c6⟩,c7⟩,c8⟩,c9⟩,W⟩,q0⟩,q1⟩:=hc;split at L;rename_i x p1 fl p2 y p3 pos q2;simp only[bA,beq_iff_eq] at L;obtain⟨⟨rfl,rfl⟩,rfl⟩:=L;have S:pW [x,y] [x,y] (bK st):=⟨c2,c3,c4,c5,rfl,λz I=>by
  rcases As.mp I with rfl|I;exact .inl c6;rw[Av.mp I];exact .inl c7,λz I=>c8 z I⟩
 have r:bJ [.ref e,v] [.ref e,u]:=.cons rfl (.cons ru .nil);have U:=G.mod.kin.keeps λb o e=>(G.bs b o e).1;obtain⟨oc,od,kV,doc,pm,an,cdv,ct,osl,rfl,lk,q3⟩:=F.ex;have B:∀z∈[x,y].zip [Bu e,u],(bK st).names.lookup z.1=some .local\/((bK st).names.lookup z.1=some .cell/\((Hx (s.heap.objs.size+1) (bK st).names []).lookup z.1).isSome=true):=λ⟨n,v⟩ hy=>by rcases S.par n (DG hy).1 with q|q;exact .inl q;exact .inr ⟨q,DQ _ _ _ (.inl q)⟩
 refine FQ hd (U _ _ lk) rfl S.co S.gen rfl (GA U q3) ((hb s [.ref e,u] U rfl) _ _ _ _ ?_);refine EA S.kind B λenv q4 s1 z=>?_;subst q4;refine⟨(G.mod.nolimit.keeps λb o e=>(G.bs b o e).1).keeps z.toInCall.keep,J5 ?_⟩;rw[q2];refine Bk (aBM (aKL (X:=tH (CX1 P w) P w K mg base [x,y] qual (bK st) f cdv A outer s H λ_ _ _=>False) hp (nZ rfl (.inl c6) (by simpa using c9) (by simpa using W)) (nZ rfl (.inl c7) (by simpa using q0) (by simpa using q1))) [] s1 _ H
  { nx:=λ_ H'=>∃dp,H dp=none/\dp≠e/\H'=rH H e C t dp v,rt:=λ_ _=>False,bk:=λ_ _=>False,ct:=λ_ _=>False } (tX S hh G rfl r z) ⟨e,t,v,rfl,rfl,he,λdp h1 h2=>⟨dp,h1,h2,rfl⟩⟩) (λfl s' hs=>?_) λe s' hs=>hs
 cases fl with
 | next=>obtain⟨Z',H',J,q⟩:=hs;exact⟨V.non,H',J.os,J.bare,J.base,J.hok,rfl,rfl,q⟩|brk=>obtain⟨_,_,_,q⟩:=hs;exact q.elim|cont=>obtain⟨_,_,_,q⟩:=hs;exact q.elim|ret u=>obtain⟨_,_,_,_,_,q⟩:=hs;exact q.elim
 cases L
end
section
variable {X:Cx}
theorem aDA{x:Str}{C fI:Addr}{np L pos:Ht}{a:AE}{ta:TA}{E:Value->St->Hp->Prop}{qual:Str}{st:Cj}{fd:E9}{n1 n2:Str}(hg:Gl X x)(hm:X.mg x=some (.ref C))(q:lV X.K C=true)(hp:PlC X.K C fI)(F:Fun X.K "__init__" qual st fI fd)(hi:lY st n1 n2=true)(hb:jP X.K fd [n1,n2] [])
 (q5:∃oI,X.K.lookup fI=some oI/\oI.cls=.type "function") (ha:PA X [a] ta) (hc:X.calm=true) (hR:Rs X E) (hd:(x==("__debug__" : Str))=false) (hr:lH 0 X.A) (he:AW [a] X.env=[(false,De a X.env)]) (q6:(DZ L (AW [a] X.env)).any (·.1)=false) :
 PS X (.Raise (some (.Call (.Name x np) [a] [] L)) none pos) (λD Z H=>ta Z H λvs H1=>∃v,vs=[v]/\∀dp,H1 dp=none->E (cdV C dp) Z (upd H1 dp (.xd [("place",v)]))):=by
 intro pins s Z H D I h;obtain⟨bm,N,nm,qn,bs,hdct,sn,sub,ab,col,dd,k0,k1,k2,k3,k5,hC,TL⟩:=wH I.mod.kin q;have q2:=ha L pins s Z H _ I h;refine aAW (nm:=nm) (q:=qn) (N:=N) (bs:=bs) (hdct:=hdct) (sn:=sn) (sub:=sub) (ab:=ab) (col:=col) (dd:=dd) (k0:=k0) (k1:=k1) (k2:=k2) (k3:=k3) (k5:=k5)
  (TL.hasType rfl) (I.ok.hd hc) q6 hp.init (kN I hg hm ⟨rfl,?_⟩ hd)
 obtain⟨oI,lI,cI⟩:=q5;rw[he] at q2 ⊢;refine Dv (thn q2 λus s2 ⟨vs,H1,G,rv,v,ev,hE⟩=>?_);subst ev;obtain⟨u,rfl,r0⟩:=rv.one;refine⟨rfl,show 1<=sizeLine by decide,G.kIn,G.bk _ _ hC,TL.keeps G.bk,⟨oI,G.kIn _ _ lI,cI⟩,λh' e m=>?_⟩;have B:∀b o,s2.heap.get? b=some o->b≠e:=λb o z w=>by rw[w,m.new] at z;cases z
 have hn:H1 e=none:=by
  cases z:H1 e with
  | none=>rfl|some o=>obtain⟨ob,q4⟩:=(G.hok e o z).old;rw[m.new] at q4;cases q4
 have U:¬ (Old X.s₀.heap e/\e∉X.ex):=λz=>by obtain⟨o,w⟩:=wF G e z.1 z.2;exact B _ _ w rfl
 have W:e∉pinA X pins:=λz=>by obtain⟨o,w⟩:=mR G e z;exact B _ _ w rfl
 obtain⟨t,ht,_⟩:=m.there;have I3:=(G.un (t':=s2.toks) (Un.kept m.keeps) (G.hok.kept m.keeps)).track U hn W (λz=>by
  obtain⟨_,⟨o,_,_,w,_⟩,_⟩:=G.loc;exact B _ _ w z.symm) (λx c z w=>by
  obtain⟨_,o,w',_⟩:=G.cell x c z;exact B _ _ w' w) (zC ht)
 refine FD (Da (aFc F hi hb hp (by rw[aAG];have:=hr.dp;omega) hr.hd (I3.env0.make C [u] []) bE r0) λr s' hq=>?_);cases r with
 | error e'=>obtain⟨_,_,_,_,_,_,_,_,_,z⟩:=hq;exact z.elim|ok fl=>
  cases fl with
  | ret u'=>
   obtain⟨v',H',os,bare,un,hok,q7,rfl,dp,d1,d2,rfl⟩:=hq;have q3:=(hok e _ bE).1;have q1:H1 dp=none:=by rw[<-aP (H:=H1) d2];exact d1
   refine⟨q7,(I3.call' os un hok bare (λb z=>absurd z (by simp))).bk _ _ hC,⟨t,some dp,q3⟩,?_⟩;have eq:∀c,c≠e->rH (upd H1 e (uF e C t none)) e C t dp v c=upd H1 dp (.xd [("place",v)]) c:=λc hc=>by unfold rH;rw[aP hc];by_cases w:c=dp;rw[w,bE,bE];rw[aP w,aP w,aP hc]
   have q0:∀{b:Addr} {o:Obj},s2.heap.get? b=some o->H1 b=none->upd H1 e (uF e C t none) b=none:=λ{b o} z n=>by rw[aP (B b o z)];exact n
   have ndp:∀{b:Addr} {o:HO},H1 b=some o->upd H1 dp (.xd [("place",v)]) b=some o:=λ{b o} z=>by rw[aP (bO z q1)];exact z
   have I5:Inv X pins Z (upd H1 dp (.xd [("place",v)])) s':=G.call' os ⟨λb o z n hb hx=>un.keep b o (m.keeps b o z) (q0 z n) hb hx,λb o z n hb hx=>un.slot b o (m.keeps b o z) (q0 z n) hb hx,λb o z n hx=>by
    rw[<-eq b (B b o z)];exact un.free b o (m.keeps b o z) (q0 z n) hx,λb o z hx=>un.there b o (m.keeps b o z) hx,λb xs z=>ndp z,λb o u z=>ndp z,λb ps z=>⟨#[],by exact ndp z⟩⟩ (λb o z=>by
    refine(hok b o (by rw[eq b (λw=>by rw[w,aP (BQ d2),hn] at z;cases z)];exact z)).stay (λ_ _ _ w=>w) (λc w=>?_) λc xs w=>?_;rw[<-eq c (λy=>by rw[y,rH,bE] at w;cases w)];exact w;rw[<-eq c (λy=>by rw[y,rH,bE] at w;cases w)];exact w) bare (λb z=>absurd z (by simp))
   refine hR pins Z _ s' e (cdV C dp) I5 ⟨none,⟨_,_,q3,rfl,rfl,rfl,rfl⟩,λb z=>?_⟩ (hE dp q1);rcases z with rfl|z;exact⟨U,by rw[aP (BQ d2)];exact hn,W⟩;cases z
  | next=>exact Cy hq|brk=>exact Cy hq|cont=>exact Cy hq
end
end L2
namespace L2
open PySem PySem.Spec PyProof.Rows
structure PlR (K:Ai) (C:Addr):Prop where
 xc:XC K C
 hd:Hk K C=true
 na:CO K (.ref C) "place" = some none
def aQm(K:Ai)(j:Nat):TE:=λZ H Q=>∃a C dp v,Z[j]? = some (some (.ref a))/\H a=some (excO a C (some dp))/\H dp=some (.xd [("place",v)])/\PlR K C/\Q v H
theorem aKM(he:PE X (.Name n np) (aAB j))(hb:G1 (.Name n np) "place" X.env (De (.Name n np) X.env)=De (.Name n np) X.env):PE X (.Attribute (.Name n np) "place" p) (aQm X.K j):=by
 intro pins s Z H Q I ⟨a,C,dp,v,h1,h2,h3,pr,hq⟩;refine aHC hb (thn (he pins s Z H (λx H1=>x=.ref a/\H1=H) I ⟨_,h1,rfl,rfl⟩) λu s1 ⟨x,H1,B,rx,L,U⟩=>?_);subst L U;obtain rfl:u=Bu a:=rx;obtain⟨o,g1,g2,g3,W⟩:=(B.hok a _ h2).1;obtain⟨mA,ns,r⟩:=(B.hok dp _ h3)
 obtain⟨od,ho,hl⟩:=aDi ns;obtain⟨u,hu,G⟩:=aEj.some_of (r "place");obtain⟨hh,g,d,t,os⟩:=s1;exact aIb B.kIn (⟨g1,g2,g3,by rw[W];exact ho⟩) pr.xc.hb pr.xc.g1 pr.xc.g2 (PySem.W.findObj_own pr.hd pr.na rfl (by rw[hl,hu])) (aDj G) ⟨v,H1,B.tok _,G,hq⟩
def aQn(K:Ai)(C:Addr)(iy jn:Nat)(D:Ends):Value->St->Hp->Prop:=λcls Z H=>∃C1,kC cls=.ref C1/\lV K C1=true/\rE K C1 C=some true /\
 ∀a,H a=none->D.nx ((((Z.set jn (some (.ref a))).set iy (some (.ref a))).set jn (some .non)).set jn none) (upd H a (excO a C1 (kD cls)))
theorem aId{tb:(Value->St->Hp->Prop)->TS}
 (hg:Gl X x) (hm:X.mg x=some (.ref C)) (hd:(x==("__debug__" : Str))=false) (qC:lV X.K C=true) (G:X.stack=X.env::X.outer)
 (hN:X.N.Nodup) (q8:X.N[iy]? = some y) (U:X.N[jn]? = some n) (hy:Loc X.env.scope y) (hn:X.env.scope.names.lookup n=some .local) (q6:X.fn y=true\/X.env.scope.names.lookup y=some .local)
 (q5:(n==("__debug__" : Str))=false) (q4:(n==("__classdict__" : Str))=false) (w3:iy≠jn)
 (hb:∀(pins:List (Addr×Obj)) (E:Value->Ad->Prop) (W0:Value->St->Hp->Prop),Di (Ay X.prog X.w) X.A X.env E->Rs (X.inTry pins E) W0->PSs (X.inTry pins E) body (tb W0)) :
 PS X (.Try body [.ExceptHandler (some (.Name x np)) (some n) [.Assign [.Name y yp] (.Name n np2) ap] hp] [] [] pos)
  (λD Z H=>tb (aQn X.K C iy jn D) D Z H):=by
 intro pins s Z H D I h;refine HE ?_;refine Bk (hb pins (λe B=>An (Ay X.prog X.w) X.A (Dj e X.env) (λ_ q2=>An (Ay X.prog X.w) X.A (Fq e none) (λ_ q3=>An (Ay X.prog X.w) X.A (IK e X.env _) (SP X pins D) X.xe q3) X.xe q2) X.xe B) _ EY ?_ [] s Z H D I.inTry h) (λf B q=>?_) λe B q=>q;intro pins' Z' H' s' a cls I1 fl hW;obtain⟨C1,hk,q1,q7,hD⟩:=hW;have L:=I1.outTry;obtain⟨T,rc,nw⟩:=fl;have nw:∀b,(b=a\/T=some b)->¬ (Old X.s₀.heap b/\b∉X.ex)/\H' b=none/\b∉pinA X pins:=λb z=>⟨(nw b z).1,(nw b z).2.1,λy=>(nw b z).2.2 (by
  obtain⟨p,hp,e⟩:=A0.mp y;exact A0.mpr ⟨p,Bc _ hp,e⟩)⟩
 have q0:X.env.frame=some X.env.locals:=by
  rcases L.ok.stk with z|⟨_,z⟩
  rw[G] at z;exact absurd (congrArg EU z) (by simp);exact z
 refine aEP (by rw[L.ok.frames,G]) (by rw[<-G];exact L.stack) q0 rc λh1 T1 W x1 r1=>?_;have I2:=L.note x1 (λb hb=>by rw[G];exact hb) (λb hb=>.inl (by unfold frs;rw[Cp,q0];exact Aj _ hb)) rc nw;have q9:∀b,(b=a\/some T1=some b)->¬ (Old X.s₀.heap b/\b∉X.ex)/\H' b=none/\b∉pinA X pins:=λb z=>by rcases z with z|z;exact nw b (.inl z);cases z;rcases W with W|W;exact⟨λz=>absurd z.1.lt (Db.mpr (AJ L.sz W)),L.hok.fresh W,λz=>absurd (mR L _ z).lt (Db.mpr W)⟩;exact nw _ (.inr W)
 have pv:∀p,PE (X.inExc (.ref a)) (.Name n p) (aAB jn):=λp=>nZ U (.inl hn) q5 q4;have s1:∀yp np ap,PS (X.inExc (.ref a)) (.Assign [.Name y yp] (.Name n np) ap) _:=λyp np ap=>vQ hN q8 hy (pv np) rfl q6;exact aHW hg hm hd qC q1 q7 hN U hn I2 r1 hk q9 (λ_=>aBM (s1 _ _ _)) (λ_ ha=>(⟨.ref a,AK (by rw[I2.len];exact(Ax.mp U).1),hD a ha⟩)) λz=>nomatch z;cases f with
 | next=>exact Df (SP.outTry q)|brk=>exact SP.outTry q|cont=>exact SP.outTry q|ret u=>exact SP.outTry q
theorem aIe
 (hb:∀(pins:List (Addr×Obj)) (E:Value->Ad->Prop),Di (Ay X.prog X.w) X.A X.env E->PSs (X.inTry pins E) body tb):PS X (.Try body (h0::hs) [] [] pos) tb:=by
 intro pins s Z H D I h;refine HE ?_;refine Bk (hb pins (λe B=>An (Ay X.prog X.w) X.A (Dj e X.env) (λ_ G=>An (Ay X.prog X.w) X.A (Fq e none) (λ_ L=>An (Ay X.prog X.w) X.A (IK e X.env _) (SP X pins D) X.xe L) X.xe G) X.xe B) EY [] s Z H D I.inTry h) (λf B q=>?_) λe B q=>q;cases f with
 | next=>exact Df (SP.outTry q)|brk=>exact SP.outTry q|cont=>exact SP.outTry q|ret u=>exact SP.outTry q
end L2
namespace Hp
open PySem PySem.Spec PyProof.Rows L2
def Od(K:Fg)(H:Hp)(b:Addr):Prop:=H b=none->K.lookup b≠none
def Rr(K:Fg)(H H':Hp)(Y:Addr->Prop)(r:Rt)(u:V):Prop:=
 if r.2.1=true then ∃a xs ds,u=.ref a/\r.1=.lst ds/\(H a=none/\K.lookup a=none)/\H' a=some (.lst xs)/\Reps K H' (λb=>b=a\/Y b\/(r.2.2=false/\Od K H b)) ds xs
 else Rep K H' (λb=>Y b\/(r.2.2=false/\Od K H b)) r.1 u
def xE(K:Fg)(H:Hp)(E:XK):D->Prop
 | .err c fs=>∀(cls:Value) (H':Hp),Kc K H' c fs cls->Tk K H'->aW H H'->E cls none H'|_=>False
def spF(K:Fg)(P:Pg)(n:Nat)(f:Nat):Sp:=λvs H Q E=>∃(ds:List D) (Y:Addr->Prop),(∀a,Y a->Od K H a)/\Reps K H Y ds vs/\RE (xE K H E) (call P n f ds) λr=>∀u H',Tk K H'->aW H H'->Rr K H H' Y r u->Q u H'
noncomputable def bltNames:List Str:=["len", "list", "tuple", "min", "max", "abs", "int", "str", "sum", "all", "any", "sorted", "bool", "range", "zip", "enumerate", "reversed", "set", "isinstance", "dict", "repr", "ValueError"]
structure uG (K:Fg) (mg:Str->Option Value) (cls:List Str) (c:Str) (ab:List Cl) (C:Addr):Prop where
 bd:mg c=some (.ref C)
 ns:Cq K AG c=some (some (.ref C))
 ex:lV K C=true
 xc:XC K C
 ve:Dx K (.ref C) (.type "ValueError")=some (ab.contains .tValueError)
 ow:∀x∈cls,∃C2,mg x=some (.ref C2)/\Dx K (.ref C) (.ref C2)=some (ab.contains (.own x))/\rE K C C2=some (ab.contains (.own x))
def aCi(K:Fg)(mg:Str->Option Value)(c:Str):Prop:=∃C fI qual st fd n1 n2,mg c=some (.ref C)/\Cq K AG c=some (some (.ref C))/\lV K C=true/\PlC K C fI/\PlR K C/\Fun K "__init__" qual st fI fd/\lY st n1 n2=true/\jP K fd [n1,n2] []/\∃oI,K.lookup fI=some oI/\oI.cls=.type "function"
structure Md (X:Cx) (P:Pg) (Γ:Ct) (n:Nat):Prop where
 fn:∀(f:Nat) (x:Str),Γ.fns[f]? = some x->∃fa fd ps,X.mg x=some (.ref fa)/\EE X.K (.ref fa)=true/\jP X.K fd ps []/\vS X.prog X.w X.K X.mg X.base (CX1 X.prog X.w) n fa fd ps (spF X.K P n f)
 blt:∀x∈bltNames,X.mg x=none
 cns:∀(x:Str) (d:D),Γ.cns.lookup x=some d->∃u v,X.mg x=some u/\bV v u/\∀H ex,Rep X.K H ex d v
 tab:∀(i:Nat) (x:Str),Γ.tbs[i]? = some x->∃a t,X.mg x=some (.ref a)/\P.tabs[i]? = some t/\uE X.prog X.w X.K a t
 exc:∀(c:Str) (ab:List Cl),P.above.lookup c=some ab->∃C,uG X.K X.mg Γ.cls c ab C
 rsd:∀c∈Γ.rsd,∃C,X.mg c=some (.ref C)/\Cq X.K AG c=some (some (.ref C))/\DC X.K C bmV "ValueError.__new__" = true
 pls:∀c∈Γ.pls,aCi X.K X.mg c
 cls:∀x∈Γ.cls,∃C2,X.mg x=some (.ref C2)/\lV X.K C2=true
structure Mc (X:Cx) (P:Pg) (Γ:Ct) (n:Nat):Prop where
 md:Md X P Γ n
 N:X.N=Γ.N
 nd:X.N.Nodup
 sc:X.env.scope.names=Γ.sc
 calm:X.calm=true
 room:lH n X.A
 own:Di (Ay X.prog X.w) X.A X.env X.xe
 st:∀x:Str,yQ Γ x=true->X.fn x=true\/X.env.scope.names.lookup x=some .local
 fk:X.env.scope.kind=.function
 stk:Γ.fn=true->X.stack=X.env::X.outer
section
variable {X:Cx} {Γ:Ct}
theorem Mc.inTry(M:Mc X P Γ n){E:Value->Ad->Prop}(h:Di (Ay X.prog X.w) X.A X.env E):Mc (X.inTry pins E) P Γ n:=
 ⟨⟨M.md.fn,M.md.blt,M.md.cns,M.md.tab,M.md.exc,M.md.rsd,M.md.pls,M.md.cls⟩,M.N,M.nd,M.sc,M.calm,M.room,h,M.st,M.fk,M.stk⟩
theorem Mc.units(M:Mc X P Γ n):X.A.units+200<HU:=by have:=M.room.un;omega
theorem Mc.vis(M:Mc X P Γ n)(h:aEN Γ x=true):Vis X.env.scope x:=by
 unfold aEN at h;unfold Vis;rw[M.sc];cases q:Γ.sc.lookup x with
 | none=>rw[q] at h;cases h|some k=>rw[q] at h;cases k <;> first|exact .inl rfl|exact .inr (.inl rfl)|exact .inr (.inr rfl)|cases h
theorem Mc.loc(M:Mc X P Γ n)(h:yQ Γ x=true):L2.Loc X.env.scope x:=by
 unfold yQ at h;unfold L2.Loc;rw[M.sc];cases q:Γ.sc.lookup x with
 | none=>rw[q] at h;cases h|some k=>rw[q] at h;cases k <;> first|exact .inl rfl|exact .inr rfl|cases h
theorem Mc.gl(M:Mc X P Γ n)(h:cQ Γ x=true):Gl X x:=by
 unfold cQ at h;unfold Gl;show X.env.scope.names.lookup x=_;rw[M.sc];cases q:Γ.sc.lookup x with
 | none=>rw[q] at h;cases h|some k=>rw[q] at h;cases k <;> first|rfl|cases h
theorem aX(h:cF x=true):(x==("__debug__" : Str))=false:=by unfold cF at h;simp only[bA,Ch] at h;exact h.1
theorem kQ(h:cF x=true):(x==("__classdict__" : Str))=false:=by unfold cF at h;simp only[bA,Ch] at h;exact h.2
theorem aKN:∀{d d':D},eqK d d'=true->d=d':=by intro d d' h;cases d <;> cases d' <;> simp[eqK] at h <;> first|rfl|(subst h;rfl)
def bH:AE->Bool
 | .Starred _ _=>false|.Slice _ _ _ _=>false|.Set _ _ _=>false|_=>true
theorem aFd{α:Type}{o:Option α}{f:α->Bool}(h:oB o f=true):∃a,o=some a/\f a=true:=by
 cases o with
 | none=>cases h|some a=>exact⟨a,rfl,h⟩
theorem aJ{α:Type}{q:α->Prop}{o:Option { a:α // q a }}{f:α->Bool}(h:oS o f=true):∃a,q a/\f a=true:=by
 cases o with
 | none=>cases h|some a=>exact⟨a.1,a.2,h⟩
theorem aS{c:E}{e:AE}(h:bG Γ c e=true):bH e=true:=by
 cases c with
 | c d=>rcases(B9 _ _).mp (h) with h|h;obtain⟨_,⟨_,_,rfl⟩,_⟩:=aJ h;rfl;obtain⟨_,⟨_,rfl⟩,_⟩:=aJ h;rfl
 | v i=>obtain⟨_,⟨_,rfl⟩,_⟩:=aJ h;rfl|op o a b=>obtain⟨_,⟨_,rfl⟩,_⟩:=aJ h;rfl|neg a=>obtain⟨_,⟨_,rfl⟩,_⟩:=aJ h;rfl|nt a=>obtain⟨_,⟨_,rfl⟩,_⟩:=aJ h;rfl|an a b=>obtain⟨_,rfl,_⟩:=aJ h;rfl|orr a b=>obtain⟨_,rfl,_⟩:=aJ h;rfl|ife t a b=>obtain⟨_,⟨_,rfl⟩,_⟩:=aJ h;rfl|cmp o a b=>obtain⟨_,⟨_,rfl⟩,_⟩:=aJ h;rfl|cmp2 B G a b c=>obtain⟨_,⟨_,rfl⟩,_⟩:=aJ h;rfl|idx a b=>obtain⟨_,⟨_,rfl⟩,_⟩:=aJ h;rfl|sli a lo hi=>obtain⟨_,⟨_,rfl⟩,_⟩:=aJ h;rfl|tup es=>obtain⟨_,⟨_,_,rfl⟩,_⟩:=aJ h;rfl|lst es=>obtain⟨_,⟨_,rfl⟩,_⟩:=aJ h;rfl|call f es=>obtain⟨_,⟨_,_,rfl⟩,_⟩:=aJ h;rfl|bi b es=>obtain⟨_,⟨_,_,rfl⟩,_⟩:=aJ h;rfl|isi a cs=>obtain⟨_,⟨_,_,rfl⟩,_⟩:=aJ h;rfl|comp k caps t it cond elt=>obtain⟨_,⟨_,rfl⟩,_⟩:=aJ h;rfl|numset a=>obtain⟨_,⟨_,_,rfl⟩,_⟩:=aJ h;rfl|tget i a=>obtain⟨_,⟨_,_,rfl,_⟩,_⟩:=aJ h;rfl|isx _ _=>obtain⟨_,⟨_,_,rfl⟩,_⟩:=aJ h;rfl|sset a=>obtain⟨_,⟨_,_,rfl⟩,_⟩:=aJ h;rfl|plc _ _=>obtain⟨_,⟨_,_,rfl⟩,_⟩:=aJ h;rfl
theorem aB(h:bH e=true):AW (e::es) env=(false,De e env)::AW es env:=by cases e <;> first|rfl|cases h
theorem jX:∀{cs:Es} {es:List AE},chkEs Γ cs es=true->es.all bH=true
 | .z,[],_=>rfl|.z,_::_,h=>by cases h|.k _ _,[],h=>by cases h|.k c cs,e::es,h=>by simp only[chkEs,bA] at h;rw[Eg,aS h.1,jX h.2];rfl
theorem dQ:∀{es:List AE},es.all bH=true->(DZ pos (AW es env)).any (·.1)=false
 | [],_=>rfl|e::es,h=>by rw[Eg,bA] at h;rw[aB h.1];show(false||(DZ pos (AW es env)).any (·.1))=false;rw[dQ h.2];rfl
theorem rJ(h:bH e=true):aBP e:=by intro o i;cases e <;> first|rfl|cases h
theorem oJ(h:bH e=true):∀x,Cg e env x=pure x:=by intro x;cases e <;> first|rfl|cases h
theorem rK(h:bH e=true):G0 op e=false:=by cases e <;> first|rfl|cases h
variable {RT Y old:Addr->Prop} {Z:Sg}
abbrev WE(X:Cx)(P:Pg)(n:Nat)(RT Y old:Addr->Prop)(Z:Sg)(c:E):TE:=wE X P (call P n) RT Y old Z c
abbrev WT(X:Cx)(P:Pg)(n:Nat)(RT Y old:Addr->Prop)(Z:Sg)(c:E):TT:=wT X P (call P n) RT Y old Z c
abbrev WA(X:Cx)(P:Pg)(n:Nat)(RT Y old:Addr->Prop)(Z:Sg)(c:Es):TA:=wA X P (call P n) RT Y old Z c
theorem RE.bind'{α B:Type}{x:R α}{f:α->R B}{p:B->Prop}{w:D->Prop}(h:RE w (x >>= f) p):RE w x λa=>RE w (f a) p:=by rwa [RE.bind] at h
theorem RE.calmEq{α:Type}{x:R α}{p:α->Prop}{w:D->Prop}(h:RE w x.calm p):∃a,x=.ok a/\p a:=by
 cases x with
 | ok a=>exact⟨a,rfl,h⟩|exc e=>exact h.elim|bad=>exact h.elim
theorem wE.one{p:Vl->Prop}{Q:V->Hp->Prop}(S:Sx X.K RT Y old Z ZV H)(h:RE (wx X ZV H) (ev P (call P n) Z a) p)
 (f:∀x u H',p x->Tk X.K H'->Sx X.K RT Y old Z ZV H'->Ro X.K RT Y old Z ZV H H' x u->Q u H'):WE X P n RT Y old Z a ZV H Q:=
 ⟨S,h.mono λx hx u H' t r=>f x u H' hx t (S.grow r.1 t) r⟩
theorem aQo(ha:PE X ea (WE X P n RT Y old Z a))(hb:PE X eb (WE X P n RT Y old Z b)):PE X (.BinOp ea o eb pos) (WE X P n RT Y old Z (.op o a b)):=by
 intro pins s ZV H Q I hw;obtain⟨S,h⟩:=hw;have h:=RE.bind' (h);refine wpAny_BinOp (thn (ha pins s ZV H (λux H1=>WE X P n RT Y old Z b ZV H1 λuy B=>∃x y,Sx X.K RT Y old Z ZV B/\aW H B/\Rv X.K RT Y old Z ZV B x ux/\Rv X.K RT Y old Z ZV B y uy/\(x.fr=true->∃a xs,ux=.ref a/\B a=some (.lst xs))/\RE (λ_=>True) (opD o x y) (Wn X RT Y old Z ZV H Q)) I
  (wE.one S h λx u H1 hx t1 S1 G=>wE.one S1 ((RE.bind' hx).at G.1) λy u' B hy t2 U L=>⟨x,y,U,G.1.trans L.1,(G.rv S).grow L.1,L.rv S1,λW=>?_,hy.weak λ_ _=>trivial⟩)) λv s1 ⟨x',H1,I1,rx,q1⟩=>thn (hb pins s1 ZV H1 _ I1 q1) λu s2 ⟨y',B,I2,ry,q2⟩=>?_)
 have:=G.2;rw[if_pos W] at this;obtain⟨a',xs,ds,e1,_,_,e4,_⟩:=this;exact⟨a',xs,e1,L.1 _ _ e4⟩;obtain⟨x,y,U,sm,hx,hy,W,h⟩:=q2;exact aES I2 U rx ry hx hy W (h.mono λv hv u H' t r=>hv u H' t (r.from sm))
theorem aFe(I:PE X ea (WE X P n RT Y old Z a)):PE X (.UnaryOp .USub ea pos) (WE X P n RT Y old Z (.neg a)):=by refine(aMU aKl I).imp λZV H Q t ⟨S,h⟩=>?_;refine wE.one S (RE.bind' (h)) λx u H1 hx U L B=>?_;split at hx;rename_i i G;exact⟨i,(B.rv S).int G,λt'=>hx _ _ t' (Ro.cl B.1 rfl)⟩;exact hx.elim
theorem aFf{x:Vl}(hx:Rv X.K RT Y old Z ZV H x u)(h:aEL x.d=some k):aHB X.K u H k:=by
 unfold aEL at h;split at h;rename_i d;rw[hx.non d];exact(Aq h).symm;rename_i b d;rw[hx.bl d];exact(Aq h).symm;rename_i i d;rw[hx.int d];exact(Aq h).symm;rename_i z d;by_cases B:z.length<=lim;rw[if_pos B] at h;rw[hx.str d];refine⟨iV B,?_⟩;rw[<-Aq h];cases G:z.length with
 | zero=>rfl|succ m=>simp;omega
 rw[if_neg B] at h;cases h;rename_i ds d;obtain⟨a,xs,e,q,r⟩:=hx.tup d;rw[e];refine .inr (.inl ⟨xs,q,?_⟩);rw[<-Aq h];have:=r.length;cases ds <;> cases xs <;> first|rfl|(simp at this)
 rename_i ds d;obtain⟨a,xs,e,q,_,r⟩:=hx.lst d;rw[e];refine .inl ⟨xs,q,?_⟩;rw[<-Aq h];have:=r.length;cases ds <;> cases xs <;> first|rfl|(simp at this)
 cases h
theorem RE.tru{x:Vl}{p:Bool->Prop}{w:D->Prop}(h:RE w (iJ x) p):∃k,aEL x.d=some k/\p k:=by
 unfold iJ at h;cases q:aEL x.d with
 | none=>rw[q] at h;exact h.elim|some k=>rw[q] at h;exact⟨k,rfl,h⟩
theorem aNy(ha:PE X ea (WE X P n RT Y old Z a)):PE X (.UnaryOp .Not ea pos) (WE X P n RT Y old Z (.nt a)):=by intro pins s ZV H Q I hw;obtain⟨S,h⟩:=hw;refine UnaryOp_ (thn (ha pins s ZV H (λu H1=>∃k,aHB X.K u H1 k/\Q (.bl (!k)) H1) I (wE.one S (RE.bind' (h)) λx u H1 hx t1 S1 G=>?_)) λv s1 ⟨u,H1,U,ru,k,B,q⟩=>?_);obtain⟨k,B,hp⟩:=RE.tru (RE.bind' hx);exact⟨k,aFf (G.rv S) B,(hp) _ _ t1 (Ro.cl G.1 rfl)⟩;refine not_of (thn (aEy pins s1 ZV H1 u v (λk' H'=>k'=k/\H'=H1) U ru ⟨k,B,rfl,rfl⟩) λb s2 ⟨L,W,e1,e2⟩=>?_);subst e1 e2;exact⟨.bl (!b),L,W,rfl,q⟩
theorem rL{e:AE}(I:PE X e (WE X P n RT Y old Z c))(U:∀B,Iu e X.env B=(do let v<-B;K1 e.pos;Go [v] (truthy v)))
 (L:∀w p,RE w (tst P (call P n) Z c) p->RE w (ev P (call P n) Z c) λx=>RE w (iJ x) p):PT X e (WT X P n RT Y old Z c):=by refine(aEz I U).imp λZV H Q t ⟨S,h⟩=>?_;refine wE.one S (L _ _ h) λx u H1 hx t1 S1 G=>?_;obtain⟨k,W,hp⟩:=RE.tru hx;exact⟨k,aFf (G.rv S) W,λt'=>hp _ t' G.1⟩
theorem aNz(U:PE X ea (WE X P n RT Y old Z a))(hb:PE X (.BoolOp .And (L::r) pos) (WE X P n RT Y old Z b)):PE X (.BoolOp .And (ea::L::r) pos) (WE X P n RT Y old Z (.an a b)):=by refine(aJX U hb).imp λZV H Q t ⟨S,h⟩=>?_;refine wE.one S (RE.bind' (h)) λx u H1 hx t1 I B=>?_;split at hx;rename_i G;exact⟨true,(B.rv S).bl G,(⟨I,(hx.at B.1).mono λv W u H' t r=>λ_=>W u H' t (r.from B.1)⟩)⟩;rename_i G;exact⟨false,(B.rv S).bl G,(λt'=>hx _ _ t' (Ro.cl B.1 rfl))⟩;exact hx.elim
theorem aJy(U:PE X ea (WE X P n RT Y old Z a))(hb:PE X (.BoolOp .Or (L::r) pos) (WE X P n RT Y old Z b)):PE X (.BoolOp .Or (ea::L::r) pos) (WE X P n RT Y old Z (.orr a b)):=by refine(aMI U hb).imp λZV H Q t ⟨S,h⟩=>?_;refine wE.one S (RE.bind' (h)) λx u H1 hx t1 I B=>?_;split at hx;rename_i G;exact⟨true,(B.rv S).bl G,(λt'=>hx _ _ t' (Ro.cl B.1 rfl))⟩;rename_i G;exact⟨false,(B.rv S).bl G,(⟨I,(hx.at B.1).mono λv W u H' t r=>λ_=>W u H' t (r.from B.1)⟩)⟩;exact hx.elim
theorem aNA(U:PT X et (WT X P n RT Y old Z t))(L:PE X ea (WE X P n RT Y old Z a))(hb:PE X eb (WE X P n RT Y old Z b)):PE X (.IfExp et ea eb pos) (WE X P n RT Y old Z (.ife t a b)):=by
 refine(aEn U L hb).imp λZV H Q W ⟨S,h⟩=>?_;refine⟨S,(RE.bind' (h)).mono λk B H1 I s1=>?_⟩;cases k with
 | true=>rw[if_pos rfl] at B ⊢;exact⟨S.grow s1 I,(B.at s1).mono λv G u H' t r=>λ_=>G u H' t (r.from s1)⟩|false=>rw[if_neg bN] at B ⊢;exact⟨S.grow s1 I,(B.at s1).mono λv G u H' t r=>λ_=>G u H' t (r.from s1)⟩
def w2(X:Cx)(P:Pg)(n:Nat)(RT Y old:Addr->Prop)(Z:Sg)(ZV:L2.St)(H:Hp)(p:Vl->Vl->Prop)(ux uy:V)(H2:Hp):Prop:=
 ∃x y,Sx X.K RT Y old Z ZV H2/\aW H H2/\Rv X.K RT Y old Z ZV H2 x ux/\Rv X.K RT Y old Z ZV H2 y uy/\p x y
theorem kR(M:Mc X P Γ n)(o:CmpOp):OpR X (BN o) (λB G H Q=>∃(Z:Sg) (ZV:L2.St) (x y:Vl) (k:Bool),Rv X.K RT Y old Z ZV H x B/\Rv X.K RT Y old Z ZV H y G/\cZ o x.d y.d=some k/\Q (.bl k) H):=by intro pins s ZV H B G v u Q I rx ry h;obtain⟨Z',L,x,y,k,hx,W,U,q⟩:=h;exact aDr I M.units rx ry hx W U q
theorem aNB(M:Mc X P Γ n)(B:PE X ea (WE X P n RT Y old Z a))(hb:PE X eb (WE X P n RT Y old Z b))(hp:bH eb=true):PE X (.Compare ea [o] [eb] pos) (WE X P n RT Y old Z (.cmp o a b)):=by refine(aHz (kR (RT:=RT) (Y:=Y) (old:=old) M o) B hb (rK hp)).imp λZV H Q t ⟨S,h⟩=>?_;refine wE.two S ((RE.bind' (h)).mono λx hx=>RE.bind' hx) λx y ux uy L hp W s2 U hx I=>?_;split at hp;rename_i k G;exact⟨Z,ZV,x,y,k,hx,I,G,λt'=>hp _ _ t' (Ro.cl s2 rfl)⟩;exact hp.elim
theorem bM(M:Mc X P Γ n)(B:PE X ea (WE X P n RT Y old Z a))(hb:PE X eb (WE X P n RT Y old Z b))(hp:bH eb=true):PT X (.Compare ea [o] [eb] pos) (WT X P n RT Y old Z (.cmp o a b)):=by refine(aHA (kR (RT:=RT) (Y:=Y) (old:=old) M o) B hb (rK hp)).imp λZV H Q t ⟨S,h⟩=>?_;refine wE.two S ((RE.bind' (h)).mono λx hx=>RE.bind' hx) λx y ux uy L hp W s2 U hx I=>?_;split at hp;rename_i k G;exact⟨Z,ZV,x,y,k,hx,I,G,k,rfl,λt'=>hp _ t' s2⟩;exact hp.elim
theorem aNC(B:PE X ea (WE X P n RT Y old Z a))(hb:PE X eb (WE X P n RT Y old Z b))(hp:bH eb=true):PE X (.Subscript ea eb pos) (WE X P n RT Y old Z (.idx a b)):=by exact(aJs aEG B hb (rJ hp)).imp λZV H Q t ⟨S,h⟩=>(wE.two S ((RE.bind' (h)).mono λx hx=>RE.bind' hx) λx y ux uy U hp L s2 W hx I=>(aDs L hx I (hp.mono λv G u H' t r=>G u H' t (r.from s2))))
theorem uH:PA X [] (WA X P n RT Y old Z .z):=gG.imp λZV H Q t ⟨S,h⟩ t'=>h [] H t' (aW.refl H) rfl
theorem iE(L:PE X e (WE X P n RT Y old Z c))(U:PA X es (WA X P n RT Y old Z cs))(hp:bH e=true):PA X (e::es) (WA X P n RT Y old Z (.k c cs)):=by exact(eQ L U (aB hp)).imp λZV H Q t ⟨S,h⟩=>(wE.one S (RE.bind' (h)) λx u H1 hx t1 I B=>⟨I,((RE.bind' hx).at B.1).mono λvs W us G t2 s2 r2 t'=>(W (u::us) G t' (B.1.trans s2) ⟨u,us,rfl,(B.rv S).grow s2,r2⟩)⟩)
theorem wJ:∀{cs:Es} {es:List AE} {vs:List Vl},chkEs Γ cs es=true->evs P (call P n) Z cs=.ok vs->vs.length=es.length
 | .z,[],vs,_,h=>by cases(h);rfl|.z,_::_,_,h,_=>by cases h|.k _ _,[],_,h,_=>by cases h|.k c cs,e::es,vs,I,h=>by
  simp only[chkEs,bA] at I;have h:(ev P (call P n) Z c >>= λx=>evs P (call P n) Z cs >>= λxs=>R.ok (x::xs))=R.ok vs:=h;cases B:ev P (call P n) Z c with
  | ok x=>
   cases G:evs P (call P n) Z cs with
   | ok xs=>rw[B] at h;rw[G] at h;cases(h);rw[lC,lC,wJ I.2 G]|exc z=>rw[B] at h;have h:(evs P (call P n) Z cs >>= λxs=>R.ok (x::xs))=R.ok vs:=h;rw[G] at h;cases h|bad=>rw[B] at h;have h:(evs P (call P n) Z cs >>= λxs=>R.ok (x::xs))=R.ok vs:=h;rw[G] at h;cases h
  | exc z=>rw[B] at h;cases h|bad=>rw[B] at h;cases h
theorem RE.with{α:Type}{x:R α}{p:α->Prop}{w:D->Prop}(h:RE w x p):RE w x λa=>x=.ok a/\p a:=by
 cases x with
 | ok a=>exact⟨rfl,h⟩|exc e=>exact h|bad=>exact h
theorem aND{es:List AE}(G:PA X es (WA X P n RT Y old Z cs))(I:chkEs Γ cs es=true)(U:es.length<=1000):PE X (.Tuple es k pos) (WE X P n RT Y old Z (.tup cs)):=by exact(aEA G).imp λZV H Q t ⟨S,h⟩=>(⟨S,(RE.bind' (h)).with.mono λvs ⟨e,L⟩ us H1 W s1 B=>(⟨(by rw[<-B.length,wJ I e,Du];omega),λp hp t'=>(L) _ _ t' ((Ro.tup hp rfl rfl B.all).from s1)⟩)⟩)
theorem aNE{es:List AE}(G:PA X es (WA X P n RT Y old Z cs))(I:chkEs Γ cs es=true)(W:es.length<=1000):PE X (.List es pos) (WE X P n RT Y old Z (.lst cs)):=by exact(aKn G).imp λZV H Q t ⟨S,h⟩=>(⟨S,(RE.bind' (h)).with.mono λvs ⟨e,L⟩ us H1 U s1 B=>(⟨(by rw[<-B.length,wJ I e,Du];omega),λp hp t'=>(L) _ _ t' ((Ro.fresh hp t' rfl rfl (S.grow s1 U) B.all).from s1)⟩)⟩)
theorem aIf:∀b:Bi,aEO b=true->BA (lR b)=some (aJx b):=by intro b hb;cases b <;> first|kernel_rfl|cases hb
theorem fE:∀b:Bi,lR b∈bltNames:=by intro b;cases b <;> decide +kernel
theorem gB:∀b:Bi,lR b ≠ "__name__" := by intro b;cases b <;> decide +kernel
theorem aQp(M:Mc X P Γ n)(hb:aEO b=true)(hx:lR b=x)(L:cQ Γ x=true)(U:cF x=true)(I:PA X (e::es) (WA X P n RT Y old Z cs))(hp:(e::es).all bH=true) :
 PE X (.Call (.Name x p) (e::es) [] pos) (WE X P n RT Y old Z (.bi b cs)):=by
 subst hx;have B:bH e=true/\es.all bH=true:=by simpa using hp
 have body:∀(f:PE X (.Call (.Name (lR b) p) (e::es) [] pos) (tCB (rBi X b) (WA X P n RT Y old Z cs))),PE X (.Call (.Name (lR b) p) (e::es) [] pos) (WE X P n RT Y old Z (.bi b cs)):=λf=>f.imp λZV H Q t ⟨S,h⟩=>by exact⟨S,(RE.bind' (h)).mono λvs W us H1 t1 s1 r1=>(aEU hb (S.grow s1 t1) r1 (W.mono λv W u H' t r=>W u H' t (r.from s1)))⟩
 refine body ?_;have r:=aHT M.calm M.room.gd M.units b hb;have G:=aIf b hb;cases b with
 | len=>exact qR r (M.gl L) (M.md.blt _ (fE _)) G I (gB _) (aX U) (aB B.1) (dQ B.2)|all=>exact qR r (M.gl L) (M.md.blt _ (fE _)) G I (gB _) (aX U) (aB B.1) (dQ B.2)|any=>exact qR r (M.gl L) (M.md.blt _ (fE _)) G I (gB _) (aX U) (aB B.1) (dQ B.2)|list=>exact oE r (M.gl L) (M.md.blt _ (fE _)) G I (gB _) (aX U) (aB B.1) (dQ B.2)|tuple=>exact oE r (M.gl L) (M.md.blt _ (fE _)) G I (gB _) (aX U) (aB B.1) (dQ B.2)|int=>exact oE r (M.gl L) (M.md.blt _ (fE _)) G I (gB _) (aX U) (aB B.1) (dQ B.2)|_=>cases hb
theorem aIg(I:Sx X.K RT Y old Z ZV H1)(s1:aW H H1)(s':aW H1 H')(h:Rr X.K H1 H' (λb=>Od X.K H1 b/\exV RT Y old Z ZV (dP vs) (bY vs) b) r u) :
 Ro X.K RT Y old Z ZV H H' (iU vs r) u:=by
 obtain⟨d,fr,pa⟩:=r;have B:∀b,exV RT Y old Z ZV (iU vs (d,fr,pa)).pa (iU vs (d,fr,pa)).al b->(Od X.K H1 b/\exV RT Y old Z ZV (dP vs) (bY vs) b)\/(pa=false/\Od X.K H1 b):=by
  intro b z;cases pa with
  | true=>exact .inl ⟨(exV.trk I z),z⟩|false=>exact .inr ⟨rfl,(exV.trk I z)⟩
 have G:(iU vs (d,fr,pa)).fr=fr:=by unfold iU;split <;> rfl
 have U:(iU vs (d,fr,pa)).d=d:=by unfold iU;split <;> rfl
 refine⟨s1.trans s',?_⟩;rw[G];unfold Rr at h;cases fr with
 | true=>rw[if_pos rfl] at h ⊢;obtain⟨a,xs,ds,W,e2,L,e4,rr⟩:=h;exact⟨a,xs,ds,W,by rw[U];exact e2,⟨s1.free L.1,L.2⟩,e4,rr.weak λb z=>z.elim (λz=>.inl z) λz=>.inr (B b z)⟩|false=>rw[if_neg bN] at h ⊢;unfold Rv;rw[U];exact Rep.weak h B
theorem aFg(S:Sx X.K RT Y old Z ZV H)(h:RE (wx X ZV H) (ev P (call P n) Z (.call f cs)) (Wn X RT Y old Z ZV H Q)) :
 WA X P n RT Y old Z cs ZV H λus H1=>spF X.K P n f (us++[]) H1 (λv H'=>Tk X.K H'->Q v H') (λc _ H'=>RX X c ZV H'):=by
 refine⟨S,(RE.bind' (h)).mono λvs L us H1 G s1 U=>?_⟩;refine⟨vs.map (·.d),λb=>Od X.K H1 b/\exV RT Y old Z ZV (dP vs) (bY vs) b,λa z=>z.1,by rw[C9];exact U.all.weak λa z=>z.2,((RE.bind' L).weak λx hx=>?_).mono λr I u H' t' B rr _=>?_⟩;cases x with
 | err c fs=>exact λcls H' q t' B=>hx H' t' (s1.trans B) cls q|_=>exact(hx H1 G s1).elim
 exact(I) u H' t' (aIg (S.grow s1 G) s1 B rr)
theorem aKO(M:Mc X P Γ n){es:List AE}(hf:Γ.fns[f]? = some x)(W:cQ Γ x=true)(ho:cF x=true)(ha:PA X es (WA X P n RT Y old Z cs))(hp:es.all bH=true)(hc:chkEs Γ cs es=true) :
 PE X (.Call (.Name x p) es [] pos) (WE X P n RT Y old Z (.call f cs)):=by
 obtain⟨fa,fd,ps,h1,h2,L,U⟩:=M.md.fn f x hf;cases es with
 | cons e es=>
  have B:bH e=true/\es.all bH=true:=by simpa using hp
  intro pins s ZV H Q I h;exact Bv (kN I (M.gl W) h1 (PySem.W.callWith_K I.ok.mod.kin h2 (thn (ha pos pins s ZV H _ I (aFg h.1 h.2)) λus s1 ⟨vs,H1,G,r,q⟩=>⟨G.kIn,(thn (aCa U M.room L .nil (aBZ X) G r q) λu s2 z=>EP.tk z)⟩) (aB B.1) (dQ B.2)) (aX ho))
 | nil=>
  cases cs with
  | k _ _=>cases hc|z=>intro pins s ZV H Q I h;exact Bv (kN I (M.gl W) h1 (PySem.W.callWith_K0 I.kIn h2 (thn (aCa U M.room L .nil (aBZ X) I .nil ((aFg h.1 h.2).2 [] H I.tk (aW.refl H) rfl)) λu s2 z=>EP.tk z)) (aX ho))
theorem iY(M:Mc X P Γ n)(hx:fD Γ i x=true):PE X (.Name x p) (aAB i):=by unfold fD at hx;simp only[bA] at hx;obtain⟨⟨h1,h2⟩,B⟩:=hx;exact nZ (by rw[M.N];exact eq_of_beq h1) (M.vis h2) (aX B) (kQ B)
theorem aNF(M:Mc X P Γ n)(hy:fD Γ i y=true)(W:c∈Γ.pls):PE X (.Attribute (.Name y np) "place" p) (WE X P n RT Y old Z (.plc i c)):=by
 obtain⟨C,fI,_,_,_,_,_,bd,ns,ey,_,G,_⟩:=M.md.pls c W;refine(aKM (iY M hy) rfl).imp λZV H Q t ⟨S,h⟩=>?_;obtain⟨d,e,h⟩:=RE.calmEq (RE.bind' (h));unfold aKy at e;split at e;rename_i pa k m hs;split at e;rename_i hk;subst hk;cases e;obtain⟨u,hu,a,I,rfl,dd,U,B,_,hp⟩:=S.sh i pa _ hs;obtain⟨dx,rfl,hx⟩:=hp m rfl;have L:I=C:=by have:=ns.symm.trans B;simpa using this.symm
 subst L;exact⟨a,_,dx,.int m,hu,U,hx,G,λt'=>(h) (.int m) H t' (Ro.cl (aW.refl _) rfl)⟩;cases e;cases e
theorem aKP(M:Mc X P Γ n){p G:Ht}(hm:m=("get" : Str))(hx:Γ.tbs[i]? = some x)(W:cQ Γ x=true)(ho:cF x=true)(hl:(G.endLine==pos.line)=true)
 (U:PE X ea (WE X P n RT Y old Z a)) (hp:bH ea=true):PE X (.Call (.Attribute (.Name x p) m G) [ea] [] pos) (WE X P n RT Y old Z (.tget i a)):=by
 subst hm;obtain⟨b,t,h1,h2,L⟩:=M.md.tab i x hx;refine(aHU L (M.gl W) h1 (aX ho) U hl (aB hp)).imp λZV H Q tk ⟨S,h⟩=>?_;refine wE.one S (RE.bind' (h)) λy u H1 B t1 S1 I=>?_;rw[h2] at B;cases hd:y.d with
 | str k=>
  rw[hd] at B;have hu:u=.str k:=by have z:=I.rv S;unfold Rv at z;rw[hd] at z;exact z
  exact⟨k,hu,λv hv t'=>(B) v H1 t' (Ro.val I.1 (hv H1))⟩
 | _=>rw[hd] at B;exact B.elim
theorem aDB(B:yV c=some cv)(hx:aAM Γ c=some x):BA x=some cv/\x∈bltNames/\x ≠ "__name__" := by cases c <;> cases B <;> cases hx <;> exact⟨by kernel_rfl,by decide +kernel,by decide +kernel⟩
theorem aNG(M:Mc X P Γ n)(hf:f=("isinstance" : Str))(hg:cQ Γ f=true)(hc:yV c=some cv)(hx:aAM Γ c=some x)(G:cQ Γ x=true)(U:cF x=true)
 (ha:PE X ea (WE X P n RT Y old Z a)) (hp:bH ea=true):PE X (.Call (.Name f pf) [ea,.Name x py] [] pos) (WE X P n RT Y old Z (.isi a [c])):=by subst hf;intro pins s ZV H Q I hw;obtain⟨S,h⟩:=hw;obtain⟨b1,b2,b3⟩:=aDB hc hx;refine Bv (eI I (M.gl hg) (M.md.blt _ (by decide +kernel)) (show BA "isinstance" = some (.builtin "isinstance") by kernel_rfl) ?_ (by decide +kernel) (by decide +kernel));refine BB ?_ (aB hp) rfl;rw[aB hp];refine BY (thn (ha pins s ZV H (λu H1=>∃y k,Rv X.K RT Y old Z ZV H1 y u/\isI [c] P y.d=some k/\Q (.bl k) H1) I (wE.one S (RE.bind' (h)) λy u H1 B t1 S1 r1=>?_)) λv s1 ⟨u,H1,W,ru,y,k,B,L,q⟩=>?_);split at B;rename_i k L;exact⟨y,k,r1.rv S,L,(B) _ _ t1 (Ro.cl r1.1 rfl)⟩;exact B.elim;show An _ _ (K0 ((false,De (.Name x py) X.env)::DZ pos (AW [] X.env))) _ _ s1;exact BY (eI W (M.gl G) (M.md.blt _ b2) b1 (Dr (aDx P W ru B hc L q)) b3 (aX U))
def aFh(X:Cx)(cls:List Str):Cl->V->Prop
 | .own x,v=>x∈cls/\∃C2,X.mg x=some (.ref C2)/\v=.ref C2|.tValueError,v=>v=.ty "ValueError"|_,_=>False
def aCj(X:Cx)(cls:List Str):List Cl->List V->Prop
 | [],vs=>vs=[]
 | c::cs,vs=>∃v r,vs=v::r/\aFh X cls c v/\aCj X cls cs r
def ClV(X:Cx)(cls:List Str)(cs:List Cl)(v:V)(H:Hp):Prop:=(∃c,cs=[c]/\aFh X cls c v)\/∃p vs,v=.ref p/\SqT X.K H p vs/\aCj X cls cs vs
theorem aFi{ab:List Cl}(E:uG X.K X.mg Γ.cls c ab C)(h:aFh X Γ.cls z v)(r:bV v u):Dx X.K (.ref C) u=some (ab.contains z):=by
 cases z with
 | own x=>obtain⟨hm,C2,h1,rfl⟩:=h;obtain⟨G,B,I,_⟩:=E.ow x hm;rw[h1] at B;cases B;cases r;exact I|tValueError=>subst h;cases r;exact E.ve|_=>exact h.elim
theorem aFj{ab:List Cl}(E:uG X.K X.mg Γ.cls c ab C):∀{cs:List Cl} {vs:List V} {us:List Value},aCj X Γ.cls cs vs->bJ vs us->IN X.K (.ref C) us=some (cs.any λz=>ab.contains z)
 | [],vs,us,h,r=>by subst h;cases r;rfl|z::cs,vs,us,h,r=>by
  obtain⟨v,rr,e,h1,h2⟩:=h;subst e;cases r with
  | cons q t=>
   rw[G4];unfold IN;rw[(aFi E h1 q)];cases hb:ab.contains z with
   | true=>rfl|false=>exact(aFj E h2 t)
theorem aFk(M:Mc X P Γ n)(hf:f=("isinstance" : Str))(hg:cQ Γ f=true)(ha:PE X ea (WE X P n RT Y old Z a))(hp:bH ea=true)(hy:PE X y tc)(q1:bH y=true)
 (q7:∀ZV H Q,(∀v H',aW H H'->ClV X Γ.cls cs v H'->Q v H')->tc ZV H Q):PE X (.Call (.Name f pf) [ea,y] [] pos) (WE X P n RT Y old Z (.isx a cs)):=by
 subst hf;intro pins s ZV H Q I hw;obtain⟨S,h⟩:=hw;refine Bv (eI I (M.gl hg) (M.md.blt _ (by decide +kernel)) (show BA "isinstance" = some (.builtin "isinstance") by kernel_rfl) ?_ (by decide +kernel) (by decide +kernel));refine BB ?_ (aB hp) (by rw[aB q1];rfl);rw[aB hp];refine BY (thn (ha pins s ZV H (λu H1=>∃z k,Rv X.K RT Y old Z ZV H1 z u/\isX cs P z.d=some k/\∀U,Tk X.K U->aW H1 U->Q (.bl k) U) I (wE.one S (RE.bind' (h)) λz u H1 L t1 S1 r1=>?_)) λv s1 ⟨u,H1,I1,ru,z,k,L,B,q⟩=>?_);split at L;rename_i k B;exact⟨z,k,r1.rv S,B,λU t2 s2=>(L) _ _ t2 (Ro.cl (r1.1.trans s2) rfl)⟩;exact L.elim;rw[aB q1];refine BY (thn (hy pins s1 ZV H1 (λv U=>aW H1 U/\ClV X Γ.cls cs v U) I1 (q7 ZV H1 _ λv U s2 c=>⟨s2,c⟩)) λcv s2 ⟨v2,U,W,r2,sm,G⟩=>Dr ?_);have q0:∀tk,EP X pins ZV Q (.bool k) { s2 with toks:=tk }:=λtk=>⟨.bl k,U,W.tok tk,rfl,q U W.tk sm⟩
 have L:=L.grow sm;unfold isX at B;split at B;rename_i hd;unfold Rv at L;rw[hd] at L;subst L;subst ru;split at B;have B:=Aq B;subst B;rcases G with⟨c1,e1,G⟩|⟨p,vs,rfl,hq,w0,r0,rfl,G,q3⟩
 cases e1;subst G;cases r2;exact Co EX W.kIn trivial rfl (λz=>nomatch z) q0;have G:=G;subst G q3;obtain⟨q8,v3,t3,_⟩:=W.tuple hq;obtain⟨o,h1,h2,nn,h3⟩:=t3;obtain⟨oc,od,q9,osl⟩:=o;dsimp only at h2 h3;subst h2 h3;cases r2;cases v3 with
 | cons r3 r4=>cases r3;cases r4;exact Id EX W.kIn trivial h1 rfl (λz=>nomatch z) q0
 cases B;rename_i c fs hd;unfold Rv at L;rw[hd] at L;obtain⟨b,C1,e1,dd,hH,q5,q4⟩:=L;subst e1;cases ru;split at B;rename_i ab q2;obtain⟨C,E⟩:=M.md.exc c ab q2;have e:C=C1:=by have:=E.ns.symm.trans q5;simpa using this
 subst e;have B:=Aq B;have hI:∃o od,PySem.W.InstAt s2.heap b o C od:=by
  obtain⟨o,i1,i2,i3,i4⟩:=(W.hok b _ hH).1;cases dd with
  | none=>exact⟨o,none,i1,i2,i3,by rw[i4];trivial⟩|some dx=>obtain⟨fs,hf⟩:=q4.1 dx rfl;obtain⟨od,q6⟩:=(W.hok dx _ hf).old;exact⟨o,some od,i1,i2,i3,by rw[i4];exact q6⟩
 rcases G with⟨c1,rfl,G⟩|⟨p,vs,rfl,hq,G⟩
 refine Co (zA E.xc) W.kIn hI ?_ (λz=>nomatch z) q0;rw[aFi E G r2,<-B];simp;obtain⟨q8,v3,t3,_⟩:=W.tuple hq;obtain⟨o,h1,h2,nn,h3⟩:=t3;obtain⟨oc,od,q9,osl⟩:=o;dsimp only at h2 h3;subst h2 h3;cases r2;refine Id (zA E.xc) W.kIn hI h1 ?_ (λz=>nomatch z) q0;rw[aFj E G v3,<-B];cases B;cases B
def tCs(vs:List V):TA:=λ_ H Q=>Q vs H
theorem zD(h:aBU Γ c y=true):∃x p,c=.own x/\y=.Name x p/\cQ Γ x=true/\cF x=true/\x∈Γ.cls:=by unfold aBU at h;split at h;rename_i x z p;simp only[bA] at h;obtain⟨⟨⟨h1,h2⟩,B⟩,G⟩:=h;have e:=eq_of_beq h1;subst e;exact⟨z,p,rfl,rfl,h2,B,by simpa using G⟩;cases h
theorem aFl(M:Mc X P Γ n):∀{cs:List Cl} {es:List AE},aBV Γ cs es=true->∃vs,PA X es (tCs vs)/\aCj X Γ.cls cs vs/\vs.length=es.length
 | [],[],_=>⟨[],gG,rfl,rfl⟩
 | [],_::_,h=>by cases h|_::_,[],h=>by cases h|z::cs,y::ys,h=>by unfold aBV at h;obtain⟨h1,h2⟩:=(bA _ _).mp h;obtain⟨vs,i1,i2,B⟩:=aFl M h2;obtain⟨x,p,rfl,rfl,g1,g2,g3⟩:=zD h1;obtain⟨C2,q,_⟩:=M.md.cls x g3;exact⟨.ref C2::vs,eQ (pU (v:=.ref C2) (M.gl g1) q rfl (aX g2)) i1 (aB rfl),⟨_,_,rfl,⟨g3,C2,q,rfl⟩,i2⟩,by rw[lC,lC,B]⟩
end
theorem rM(B:bH ec=true):Jv [o,o'] [eb,ec]=false:=rK B
theorem aKQ(M:Mc X P Γ n)(ha:PE X ea (WE X P n RT Y old Z a))(hb:PE X eb (WE X P n RT Y old Z b))(hc:PE X ec (WE X P n RT Y old Z c))(hq:bH ec=true) :
 PE X (.Compare ea [o,o'] [eb,ec] pos) (WE X P n RT Y old Z (.cmp2 o o' a b c)):=by refine(aEw (kR (RT:=RT) (Y:=Y) (old:=old) M o) (kR (RT:=RT) (Y:=Y) (old:=old) M o') ha hb hc (rM hq)).imp λZV H Q t ⟨S,h⟩=>?_;have h:=RE.bind' (h);refine wE.two S (h.mono λx hx=>RE.bind' hx) λx y ux uy H2 hp t2 s2 W hx I=>?_;split at hp;rename_i B;refine⟨Z,ZV,x,y,true,hx,I,B,true,rfl,?_⟩;refine wE.one W ((RE.bind' hp).at s2) λz u H3 L t3 S3 U=>?_;split at L;rename_i k' G;exact⟨Z,ZV,y,z,k',I.grow U.1,U.rv W,G,λt'=>L _ _ t' (Ro.cl (s2.trans U.1) rfl)⟩;exact L.elim;rename_i B;refine⟨Z,ZV,x,y,false,hx,I,B,false,rfl,?_⟩;exact λt'=>hp _ _ t' (Ro.cl s2 rfl);exact hp.elim
theorem aKR(M:Mc X P Γ n)(ha:PE X ea (WE X P n RT Y old Z a))(hb:PE X eb (WE X P n RT Y old Z b))(hc:PE X ec (WE X P n RT Y old Z c))(hq:bH ec=true) :
 PT X (.Compare ea [o,o'] [eb,ec] pos) (WT X P n RT Y old Z (.cmp2 o o' a b c)):=by refine(aEx (kR (RT:=RT) (Y:=Y) (old:=old) M o) (kR (RT:=RT) (Y:=Y) (old:=old) M o') ha hb hc (rM hq)).imp λZV H Q t ⟨S,h⟩=>?_;have h:=RE.bind' (h);refine wE.two S (h.mono λx hx=>RE.bind' hx) λx y ux uy H2 hp t2 s2 W hx I=>?_;split at hp;rename_i B;refine⟨Z,ZV,x,y,true,hx,I,B,true,rfl,?_⟩;refine wE.one W ((RE.bind' hp).at s2) λz u H3 L t3 S3 U=>?_;split at L;rename_i k' G;exact⟨Z,ZV,y,z,k',I.grow U.1,U.rv W,G,k',rfl,λt'=>L _ t' (s2.trans U.1)⟩;exact L.elim;rename_i B;refine⟨Z,ZV,x,y,false,hx,I,B,false,rfl,?_⟩;exact⟨false,rfl,λt'=>hp _ t' s2⟩;exact hp.elim
theorem cU(B:PT X ea (WT X P n RT Y old Z a)):PT X (.UnaryOp .Not ea pos) (WT X P n RT Y old Z (.nt a)):=by exact(aJW B).imp λZV H Q t ⟨S,h⟩=>(⟨S,(RE.bind' (h)).mono λk G H1 I s1 t'=>(G) _ t' s1⟩)
theorem aFm(h:PW X e t)(f:∀ZV H Q,Tk X.K H->t' ZV H Q->t ZV H λv H'=>Tk X.K H'->Q v H'):PW X e t':=λL pins s ZV H Q I G=>thn (h L pins s ZV H _ I (f ZV H Q I.tk G)) λk U ⟨H',B,q⟩=>⟨H',B,q B.tk⟩
theorem aNH(I:PT X ea (WT X P n RT Y old Z a))(hb:PW X (.BoolOp .And (G::r) pos) (WT X P n RT Y old Z b)):PW X (.BoolOp .And (ea::G::r) pos) (WT X P n RT Y old Z (.an a b)):=by
 refine aFm (aJV I hb) λZV H Q t ⟨S,h⟩=>?_;refine⟨S,(RE.bind' (h)).mono λk B H1 W s1=>?_⟩;cases k with
 | true=>rw[if_pos rfl] at B ⊢;exact⟨S.grow s1 W,(B.at s1).mono λv L H' t U _=>L H' t (s1.trans U)⟩|false=>rw[if_neg bN] at B ⊢;exact λt'=>(B) _ t' s1
theorem aJz(I:PT X ea (WT X P n RT Y old Z a))(hb:PW X (.BoolOp .Or (G::r) pos) (WT X P n RT Y old Z b)):PW X (.BoolOp .Or (ea::G::r) pos) (WT X P n RT Y old Z (.orr a b)):=by
 refine aFm (aMG I hb) λZV H Q t ⟨S,h⟩=>?_;refine⟨S,(RE.bind' (h)).mono λk B H1 W s1=>?_⟩;cases k with
 | true=>rw[if_pos rfl] at B ⊢;exact λt'=>(B) _ t' s1|false=>rw[if_neg bN] at B ⊢;exact⟨S.grow s1 W,(B.at s1).mono λv L H' t U _=>L H' t (s1.trans U)⟩
def wO(X:Cx)(P:Pg)(n:Nat)(RT Y old:Addr->Prop)(Z:Sg)(cs:Es):TO:=λZV H Q=>Sx X.K RT Y old Z ZV H/\RE (wx X ZV H) (evs P (call P n) Z cs) λvs=>(vs=[]/\∀H',Tk X.K H'->aW H H'->Q none H')\/∃v i,vs=[v]/\v.d=.int i/\∀H',Tk X.K H'->aW H H'->Q (some i) H'
theorem aFn(h:PO X e t)(f:∀ZV H Q,Tk X.K H->t' ZV H Q->t ZV H λv H'=>Tk X.K H'->Q v H'):PO X e t':=λpins s ZV H Q I G=>thn (h pins s ZV H _ I (f ZV H Q I.tk G)) λu L ⟨o,H',B,r,q⟩=>⟨o,H',B,r,q B.tk⟩
theorem aNI:PO X none (wO X P n RT Y old Z .z):=aFn aHE λZV H Q t ⟨S,h⟩ t'=>by
 rcases(h) with⟨_,q⟩|⟨v,i,e,_⟩
 exact q H t' (aW.refl H);cases e
theorem aNJ(G:PE X e (WE X P n RT Y old Z c)):PO X (some e) (wO X P n RT Y old Z (.k c .z)):=by
 refine aFn (aHF G) λZV H Q t ⟨S,h⟩=>?_;refine wE.one S (RE.bind' (h)) λx u H1 hx L I B=>?_;rcases(hx) with⟨e,_⟩|⟨v,i,e,hd,q⟩
 cases e;cases e;exact⟨i,(B.rv S).int hd,λt'=>q _ t' B.1⟩
theorem RE.eqc{α:Type}{x:R α}{p:α->Prop}{w:D->Prop}(h:RE w x p)(n:∀z,x≠.exc z):∃a,x=.ok a/\p a:=by
 cases x with
 | ok a=>exact⟨a,rfl,h⟩|exc e=>exact absurd rfl (n e)|bad=>exact h.elim
theorem iZ{α:Type}{c:Bool}{x:R α}(h:∀z,x≠.exc z):∀z,R.iff c x≠.exc z:=λz q=>by unfold R.iff at q;split at q;exact h z q;cases q
theorem jA{α:Type}{a:α}:∀z,R.ok a≠.exc z:=λz q=>by cases q
theorem aIh{α:Type}:∀z,(R.bad:R α)≠.exc z:=λz q=>by cases q
theorem fN{α B:Type}{x:R α}{f:α->R B}(h:∀z,x≠.exc z)(g:∀a z,f a≠.exc z):∀z,(x >>= f)≠.exc z:=λz q=>by
 cases x with
 | ok a=>exact g a z q|exc e=>exact h e rfl|bad=>cases q
theorem aKS(o:Operator)(x y:Vl):∀z,opD o x y≠.exc z:=λz q=>by
 unfold opD at q;split at q
 . unfold aHN at q;split at q <;> first|(cases q;done)|exact iZ jA z q
 . unfold aHO at q;split at q <;> first|(cases q;done)|exact iZ jA z q
 all_goals first|(cases q;done)|(unfold aAK at q;split at q <;> first|(cases q;done)|exact iZ jA z q)
theorem aIi(x y:Vl):∀z,eA x y≠.exc z:=λz q=>by
 unfold eA at q
 repeat' split at q
 all_goals first|(cases q;done)|exact iZ jA z q|exact iZ aIh z q
theorem aIj(xs:List Vl):∀z,biD .len xs≠.exc z:=λz q=>by
 unfold biD at q;split at q
 . dsimp only[yL] at q;split at q <;> first|(cases q;done)|exact iZ jA z q
 cases q;cases q
theorem aFo(Z:Sg)(i:Nat):∀z,cT Z i≠.exc z:=λz q=>by unfold cT at q;split at q;unfold Sl.val at q;split at q <;> cases q;cases q
mutual
theorem kT:∀{c:E},jK c=true->∀z,ev P W Z c≠.exc z
 | .c _,_=>jA|.v i,_=>aFo Z i|.op o a b,h=>by obtain⟨h1,h2⟩:=(bA _ _).mp h;exact fN (kT h1) λx=>fN (kT h2) λy=>aKS o x y|.idx a b,h=>by obtain⟨h1,h2⟩:=(bA _ _).mp h;exact fN (kT h1) λx=>fN (kT h2) λy=>aIi x y|.bi b es,h=>by
  obtain⟨h1,h2⟩:=(bA _ _).mp h;have h1:b=.len:=by simpa using h1
  subst h1;exact fN (calm_evs h2) aIj
theorem calm_evs:∀{cs:Es},calmEs cs=true->∀z,evs P W Z cs≠.exc z
 | .z,_=>jA|.k a r,h=>by obtain⟨h1,h2⟩:=(bA _ _).mp h;exact fN (kT h1) λx=>fN (calm_evs h2) λy=>jA
end
theorem RE.monoE{α:Type}{x:R α}{p q:α->Prop}{w:D->Prop}(h:RE w x p)(f:∀a,x=.ok a->p a->q a):RE w x q:=by
 cases x with
 | ok a=>exact f a rfl h|exc e=>exact h|bad=>exact h
theorem aNK{a:E}{lo hi:Es}{ea:AE}{el eh:Option AE}{p2:Ht}(ha:PE X ea (WE X P n RT Y old Z a))(I:PO X el (wO X P n RT Y old Z lo))(B:PO X eh (wO X P n RT Y old Z hi))(q1:(aJw lo||calmEs hi)=true) :
 PE X (.Subscript ea (.Slice el eh none p2) pos) (WE X P n RT Y old Z (.sli a lo hi)):=by
 refine(aEE (aKH) ha I B).imp λZV H Q t ⟨S,h⟩=>?_;have h:=RE.bind' (h);refine wE.one S h λx u H1 hx t1 S1 r1=>?_;have cm:∀{l:Vl} {r:List Vl},evs P (call P n) Z lo=.ok (l::r)->∀z,evs P (call P n) Z hi≠.exc z:=λ{l r} e=>by
  rcases(B9 _ _).mp q1 with h|h;cases lo with
  | z=>cases e|k _ _=>cases h
  exact calm_evs h
 refine⟨S1,((RE.bind' hx).at r1.1).monoE λl el I=>?_⟩;have I:=RE.bind' I;have up:∀L W,Tk X.K W->aW H1 W->(RE (wx X ZV H) (evs P (call P n) Z hi) λh=>(h=[]/\RE (wx X ZV H) (fA x L none) (Wn X RT Y old Z ZV H Q))\/∃v i,h=[v]/\v.d=.int i/\RE (wx X ZV H) (fA x L (some i)) (Wn X RT Y old Z ZV H Q)) ->
  wO X P n RT Y old Z hi ZV W λhv G=>aEI X.K u L hv G (λv H'=>Tk X.K H'->Q v H')\/aEF X.K u L hv G (λv H'=>Tk X.K H'->Q v H')\/yU X.K u L hv G (λv H'=>Tk X.K H'->Q v H')\/aET u L hv G (λv H'=>Tk X.K H'->Q v H'):=by
  intro L W t2 s2 B;refine⟨S1.grow s2 t2,(B.at (r1.1.trans s2)).mono λhv hq=>?_⟩;have q0:∀U G,Tk X.K G->aW W G->RE (wx X ZV H) (fA x L U) (Wn X RT Y old Z ZV H Q) ->
   aEI X.K u L U G (λv H'=>Tk X.K H'->Q v H')\/aEF X.K u L U G (λv H'=>Tk X.K H'->Q v H')\/yU X.K u L U G (λv H'=>Tk X.K H'->Q v H')\/aET u L U G (λv H'=>Tk X.K H'->Q v H'):=λU G t3 s3 hs=>
   aDu (S1.grow (s2.trans s3) t3) t3 ((r1.rv S).grow (s2.trans s3)) (hs.mono λv hv u H' t r=>hv u H' t (r.from (r1.1.trans (s2.trans s3))))
  rcases hq with⟨e,hs⟩|⟨v,i,e,hd,hs⟩
  exact .inl ⟨e,λG t3 s3=>q0 none G t3 s3 hs⟩;exact .inr ⟨v,i,e,hd,λG t3 s3=>q0 (some i) G t3 s3 hs⟩
 match l,el,I with
 | [],_,I=>
  refine .inl ⟨rfl,λW t2 s2=>up none W t2 s2 (I.mono λh B=>?_)⟩
  match h,B with
  | [],B=>exact .inl ⟨rfl,B⟩|[h],B=>have B:RE _ (match h.d with|.int h=>R.iff (aT h) (fA x none (some h))|_=>.bad) _:=B;split at B;rename_i i hd;exact .inr ⟨h,i,rfl,hd,B.iff.2⟩;exact B.elim|_::_::_,B=>exact B.elim
 | [l],el,I=>
  have hd:∃i,l.d=.int i:=by
   obtain⟨h,_,B⟩:=I.eqc (cm el)
   match h,B with
   | [],B=>have B:RE _ (match l.d with|.int l=>R.iff (aT l) (fA x (some l) none)|_=>.bad) _:=B;split at B;rename_i i hd;exact⟨i,hd⟩;exact B.elim|[h],B=>have B:RE _ (match l.d,h.d with|.int l,.int h=>R.iff (aT l&&aT h) (fA x (some l) (some h))|_,_=>.bad) _:=B;split at B;rename_i i j hd _;exact⟨i,hd⟩;exact B.elim|_::_::_,B=>exact B.elim
  obtain⟨i,hd⟩:=hd;refine .inr ⟨l,i,rfl,hd,λW t2 s2=>up (some i) W t2 s2 (I.mono λh B=>?_)⟩
  match h,B with
  | [],B=>have B:RE _ (match l.d with|.int l=>R.iff (aT l) (fA x (some l) none)|_=>.bad) _:=B;rw[hd] at B;exact .inl ⟨rfl,B.iff.2⟩|[h],B=>have B:RE _ (match l.d,h.d with|.int l,.int h=>R.iff (aT l&&aT h) (fA x (some l) (some h))|_,_=>.bad) _:=B;rw[hd] at B;split at B;rename_i i' j e1 e2;cases e1;exact .inr ⟨h,j,rfl,e2,B.iff.2⟩;exact B.elim|_::_::_,B=>exact B.elim
 | _::_::_,el,I=>exact(by
     obtain⟨h,_,B⟩:=I.eqc (cm el)
     match h,B with
     | [],B=>exact B.elim|[_],B=>exact B.elim|_::_::_,B=>exact B.elim)
end Hp
namespace L2
open PySem PySem.Spec PyProof.Rows
instance:LawfulBEq Key where
 eq_of_beq:=λ{a b} h=>by
  cases a with
  | inl x=>cases b with|inl y=>exact congrArg Fy (eq_of_beq (show(x==y)=true from h))|inr y=>cases h
  | inr x=>cases b with|inl y=>cases h|inr y=>exact congrArg BP (eq_of_beq (show(x==y)=true from h))
 rfl:=λ{a}=>by
  cases a with
  | inl x=>exact(beq_self_eq_true x:(x==x)=true)|inr x=>exact(beq_self_eq_true x:(x==x)=true)
def mV(Z:List Key)(v:Key):List Key:=if Z.any (·==v) then Z else Z++[v]
def eJ(ks:List Key):List Key:=ks.foldl mV []
theorem pI(B:List Key)(k:Key):eJ (B++[k])=mV (eJ B) k:=by unfold eJ;rw[Ds];rfl
theorem aDC(Z:List Key)(v k:Key):(mV Z v).any (·==k)=(Z.any (·==k)||decide (k=v)):=by
 unfold mV;by_cases h:Z.any (·==v)=true;rw[if_pos h];by_cases e:k=v;subst e;rw[h];simp;simp[e];rw[if_neg h,List.any_append];by_cases e:k=v;subst e;simp;have hb:(v==k)=false:=by
  cases q:v==k with
  | false=>rfl|true=>exact absurd (eq_of_beq q).symm e
 simp[hb,e]
theorem uI(Z:List Key)(v:Key):(mV Z v).length=if Z.any (·==v)=true then Z.length else Z.length+1:=by unfold mV;split <;> simp
theorem uJ:∀(B:List Key) (Z:List Key),(B.foldl mV Z).length<=Z.length+B.length
 | [],Z=>by simp|k::B,Z=>by
  have h1:=uJ B (mV Z k);have h2:(mV Z k).length<=Z.length+1:=by rw[uI];split <;> omega
  rw[Cm,lC];omega
def aFp(prog:AB)(w:AV)(vs:List Value)(ks:List Key):Prop:=Fc (λv k=>(bX prog w).is k v=true) vs ks
theorem aFp.get:∀{vs:List Value} {B:List Key},aFp prog w vs B->∀{i:Nat} {v:Value},vs[i]? = some v->∃k,B[i]? = some k/\(bX prog w).is k v=true
 | _,_,.nil,_,_,h=>by simp at h|_,_,.cons r _,0,_,h=>by simp at h;subst h;exact⟨_,rfl,r⟩|_,_,.cons _ t,i+1,v,h=>by obtain⟨k,h1,h2⟩:=aFp.get t (i:=i) (v:=v) (by simpa using h);exact⟨k,by simpa using h1,h2⟩
theorem aIk{v:Value}(h:(bX prog w).is k v=true):v.scannable=true:=by rcases keyIs_shape h with⟨i,t,rfl,rfl⟩|⟨x,t,rfl,rfl⟩ <;> rfl
section
variable {prog:AB} {w:AV} {A:B6} {R:J3->Ad->Prop} {I:Addr} {fp wr:List Addr} {G:Array Ek->Array Ek->Prop} {n:Nat} {P:Nat->Value->Prop} {St:Nat->Ad->Prop}
theorem aDD(W0:WalksS prog w A.in1 I fp wr G n P St)(S:Addr)(q2:S∉fp)(L:List Key)(q7:∀i v,P i v->∃k,L[i]? = some k/\(bX prog w).is k v=true)(hn:L.length=n)(hb:n+1<DO) :
 ∀(m i:Nat) (s:Ad),n-i=m->i<=n->St i s ->
  s.heap.SetOf (bX prog w) S (λk'=>(eJ (L.take i)).any (·==k')) (eJ (L.take i)).length ->
  (∀B,Moved (S::wr) G s B->B.heap.SetOf (bX prog w) S (λk'=>(eJ L).any (·==k')) (eJ L).length->R (.ok (.ret .none)) B) ->
  DF (Ay prog w) A (.builtin "set.update.loop" ⟨[.ref S,.ref I],[]⟩) R s:=by
 have sb:∀b∈wr,b∈S::wr:=λb hb=>Aj _ hb;have stay:∀{s B:Ad} {T:Key->Bool} {c:Nat},Moved wr G s B->s.heap.SetOf (bX prog w) S T c->B.heap.SetOf (bX prog w) S T c:=λhm hS=>by obtain⟨o,es,ep,t,ho,rest⟩:=hS;exact⟨o,es,ep,t,hm.heap S _ (λh=>q2 (W0.sub _ h)) ho,rest⟩
 intro m
 induction m with
 | zero=>
  intro i s hk hi q0 hS hR;obtain rfl:i=n:=by omega
  refine BW BD ?_;rw[CI AY _];show An _ A.in1 (Dm (.ref I) >>= _) _ _ s;refine Aa (W0.done s _ _ q0 λB hm=>?_);show An _ A.in1 (ret AZ) _ _ B;rw[Bw (by omega)] at hS;exact Ac (hR B (hm.mono sb) (stay hm hS))
 | succ m ih=>
  intro i s hk hi q0 hS hR;refine BW BD ?_;rw[CI AY _];show An _ A.in1 (Dm (.ref I) >>= _) _ _ s;refine Aa (W0.item i s _ _ (by omega) q0 λv B hP q5 hm=>?_);obtain⟨k,w4,U⟩:=q7 i v hP;have q8:=stay hm hS;have q6:L.take (i+1)=L.take i++[k]:=by rw[EG,w4];rfl
  show An _ A.in1 (Go [v] (Kq S v) >>= _) _ _ B;refine Aa (Bt ?_);unfold Kq;refine Bt ?_;have W:(eJ (L.take i)).length+1<DO:=by
   have h1:=uJ (L.take i) [];have h2:(L.take i).length<=i:=by rw[A8];omega
   unfold eJ;simp only[lN] at h1;omega
  refine Aa ((bX prog w).pyHash U ?_);refine wpAny_setAddHashed_of (knd:=bX prog w) (s:={ B with toks:=B.toks+1 }) U (aIk U) q8 W λh' q4 q9=>?_;have w3:h'.SetOf (bX prog w) S (λk'=>(eJ (L.take (i+1))).any (·==k')) (eJ (L.take (i+1))).length:=
   JY q9 (λk'=>by rw[q6,pI,aDC]) (by rw[q6,pI,uI])
  refine Ac ⟨Ei AY _,ih (i+1) _ (by omega) (by omega) (W0.frame _ B _ _ q5 (CC _) λb hb o e=>?_) w3 λw5 q3 q1=>?_⟩;rw[q4.2 b λh:b=S=>q2 (by rw[<-h];exact hb)];exact e;refine hR w5 (JZ W0.gtrans ((hm.mono sb).then_heap (CC _) λb o hb e=>?_) q3) q1;rw[q4.2 b λh:b=S=>hb (by rw[h];exact Ar)];exact e
end
section
variable {prog:AB} {w:AV} {A:B6} {E:Value->Ad->Prop} {s:Ad}
set_option maxHeartbeats 3200000 in
theorem aDE{items:Array Value}{W:List Key}{Q:Value->Ad->Prop}(hh:A.handled=none)(hl:s.heap.IsList l items)(hi:aFp prog w items.toList W)(hn:W.length=items.size)(hb:items.size+1<DO)
 (h:∀(h':Heap) (tk:Nat),h'.SetOf (bX prog w) s.heap.objs.size (λk'=>(eJ W).any (·==k')) (eJ W).length ->
  (∀b o,b<s.heap.objs.size->s.heap.get? b=some o->h'.get? b=some o)->Q (.ref s.heap.objs.size) { s with heap:=h',toks:=tk }) :
 An (Ay prog w) A (call (.type "set") [.ref l]) Q E s:=by
 obtain⟨c,tl,w9⟩:=AL.mro;have w4:=AL.made;have z2:=AL.sub;refine FD (Er ?_);show An _ _ (callAny (.type "set") _) _ _ _;refine Ac ⟨DK _ (by decide +kernel),BW Hl ?_⟩;rw[GK (FS "set" [.ref l] []) rfl];have h1:=AL.notType;have h2:=AL.canCreate;have z5:=FI (.ref l)
 repeat (any_goals (first|assumption|wp_step))
 refine Da (code_set_new_1 (.ref l) (E:=E) (Q₁:=λobj G=>∃led:Bool,obj=.ref s.heap.objs.size/\G={ s with heap:=s.heap.push { cls:=.type "set",dict:=none,data:=.set #[] 0 (.fresh 0 0 led) } }) λled=>⟨led,rfl,rfl⟩) λr G hr=>?_;cases r with
 | error e=>exact hr|ok fl=>
  cases fl with
  | ret obj=>
   obtain⟨led,rfl,rfl⟩:=hr;have z6:=AL.init.lookup;have z4:=AL.init.bind (.ref s.heap.objs.size)
   repeat (any_goals (first|assumption|wp_step))
   refine Da (CH (R:=wants (λr I=>r=.none/\∃h' tk,I={ s with heap:=h',toks:=tk } /\
    h'.SetOf (bX prog w) s.heap.objs.size (λk'=>(eJ W).any (·==k')) (eJ W).length /\
    (∀b o,b<s.heap.objs.size->s.heap.get? b=some o->h'.get? b=some o)) E) AL.init.plain HF (HG (⟨_,(Ak _ rfl),rfl⟩) ?_)) λq6 I B=>?_
   . obtain⟨ol,q5,q0,nl,q1⟩:=hl;obtain⟨z3,w6,w5,q7⟩:=ol;simp only at q0 q1;subst q0;subst q1;have z1:=Gd;have z0:=EH;have z7:(DX "list" == DX "dict")=false:=by decide
     have q3:(s.heap.push { cls:=.type "set",dict:=none,data:=.set #[] 0 (.fresh 0 0 led) }).IsList l items:=⟨_,(Ab _ q5),rfl,nl,rfl⟩
     unfold Builtin.«set.__init__» noKeywords Et;generalize q8:G8=PI
     wp_walk
     subst q8;refine CG q3 ?_;refine Aa (Ge ?_);have q4:l<s.heap.objs.size:=Ag q5;have q9:A.in1.in1.in1.handled=none:=by simp[hh]
     refine aDD ((GG q9 _ l (by rw[(AX _ _)];exact Aw (B4 q4)) items).toS) s.heap.objs.size
      (by
       rw[(AX _ _)];intro z;rcases As.mp z with q|q;exact absurd q (Aw (Bx _));exact absurd (Av.mp q) (Bq q4)) W
      (λi v hv=>hi.get (by rw[BX];exact hv)) hn hb (items.size-0) 0 _ (by omega) (B7 _)
      ⟨⟨_,Ak _ rfl,rfl,rfl⟩,(q3.push _)⟩ ?hS0 ?hR
     case hS0=>
      have q2:((s.heap.push { cls:=.type "set",dict:=none,data:=.set #[] 0 (.fresh 0 0 led) }).push { cls:=.type "list_iterator",data:=.fields #[.ref l,.int 0 0] }).get? s.heap.objs.size
       = some { cls:=.type "set",dict:=none,data:=.set #[] 0 (.fresh 0 0 led) }:=Ab _ (Ak _ rfl)
      exact JY ((setObjOf_fresh (knd:=bX prog w) led).setOf q2 (by unfold DO;omega)) (λ_=>rfl) rfl
     case hR=>intro s' hm U;obtain⟨h',g',d',w8,w7⟩:=s';have eg:g'=s.gens:=hm.gens;have ed:d'=s.drawn:=hm.drawn;have eo:w7=s.os:=hm.os;subst eg;subst ed;subst eo;show An _ _ _ _ _ _;refine Ac ?_;show An _ _ (ret AZ) _ _ _;refine Ac ⟨rfl,h',w8,rfl,U,λb o hb e=>?_⟩;refine hm.heap b o ?_ (Ab _ (Ab _ e));rw[(AX _ _)];intro z;rcases As.mp z with q|q;exact absurd q (Aw hb);exact absurd (Av.mp q) (Aw (B4 hb))
   . cases q6 with
     | error e=>exact B|ok L=>
      cases L with
      | ret r=>
       obtain⟨rfl,h',tk,rfl,U,w3⟩:=B
       repeat (any_goals (first|assumption|wp_step))
       exact h _ _ U w3
      | next=>exact B|brk=>exact B|cont=>exact B
  | next=>exact hr|brk=>exact hr|cont=>exact hr
end
end L2
namespace Hp
open PySem PySem.Spec PyProof.Rows L2
section
variable {X:Cx} {P:Pg} {Γ:Ct} {n:Nat} {RT Y old:Addr->Prop} {Z:Sg} {pos:Ht} {K:Fg} {H:Hp}
theorem oK:∀{ds:List D} {B:List Key} {ex:Addr->Prop} {vs:List V} {us:List Value},gI ds=some B->Reps K H ex ds vs->bJ vs us->aFp prog w us B/\B.length=ds.length
 | [],B,ex,vs,us,h,r,rv=>by cases h;rw[show vs=[] from r] at rv;cases rv;exact⟨.nil,rfl⟩|d::ds,B,ex,vs,us,h,r,rv=>by
  obtain⟨v,U,e,h1,h2⟩:=r;subst e;cases rv with
  | cons G I=>
   cases d with
   | str x=>
    unfold gI at h;cases q:gI ds with
    | none=>rw[q] at h;cases h|some L=>rw[q] at h;cases h;rw[show v=.str x from h1] at G;obtain⟨t,rfl⟩:=G;obtain⟨g1,g2⟩:=oK q h2 I;exact⟨.cons (yA prog w x t) g1,by rw[lC,lC,g2]⟩
   | int x=>
    unfold gI at h;cases q:gI ds with
    | none=>rw[q] at h;cases h|some L=>rw[q] at h;cases h;rw[show v=.int x from h1] at G;obtain⟨t,rfl⟩:=G;obtain⟨g1,g2⟩:=oK q h2 I;exact⟨.cons (xZ prog w x t) g1,by rw[lC,lC,g2]⟩
   | _=>cases h
theorem aFq(M:Mc X P Γ n)(hf:f=("len" : Str))(hg:cQ Γ f=true)(q2:g=("set" : Str))(q3:cQ Γ g=true)(ha:PE X ea (WE X P n RT Y old Z a))(hp:bH ea=true) :
 PE X (.Call (.Name f pf) [.Call (.Name g pg) [ea] [] p2] [] pos) (WE X P n RT Y old Z (.numset a)):=by
 subst hf q2;intro pins s ZV H Q I hw;obtain⟨S,h⟩:=hw;have h:=RE.bind' (h);refine Bv (eI I (M.gl hg) (M.md.blt _ (by decide +kernel)) PySem.boot_len ?_ (by decide +kernel) (by decide +kernel));refine BB ?_ (aB rfl) rfl;refine BY (Bv (eI I (M.gl q3) (M.md.blt _ (by decide +kernel)) (show BA "set" = some (.type "set") by kernel_rfl) ?_ (by decide +kernel) (by decide +kernel)));refine Ba (thn (eQ ha gG (aB hp) p2 pins s ZV H (λus H1=>∃x u,us=[u]/\Tk X.K H1/\Ro X.K RT Y old Z ZV H H1 x u/\RE (wx X ZV H) (match x.d with
  | .lst ds=>(match gI ds with|some ks=>R.iff (decide (ds.length<=1000)) (R.ok (Vl.cl (.int (aAL ks).length)))|none=>.bad)
  | _=>.bad) (Wn X RT Y old Z ZV H Q)) I ⟨S,h.mono λx hx u H1 t1 U=>⟨x,u,rfl,t1,U,hx⟩⟩) λus s1 ⟨vs,H1,W,r1,x,u,e1,t1,U,h⟩=>?_) (aB hp) rfl
 subst e1;obtain⟨u',rfl,ru⟩:=r1.one;cases hd:x.d with
 | lst ds=>
  rw[hd] at h;cases hk:gI ds with
  | none=>simp only[hk] at h;exact h.elim|some ks=>simp only[hk] at h;obtain⟨hl,h⟩:=h.iff;have hl:=of_decide_eq_true hl;obtain⟨b,xs,rfl,hS,_,rr⟩:=(U.rv S).lst hd;cases ru;obtain⟨q5,r2,p,_⟩:=W.list hS;obtain⟨hK,q4⟩:=oK hk rr r2;have l1:=rr.length;have l2:=r2.length;refine aDE (W.ok.hd M.calm) p.isList (by simpa using hK) (by rw[Ah];omega) (by rw[Ah];unfold DO;omega) λh' tk L B=>?_;refine Dr ?_;obtain⟨o,es,ep,tb,ho,q1,q0,_,_,hb,G,hn⟩:=L;refine PySem.call_len_set ho q1 q0 G (by unfold DO at hb;omega) ?_;refine⟨.int es.size,H1,(W.kept λb o e=>B b o (Ag e) e).tok _,⟨_,rfl⟩,?_⟩;rw[hn];exact(h) _ _ t1 (Ro.cl U.1 rfl)
 | _=>rw[hd] at h;exact h.elim
end
end Hp
namespace L2
open PySem PySem.Spec PyProof.Rows
def all16:List (List Nat):=(Ap 16).map λm=>(Ap 4).filter λk=>m / 2 ^ k % 2==1
def mB(led:Bool)(ks:List Nat):SetTable:={ mask:=7,place:=ks.toArray,dummies:=#[],finger:=0,led:=led,moves:=0,plain:=true }
def aAX(k:Nat)(ks:List Nat):Nat:=EI ks.toArray k
def jN(k:Nat)(ks:List Nat):List Nat:=ks.take (aAX k ks)++k::ks.drop (aAX k ks)
theorem aFr:∀led:Bool,∀B∈all16,∀k∈Ap 4,k∉B->(mB led B).freeSlot (k:Int)=some (k,false)/\(mB led B).put k=(mB led (jN k B),aAX k B)/\(mB led (jN k B)).fits (B.length+1)=true/\(mB led (jN k B)).tooFull=false/\jN k B∈all16:=by decide +kernel
theorem gK:∀led:Bool,∀B∈all16,(mB led B).fits B.length=true:=by decide +kernel
theorem aJA:∀k∈Ap 4,Ip (k:Int)=(k:Int):=by decide +kernel
def dA(tok:Nat->HQ)(ks:List Nat):Array (Int×Value):=(ks.map λ(k:Nat)=>((k:Int),BU (k:Int) (tok k))).toArray
theorem bS(tok:Nat->HQ)(B:List Nat):(dA tok B).size=B.length:=by unfold dA;rw[Ah,lM]
theorem zF{α:Type}(l:List α)(p:Nat)(x:α):Fa l.toArray p x=(l.take p++x::l.drop p).toArray:=by unfold Fa;apply Array.ext';simp[List.extract_eq_drop_take];rw[Bw (by rw[Bs];omega)]
theorem aKT(tok:Nat->HQ)(t:HQ)(G:k∉ks):Fa (dA tok ks) (aAX k ks) ((k:Int),BU (k:Int) t)=dA (λj=>if j=k then t else tok j) (jN k ks):=by
 unfold dA jN;rw[zF,A7,mC,Dk,Cs];have e:(ks.map λ(j:Nat)=>((j:Int),BU (j:Int) (if j=k then t else tok j)))=ks.map λ(j:Nat)=>((j:Int),BU (j:Int) (tok j)):=B1 λj B=>by rw[if_neg λz=>G (by rw[<-z];exact B)]
 rw[e];simp
def byT(w:AV):Bool:=w.params.followText "set-order"
def lL(w:AV)(h:Heap)(S:Addr)(ks:List Nat):Prop:=ks∈all16/\∃tok ep,h.get? S=some { cls:=.type "set",dict:=none,data:=.set (dA tok ks) ep (mB (!byT w) ks),slots:=#[] }
theorem aNL{tok:Nat->HQ}(h:ks∈all16):ElemsOf (Gn prog w) (dA tok ks).toList:=by
 intro e B;unfold dA at B;rw[Ew] at B;obtain⟨k,I,rfl⟩:=A0.mp B;have G:k∈Ap 4:=by obtain⟨m,_,rfl⟩:=A0.mp h;exact(BK.mp I).1
 exact⟨⟨(k:Int),IO _ _ _ _,(aJA k G).symm⟩,rfl⟩
theorem aNM{tok:Nat->HQ}{G:List Nat}(k:Nat):((dA tok G).toList.findIdx? λe=>(Gn prog w).is (k:Int) e.2)=if k∈G then G.findIdx? (·==k) else none:=by
 unfold dA;rw[Ew,List.findIdx?_map];have e:((λe:Int×Value=>(Gn prog w).is (k:Int) e.2)∘λj:Nat=>((j:Int),BU (j:Int) (tok j)))=λj:Nat=>(j==k):=by
  funext j
  show FW (k:Int) (BU (j:Int) (tok j))=(j==k)
  unfold FW;by_cases B:j=k;subst B;simp;have h1:(j==k)=false:=by simpa using B
  rw[h1];simp;omega
 rw[e];split;rfl;rename_i I;rw[EQ];intro j B;simpa using λz:j=k=>I (by rw[<-z];exact B)
theorem aQq{Q:Bool->Ad->Prop}(hS:lL w s.heap S B)(W:k∈Ap 4)
 (h:∀h' b,Cc S s.heap h'->lL w h' S (if k∈B then B else jN k B)->Q b { s with heap:=h' }):An (Ay prog w) A (JB S (.int (k:Int) t) (Ip (k:Int))) Q E s:=by
 obtain⟨G,tok,ep,L⟩:=hS;have q1:B.length<=4:=by
  have:∀B∈all16,B.length<=4:=by decide +kernel
  exact this B G
 unfold JB setAddHashedIn;refine Bt (Aa (DT L rfl (by rw[bS];exact gK _ B G) ?_));dsimp only;rw[byScan_of (knd:=Gn prog w) rfl (by rw[bS];unfold DO;omega) (aNL G)];simp only[↓reduceIte];unfold setAddByScan;refine Aa ?_;refine Aa (Ec ?_);refine Aa (wpAny_setScan_of (knd:=Gn prog w) (k:=(k:Int)) (IO _ _ _ _) L rfl (by rw[bS];exact gK _ B G) (aNL G) ?_);rw[aNM];by_cases hm:k∈B;rw[if_pos hm];obtain⟨j,hj⟩:∃j,B.findIdx? (·==k)=some j:=by
  cases q:B.findIdx? (·==k) with
  | some j=>exact⟨j,rfl⟩|none=>rw[EQ] at q;have:=q k hm;simp at this
 rw[hj];dsimp only;refine Ac (Ac ?_);have:=h s.heap false (K7 S s.heap) (by rw[if_pos hm];exact⟨G,tok,ep,L⟩);exact this;rw[if_neg hm];dsimp only;obtain⟨g1,g2,g3,g4,g5⟩:=aFr (!byT w) B G k W hm;have I:layNew (mB (!byT w) B) (dA tok B) (Ip (k:Int)) (.int (k:Int) t)=(dA (λj=>if j=k then t else tok j) (jN k B),mB (!byT w) (jN k B),false,false):=by
  have q0:(dA (λj=>if j=k then t else tok j) (jN k B)).size=B.length+1:=by
   rw[bS];unfold jN;rw[lA,lC,A8,Bs];have:aAX k B<=B.length\/B.length<aAX k B:=by omega
   rcases this with z|z;omega;exfalso;have q:∀B∈all16,∀k∈Ap 4,aAX k B<=B.length:=by decide +kernel
   have:=q B G k W;omega
  unfold layNew;rw[aJA k W,g1];dsimp only;rw[g2];dsimp only;rw[aKT tok t hm,q0,show(mB (!byT w) (jN k B)).orStandIn (B.length+1)=mB (!byT w) (jN k B) by unfold Kr;rw[g3,if_pos rfl],g3];rfl
 rw[I];dsimp only;refine Aa (Ac ?_);rw[if_pos (show(mB (!byT w) (jN k B)).plain=true from rfl),hashByValue_scannable 8 (x:=.int (k:Int) t) rfl];refine Aa (Ac ?_);rw[if_pos (show plainKind (.int (k:Int) t)=true from rfl)];have U:(dA (λj=>if j=k then t else tok j) (jN k B)).size<DO:=by
  have:∀B∈all16,B.length<=4:=by decide +kernel
  have:=this _ g5;rw[bS];unfold DO;omega
 refine Aa (wpAny_storeSet_of L rfl ?_ (fits_of_scanBound U));rw[g4];refine Ac ?_;refine Ac (h _ true (Ex s.heap S _) ?_);rw[if_neg hm];refine⟨g5,λj=>if j=k then t else tok j,ep+1,?_⟩;have:=Bh (Obj.putSet (dA (λj=>if j=k then t else tok j) (jN k B)) (mB (!byT w) (jN k B))) L rfl;exact this
def aAY(ks:List Nat)(k:Nat):List Nat:=if k∈ks then ks else jN k ks
def wK(ns:List Nat):List Nat:=ns.foldl aAY []
theorem aDF(ns:List Nat)(k:Nat):wK (ns++[k])=aAY (wK ns) k:=by unfold wK;rw[Ds];rfl
def aFs(vs:List Value)(ns:List Nat):Prop:=Fc (λv (n:Nat)=>n<4/\∃t,v=BU (n:Int) t) vs ns
theorem aFs.get:∀{vs:List Value} {ns:List Nat},aFs vs ns->∀{i:Nat} {v:Value},vs[i]? = some v->∃n,ns[i]? = some n/\n<4/\∃t,v=BU (n:Int) t
 | _,_,.nil,_,_,h=>by simp at h|_,_,.cons r _,0,_,h=>by simp at h;subst h;exact⟨_,rfl,r⟩|_,_,.cons _ t,i+1,v,h=>by obtain⟨k,h1,h2⟩:=aFs.get t (i:=i) (v:=v) (by simpa using h);exact⟨k,by simpa using h1,h2⟩
section
variable {prog:AB} {w:AV} {A:B6} {R:J3->Ad->Prop} {I:Addr} {fp wr:List Addr} {G:Array Ek->Array Ek->Prop} {n:Nat} {P:Nat->Value->Prop} {St:Nat->Ad->Prop}
theorem lL.keep{h h':Heap}(x:lL w h S ks)(e:∀o,h.get? S=some o->h'.get? S=some o):lL w h' S ks:=by obtain⟨a,tok,ep,B⟩:=x;exact⟨a,tok,ep,e _ B⟩
theorem aDG(W0:WalksS prog w A.in1 I fp wr G n P St)(S:Addr)(W:S∉fp)(ns:List Nat)(q3:∀i v,P i v->∃k,ns[i]? = some k/\k<4/\∃t,v=BU (k:Int) t)(hn:ns.length=n) :
 ∀(m i:Nat) (s:Ad),n-i=m->i<=n->St i s->lL w s.heap S (wK (ns.take i)) ->
  (∀B,Moved (S::wr) G s B->lL w B.heap S (wK ns)->R (.ok (.ret .none)) B) ->
  DF (Ay prog w) A (.builtin "set.update.loop" ⟨[.ref S,.ref I],[]⟩) R s:=by
 have nw:S∉wr:=λh=>W (W0.sub _ h);intro m
 induction m with
 | zero=>
  intro i s hk hi L hS hR;obtain rfl:i=n:=by omega
  refine BW BD ?_;rw[CI AY _];show An _ A.in1 (Dm (.ref I) >>= _) _ _ s;refine Aa (W0.done s _ _ L λB hm=>?_);show An _ A.in1 (ret AZ) _ _ B;rw[Bw (by omega)] at hS;exact Ac (hR B (hm.mono (λb hb=>Aj _ hb)) (hS.keep λo e=>hm.heap S o nw e))
 | succ m ih=>
  intro i s hk hi L hS hR;refine BW BD ?_;rw[CI AY _];show An _ A.in1 (Dm (.ref I) >>= _) _ _ s;refine Aa (W0.item i s _ _ (by omega) L λv B hP q2 hm=>?_);obtain⟨k,q5,q6,t,rfl⟩:=q3 i v hP;have q7:ns.take (i+1)=ns.take i++[k]:=by rw[EG,q5];rfl
  show An _ A.in1 (Go [BU (k:Int) t] (Kq S (BU (k:Int) t)) >>= _) _ _ B;refine Aa (Bt ?_);unfold Kq;refine Bt ?_;refine Aa ((Gn prog w).pyHash (k:=(k:Int)) (IO _ _ _ _) ?_);refine aQq (s:={ B with toks:=B.toks+1 }) (hS.keep λo e=>hm.heap S o nw e) (B5.mpr q6) λh' b q1 q4=>?_;refine Ac ⟨Ei AY _,ih (i+1) _ (by omega) (by omega) (W0.frame _ B _ _ q2 (CC _) λb hb o e=>?_) (by rw[q7,aDF];exact q4) λq8 q0 U=>?_⟩;rw[q1.2 b λh:b=S=>W (by rw[<-h];exact hb)];exact e;refine hR q8 (JZ W0.gtrans ((hm.mono (λb hb=>Aj _ hb)).then_heap (CC _) λb o hb e=>?_) q0) U;rw[q1.2 b λh:b=S=>hb (by rw[h];exact Ar)];exact e
end
section
variable {prog:AB} {w:AV} {A:B6} {E:Value->Ad->Prop} {s:Ad}
theorem aFt(a:Value){Q₁:Value->Ad->Prop}(h:Q₁ (.ref s.heap.objs.size) { s with heap:=s.heap.push { cls:=.type "set",dict:=none,data:=.set #[] 0 (.fresh 0 0 (!byT w)) } }) :
 DF (Ay prog w) A (.call (.builtin "set.__new__") ⟨[.type "set",a],[]⟩) (wants Q₁ E) s:=by
 refine Er ?_;show An _ A.in1 (do Ft "set.__new__" ⟨[.type "set",a],[]⟩;again (.builtin "set.__new__" ⟨[.type "set",a],[]⟩)) _ _ s;refine Aa (HY (F.newCall_set_1 a) (Ac ⟨Ei Ie _,BW F.entry_set_new ?_⟩));rw[CI Ie _];unfold Builtin.«set.__new__» IP;have B:=sub_set_self;obtain⟨hp,g,d,tk,os⟩:=s;dsimp only
 wp_walk
 refine D3 (Ac ?_);dsimp only;simp only[newObj];exact Aa (wpAny_alloc (Ac (Ac h)))
set_option maxHeartbeats 3200000 in
theorem aDH{items:Array Value}{ns:List Nat}{Q:Value->Ad->Prop}(hh:A.handled=none)(hl:s.heap.IsList l items)(hi:aFs items.toList ns)(hn:ns.length=items.size)
 (h:∀(h':Heap) (tk:Nat),lL w h' s.heap.objs.size (wK ns)->(∀b o,b<s.heap.objs.size->s.heap.get? b=some o->h'.get? b=some o)->Q (.ref s.heap.objs.size) { s with heap:=h',toks:=tk }) :
 An (Ay prog w) A (call (.type "set") [.ref l]) Q E s:=by
 obtain⟨c,tl,w8⟩:=AL.mro;have w3:=AL.made;have z1:=AL.sub;refine FD (Er ?_);show An _ _ (callAny (.type "set") _) _ _ _;refine Ac ⟨DK _ (by decide +kernel),BW Hl ?_⟩;rw[GK (FS "set" [.ref l] []) rfl];have h1:=AL.notType;have h2:=AL.canCreate;have z4:=FI (.ref l)
 repeat (any_goals (first|assumption|wp_step))
 refine Da (aFt (.ref l) (E:=E) (Q₁:=λobj G=>obj=.ref s.heap.objs.size/\G={ s with heap:=s.heap.push { cls:=.type "set",dict:=none,data:=.set #[] 0 (.fresh 0 0 (!byT w)) } }) ⟨rfl,rfl⟩) λr G hr=>?_;cases r with
 | error e=>exact hr|ok fl=>
  cases fl with
  | ret obj=>
   obtain⟨rfl,rfl⟩:=hr;generalize q3:(!byT w)=led at *;have z5:=AL.init.lookup;have z3:=AL.init.bind (.ref s.heap.objs.size)
   repeat (any_goals (first|assumption|wp_step))
   refine Da (CH (R:=wants (λr I=>r=.none/\∃h' tk,I={ s with heap:=h',toks:=tk }/\lL w h' s.heap.objs.size (wK ns) /\
    (∀b o,b<s.heap.objs.size->s.heap.get? b=some o->h'.get? b=some o)) E) AL.init.plain HF (HG (⟨_,(Ak _ rfl),rfl⟩) ?_)) λq5 I B=>?_
   . obtain⟨ol,q4,W,nl,q0⟩:=hl;obtain⟨z2,w5,w4,q6⟩:=ol;simp only at W q0;subst W;subst q0;have z0:=Gd;have w9:=EH;have z6:(DX "list" == DX "dict")=false:=by decide
     have q1:(s.heap.push { cls:=.type "set",dict:=none,data:=.set #[] 0 (.fresh 0 0 led) }).IsList l items:=⟨_,(Ab _ q4),rfl,nl,rfl⟩
     unfold Builtin.«set.__init__» noKeywords Et;generalize q7:G8=PI
     wp_walk
     subst q7;refine CG q1 ?_;refine Aa (Ge ?_);have q2:l<s.heap.objs.size:=Ag q4;have q8:A.in1.in1.in1.handled=none:=by simp[hh]
     refine aDG ((GG q8 _ l (by rw[(AX _ _)];exact Aw (B4 q2)) items).toS) s.heap.objs.size
      (by
       rw[(AX _ _)];intro z;rcases As.mp z with q|q;exact absurd q (Aw (Bx _));exact absurd (Av.mp q) (Bq q2)) ns
      (λi v hv=>hi.get (by rw[BX];exact hv)) hn (items.size-0) 0 _ (by omega) (B7 _)
      ⟨⟨_,Ak _ rfl,rfl,rfl⟩,(q1.push _)⟩ ?hS0 ?hR
     case hS0=>refine⟨show([]:List Nat)∈all16 by decide +kernel,λ_=>0,0,?_⟩;rw[q3];exact Ab _ (Ak _ rfl)
     case hR=>intro s' hm U;obtain⟨h',g',d',w7,w6⟩:=s';have eg:g'=s.gens:=hm.gens;have ed:d'=s.drawn:=hm.drawn;have eo:w6=s.os:=hm.os;subst eg;subst ed;subst eo;show An _ _ _ _ _ _;refine Ac ?_;show An _ _ (ret AZ) _ _ _;refine Ac ⟨rfl,h',w7,rfl,U,λb o hb e=>?_⟩;refine hm.heap b o ?_ (Ab _ (Ab _ e));rw[(AX _ _)];intro z;rcases As.mp z with q|q;exact absurd q (Aw hb);exact absurd (Av.mp q) (Aw (B4 hb))
   . cases q5 with
     | error e=>exact B|ok L=>
      cases L with
      | ret r=>
       obtain⟨rfl,h',tk,rfl,U,q9⟩:=B
       repeat (any_goals (first|assumption|wp_step))
       exact h _ _ U q9
      | _=>exact B.elim
  | _=>exact hr.elim
end
theorem cY:Slot "set_iterator" "__next__" "set_iterator.__next__" :=
 .of (owner:= "set_iterator") (n:= "__next__") (by rw[Ig];kernel_rfl) (by decide +kernel) (by decide +kernel) (by decide +kernel)
  (by first|exact .inl (by decide +kernel)|exact .inr (by decide +kernel)) (by kernel_rfl)
theorem jM:Ka table "set_iterator.__next__" = some Builtin.«set_iterator.__next__»:=entryFor_of_tree (by kernel_rfl)
theorem jY(a:Value):Ks "set_iterator.__next__" ⟨[a],[]⟩:=by unfold Ks;kernel_rfl
theorem rN:Ka table "set.__iter__" = some Builtin.«frozenset.__iter__»:=
 IQ (id':= "frozenset.__iter__") (by kernel_rfl) rfl (by decide +kernel) (by kernel_rfl)
theorem jZ:Slot "set_iterator" "__iter__" "set_iterator.__iter__" :=
 .of (owner:= "set_iterator") (n:= "__iter__") (by rw[Ig];kernel_rfl) (by decide +kernel) (by decide +kernel) (by decide +kernel)
  (by first|exact .inl (by decide +kernel)|exact .inr (by decide +kernel)) (by kernel_rfl)
theorem pP:Ka table "set_iterator.__iter__" = some Builtin.«dict_keyiterator.__iter__»:=
 IQ (id':= "dict_keyiterator.__iter__") (by kernel_rfl) rfl (by decide +kernel) (by kernel_rfl)
theorem rO(a:Value):Ks "set_iterator.__iter__" ⟨[a],[]⟩:=by unfold Ks;kernel_rfl
theorem rP{α:Type}:∀(l:List α) (j:Nat) (h:j<l.length),(l[j]::l.eraseIdx j).Perm l
 | [],_,h=>absurd h (DI _)|a::l,0,_=>IR _|a::l,j+1,h=>(KI a (l[j]'(by simpa using h)) _).trans ((rP l j (by simpa using h)).cons a)
theorem uK{α:Type}(next:Nat->Nat):∀(G k:Nat) (B:List α) (out:Array α),B.length=G->(Hm next G k B out).toList.Perm (out.toList++B)
 | 0,_,B,out,h=>by have:B=[]:=List.eq_nil_of_length_eq_zero h;subst this;rw[Hm,C9]|G+1,k,B,out,h=>by rw[Hm,Ae (IS _ (by omega))];dsimp only;refine(uK next G (k+1) _ _ (by rw[EJ (IS _ (by omega))];omega)).trans ?_;rw[Array.toList_push,BG];exact JL _ (rP _ _ (IS _ (by omega)))
def rQ(w:AV)(S:Addr)(ep:Nat)(es:Array (Int×Value)):Array (Int×Value):=if byT w then pickOrder (w.params.setOrder S ep) es else es
theorem zG(w:AV)(S:Addr)(ep:Nat)(es:Array (Int×Value)):(rQ w S ep es).toList.Perm es.toList:=by unfold rQ;split;unfold pickOrder;refine(uK _ _ _ _ _ (by rw[Bj])).trans ?_;simp;exact IR _
theorem kA(w:AV)(S:Addr)(ep:Nat)(es:Array (Int×Value)):(rQ w S ep es).size=es.size:=by rw[<-Bj,(zG w S ep es).length_eq,Bj]
def aAZ(ks:List Nat):Nat->Nat
 | 0=>0|i+1=>ks.getD i 0+1
def slotV(w:AV)(ks:List Nat)(i:Nat):Nat:=if byT w then 0 else aAZ ks i
theorem aKU:∀B∈all16,∀i∈Ap 5,i<=B.length->EI B.toArray (aAZ B i)=i:=by decide +kernel
def aBa(w:AV)(tok:Nat->HQ)(ep:Nat)(ks:List Nat):Obj:={ cls:=.type "set",dict:=none,data:=.set (dA tok ks) ep (mB (!byT w) ks),slots:=#[] }
def rR(w:AV)(S:Addr)(ep:Nat)(ks:List Nat)(i:Nat):Obj:={ cls:=.type "set_iterator",dict:=none,data:=.fields #[Br (slotV w ks i),Br i,.ref S,Br ks.length,Br ep],slots:=#[] }
theorem aJB{Q:Option (Value×Nat)->Ad->Prop}(G:B∈all16)(W:s.heap.get? S=some (aBa w tok ep B))(hi:i<=B.length)
 (h:Q (((rQ w S ep (dA tok B))[i]?).map λe=>(e.2,slotV w B (i+1))) s):An (Ay prog w) A (JC S (slotV w B i) i ep) Q E s:=by
 unfold JC;refine Aa (DT W rfl (by rw[bS];exact gK _ B G) ?_);dsimp only;unfold IT;refine Aa (Aa (D3 (Ac ?_)));show An _ _ (if byT w=true then _ else _) _ _ s;unfold rQ slotV at h;unfold slotV;cases hb:byT w with
 | true=>rw[hb,if_pos rfl,if_pos rfl] at h;rw[if_pos rfl,if_pos rfl];rw[if_neg (by simp)];unfold setWalk;refine Aa (Aa (DT W rfl (by rw[bS];exact gK _ B G) ?_));dsimp only;unfold IT;refine Aa (Aa (D3 (Ac ?_)));show An _ _ (if byT w=true then _ else _) _ _ s;rw[hb,if_pos rfl];exact Aa (D3 (Ac (Ac h)))|false=>
  rw[hb,if_neg bN,if_neg bN] at h;rw[if_neg bN,if_neg bN];show An _ _ (if (!true&&decide ((dA tok B).size>1))=true then _ else _) _ _ s;rw[if_neg (by simp)];refine Aa ?_;show An _ _ (if (!(!false)&&!(dA tok B).isEmpty)=true then _ else _) _ _ s;rw[if_neg (by simp)];refine Ac ?_;have U:=aKU B G i (B5.mpr (by
   have:∀B∈all16,B.length<=4:=by decide +kernel
   have:=this B G;omega)) hi
  show An _ _ (pure (match (dA tok B)[EI B.toArray (aAZ B i)]?,B.toArray[EI B.toArray (aAZ B i)]? with
   | some (_,x),some j=>some (x,j+1)|_,_=>none)) _ _ s
  rw[U];refine Ac ?_;have e:(match (dA tok B)[i]?,B.toArray[i]? with|some (_,x),some j=>some (x,j+1)|_,_=>none)=((dA tok B)[i]?).map λe=>(e.2,aAZ B (i+1)):=by
   by_cases I:i<B.length;have L:(dA tok B)[i]? = some ((B[i]:Int),BU (B[i]:Int) (tok B[i])):=by unfold dA;rw[DV,A3,Ae I];rfl
   have e2:B.toArray[i]? = some B[i]:=by rw[DV,Ae I]
   rw[L,e2];simp[I,aAZ];have L:(dA tok B)[i]? = none:=by unfold dA;rw[DV,A3,BJ (by omega)];rfl
   rw[L];rfl
  rw[e];exact h
theorem aNN{e:Int×Value}{Q:Option Value->Ad->Prop}(B:ks∈all16)(U:s.heap.get? S=some (aBa w tok ep ks))(G:s.heap.get? I=some (rR w S ep ks i))(q1:S≠I)(L:(rQ w S ep (dA tok ks))[i]? = some e)
 (hQ:∀h',h'.get? I=some (rR w S ep ks (i+1))->Cc I s.heap h'->Q (some e.2) { s with heap:=h' }):An (Ay prog w) A (Dm (.ref I)) Q E s:=by
 have q0:i<ks.length:=by have:=(A6.mp L).1;rw[kA,bS] at this;exact this
 unfold Dm;refine Aa (DE (AT (name:=CZ "__next__") (⟨_,G,rfl⟩) cY (Bl cY (⟨_,G,rfl⟩) jM ?_ (jY _))));unfold Builtin.«set_iterator.__next__» Kb;simp only[Ee,Dl,bF,↓reduceIte,bind_assoc,lN,bne_self_eq_false];refine Aa (Ac ?_)
 try dsimp only
 refine Aa (IU G rfl ?_);show An _ _ (setEntries S >>= _) _ _ s;refine Aa (Ey U rfl (by rw[bS];exact gK _ ks B) ?_);rw[if_neg (by rw[bS];simp)];show An _ _ (JC S ((slotV w ks i:Int).toNat) ((i:Int).toNat) ((ep:Int).toNat) >>= _) _ _ s;rw[BH,BH,BH];refine Aa (aJB B U (by omega) ?_);rw[L];dsimp only[Option.map_some];refine Aa (AS G (by simp) λh1 g1 W=>?_);refine Aa (AS (s:={ s with heap:=h1 }) g1 (by simp) λh2 g2 b2=>?_);refine Ac ⟨e.2,rfl,Ac (hQ h2 ?_ (W.trans b2))⟩;rw[g2];simp[rR,Br]
theorem aQr{Q:Option Value->Ad->Prop}(L:A.handled=none)(B:ks∈all16)(U:s.heap.get? S=some (aBa w tok ep ks))(G:s.heap.get? I=some (rR w S ep ks ks.length))
 (hQ:∀h',Gf I s.heap h'->Q none { s with heap:=h' }):An (Ay prog w) A (Dm (.ref I)) Q E s:=by
 have he:(rQ w S ep (dA tok ks))[ks.length]? = none:=by rw[Array.getElem?_eq_none_iff,kA,bS];exact Al _
 unfold Dm;refine Aa (DE (AT (name:=CZ "__next__") (⟨_,G,rfl⟩) cY (Bl cY (⟨_,G,rfl⟩) jM ?_ (jY _))));unfold Builtin.«set_iterator.__next__» Kb;simp only[Ee,Dl,bF,↓reduceIte,bind_assoc,lN,bne_self_eq_false];refine Aa (Ac ?_)
 try dsimp only
 refine Aa (IU G rfl ?_);show An _ _ (setEntries S >>= _) _ _ s;refine Aa (Ey U rfl (by rw[bS];exact gK _ ks B) ?_);rw[if_neg (by rw[bS];simp)];show An _ _ (JC S ((slotV w ks ks.length:Int).toNat) ((ks.length:Int).toNat) ((ep:Int).toNat) >>= _) _ _ s;rw[BH,BH,BH];refine Aa (aJB B U (Al _) ?_);rw[he];dsimp only[Option.map_none];refine Aa (AS G (by simp) λh1 g1 W=>?_);show An _ _ (Kt (.type "StopIteration") [] >>= _) _ _ _;refine Aa ?_;simp only[Kt,Kd];refine Aa (Be ?_ (by size_fits));refine Aa (m:=EK _ _) (HY (a:=AZ) (by first|rfl|(simp only[EK];rfl)) ?_);refine Be ?_ (by size_fits);simp only[raiseNew];refine Aa (Jm ?_)
 first|rw[show A.in1.handled=none from L]|rw[L]
 refine Aa (Ac (HX ?_));refine Aa (Ef (T:= "StopIteration") (b:=true) ⟨_,Ak _ rfl,rfl⟩ Gg ?_);exact Ac (hQ _ ((W.extBut.push _).push _))
theorem aKV(W:A.handled=none)(B:ks∈all16)(L:S≠I):Walks prog w A I [I,S] [I] ks.length (λi v=>∃e,(rQ w S ep (dA tok ks))[i]? = some e/\v=e.2) (λi h=>h.get? I=some (rR w S ep ks i)/\h.get? S=some (aBa w tok ep ks)) where
 sub:=λb hb=>by rw[Av.mp hb];exact Ar
 frame:=λi h h' st k=>⟨k I Ar _ st.1,k S (Aj _ (Av.mpr rfl)) _ st.2⟩
 item:=λi s Q E hi st G=>by refine aNN B st.2 st.1 L (C7 (by rw[kA,bS];exact hi)) λh' g b=>G _ h' s.toks ⟨_,C7 (by rw[kA,bS];exact hi),rfl⟩ ⟨g,?_⟩ λc o U e=>?_;rw[b.2 S L];exact st.2;rw[b.2 c λz=>U (by rw[z];exact Av.mpr rfl)];exact e
 done:=λs Q E st G=>aQr W B st.2 st.1 λh' b=>G h' s.toks λc o U e=>b c o (λz=>U (by rw[z];exact Av.mpr rfl)) e
 self:=λi s Q E st G=>by refine Hn (⟨_,st.1,rfl⟩) jZ (Bl jZ (⟨_,st.1,rfl⟩) pP ?_ (rO _));show An _ _ (ret (.ref I)) _ _ s;exact Ac ⟨_,rfl, "set_iterator",_,(⟨_,st.1,rfl⟩),cY.lookup,G⟩
theorem aNO{Q:Value->Ad->Prop}(G:ks∈all16)(B:s.heap.get? S=some (aBa w tok ep ks))(h:Q (.ref s.heap.objs.size) { s with heap:=s.heap.push (rR w S ep ks 0) }):An (Ay prog w) A (G8 (.ref S)) Q E s:=by
 have I:(mB (!byT w) ks).fits (dA tok ks).size=true:=by rw[bS];exact gK _ ks G
 refine Hn (⟨_,B,rfl⟩) FT (Bl FT (⟨_,B,rfl⟩) rN ?_ (PySem.F.args_set_iter_1 _));unfold Builtin.«frozenset.__iter__» Jy Kb;simp only[Ee,Dl,bF,↓reduceIte,bind_assoc,lN,bne_self_eq_false];unfold Jn Jo;refine Aa (Ac ?_)
 try dsimp only
 refine Aa (Ac ?_);refine Aa (Aa (Ey B rfl I (Ac ?_)));unfold setDrawn IT;refine Aa (Aa (DT B rfl I ?_));dsimp only;refine Aa (Aa (D3 (Ac ?_)));refine Ac ?_;show An _ _ (if (!byT w&&(!true&&decide ((dA tok ks).size>1)))=true then _ else _) _ _ s;rw[if_neg (by simp)];refine Aa (Ac ?_);refine Aa (wpAny_setEpoch_of B rfl I ?_);refine Aa (Be ?_);have e:(#[Br 0,Br 0,Bu S,Br ((dA tok ks).size:Int),Br (ep:Int)]:Array Value)=#[Br (slotV w ks 0),Br ((0:Nat):Int),.ref S,Br ks.length,Br ep]:=by
  rw[bS];have:slotV w ks 0=0:=by unfold slotV aAZ;split <;> rfl
  rw[this];rfl
 refine Ac ⟨_,rfl, "set_iterator",_,⟨_,Ak _ rfl,rfl⟩,cY.lookup,?_⟩;show Q (.ref s.heap.objs.size) { s with heap:=s.heap.push { cls:=.type "set_iterator",data:=.fields #[Br 0,Br 0,Bu S,Br ((dA tok ks).size:Int),Br (ep:Int)] } };rw[e];exact h
theorem aDI{P:Nat->Value->Prop}{B:Array Value}{od:List (Int×Value)}(I:∀i v,P i v->∃e,od[i]? = some e/\v=e.2)(h:ItemsOf P B m)(hm:od.length=m):B.toList=od.map (·.2):=by refine List.ext_getElem? λj=>?_;rw[BX,A3];by_cases G:j<B.size;obtain⟨e,L,U⟩:=I j B[j] (h.2 j _ (C7 G));rw[C7 G,L,U];rfl;have h1:=h.1;rw[Array.getElem?_eq_none (by omega),BJ (by omega)];rfl
theorem aFu{Q:List Value->Ad->Prop}(hh:A.handled=none)(W:G∈all16)(ho:s.heap.get? S=some (aBa w tok ep G))
 (hQ:∀U q0,(∀b o,s.heap.get? b=some o->U.heap.get? b=some o)->(s.heap.objs.size<U.heap.objs.size/\∃tk h',U={ s with heap:=h',toks:=tk })->q0=(rQ w S ep (dA tok G)).toList.map (·.2)->Q q0 U):An (Ay prog w) A (collect (.ref S)) Q E s:=by
 have hT:s.TypeIs (.ref S) "set" := ⟨_,ho,rfl⟩
 have L:S<s.heap.objs.size:=Ag ho;unfold collect;refine Aa (Ge (BW F.entry_proto_collect ?_));show An _ A.in1 (newList [] >>= λl=>again (.builtin "list.__iadd__" ⟨[l,.ref S],[]⟩)) _ _ s;refine Aa (Be ?_);refine Ac ⟨Ei F.plain_list_iadd _,BW F.entry_list_iadd ?_⟩;have B:(s.heap.push { cls:=.type "list",data:=.seq ([]:List Value).toArray }).get? S=some (aBa w tok ep G):=Ab _ ho;have h1:Fh (.ref s.heap.objs.size) (.ref S)=false:=by simp only[Fh,beq_eq_false_iff_ne];exact Bq L
 show An _ A.in1 (E2 (.ref s.heap.objs.size) (.ref S) (.ref s.heap.objs.size)) _ _ _;unfold E2;refine Aa (DS (⟨_,B,rfl⟩) ?_);rw[if_neg (by rw[h1];decide)];refine Aa (aNO W B ?_);refine Aa (Bt ?_);unfold Iq;refine Aa (wpAny_specialOf (⟨_,(Ab _ B),rfl⟩) PySem.F.slot_set_len.lookup ?_);generalize w3:("set.__len__" : String)=id0
 wp_delta
 subst w3;refine Aa (Ef (b:=true) (⟨_,(Ab _ B),rfl⟩) (by rw[isSubtype_type];kernel_rfl) ?_);rw[if_neg (by decide)];dsimp only;rw[if_pos (by decide +kernel)];refine Aa (DS (⟨_,(Ab _ B),rfl⟩) ?_);refine Ac ?_;rw[if_pos (by decide +kernel)];refine Aa (Ec ?_);unfold JD;have q3:((s.heap.push { cls:=.type "list",data:=.seq ([]:List Value).toArray }).push (rR w S ep G 0)).get? s.heap.objs.size=some { cls:=.type "list",data:=.seq ([]:List Value).toArray }:=Ab _ (Ak _ rfl);refine Aa (Aa (Jp (f:=λx=>x.push AZ) q3 rfl ?_));have q4:=Ih (c:= "list") (xs:=#[]) (n:=0) q3 (λx=>x.push AZ);refine Jp (f:=λx=>x.pop) q4 rfl ?_;have q8:=Ih q4 (λx=>x.pop);have q2:((s.heap.push { cls:=.type "list",data:=.seq ([]:List Value).toArray }).push (rR w S ep G 0)).get? (s.heap.push { cls:=.type "list",data:=.seq ([]:List Value).toArray }).objs.size=some (rR w S ep G 0):=Ak _ rfl;rw[(size_push' _ _)] at q2 ⊢;have keep:∀b o,b≠s.heap.objs.size->((s.heap.push { cls:=.type "list",data:=.seq ([]:List Value).toArray }).push (rR w S ep G 0)).get? b=some o->((((s.heap.push { cls:=.type "list",data:=.seq ([]:List Value).toArray }).push (rR w S ep G 0)).update s.heap.objs.size (DJ λx=>x.push AZ)).update s.heap.objs.size (DJ λx=>x.pop)).get? b=some o:=λb o hb e=>by rw[D8 _ _ _ _ hb,D8 _ _ _ _ hb];exact e
 have q9:s.heap.objs.size∉[s.heap.objs.size+1,S]:=λhm=>by rcases As.mp hm with z|z;exact absurd z (by omega);rw[<-Av.mp z] at L;exact AU _ L
 have q7:∀G∈all16,G.length<=4:=by decide +kernel
 refine Ac ⟨Ei F.plain_extend_loop _,codeAny_extend_loopS (aKV (A:=A.in1) (tok:=tok) (ep:=ep) (I:=s.heap.objs.size+1) hh W (λz=>Db.mpr (CC _) (z▸L))).toS (AJ (q7 G W) (by decide)) _ q9 _ G.length 0 _ #[] 2 (FF _) (B7 _) ⟨keep _ _ (by omega) q2,keep _ _ (Aw L) (Ab _ B)⟩ q8 (ItemsOf.nil _) λU q1 c' hm q5 q6=>?_⟩;show An _ A (load s.heap.objs.size >>= _) _ _ U;refine Aa (wpAny_load q5 ?_);refine Ac (hQ U q1.toList (λb o e=>?_) ?_ ?_);have hb:b<s.heap.objs.size:=Ag e;refine hm.heap b o (λz=>?_) (keep b o (Aw hb) (Ab _ (Ab _ e)));rcases As.mp z with z|z;exact Aw hb z;exact Db.mpr (CC _) (Av.mp z▸hb);obtain⟨h',g',d',w5,w4⟩:=U;have eg:g'=s.gens:=hm.gens;have ed:d'=s.drawn:=hm.drawn;have eo:w4=s.os:=hm.os;subst eg;subst ed;subst eo;exact⟨Ag q5,w5,h',rfl⟩;exact aDI (P:=λi v=>∃e,(rQ w S ep (dA tok G))[i]? = some e/\v=e.2) (λi v ⟨e,he,hv⟩=>⟨e,by rw[BX];exact he,hv⟩) q6 (by rw[Bj,kA,bS])
theorem aCk:∀{as bs:List Int},as.Pairwise (·<=·)->bs.Pairwise (·<=·)->as.Perm bs->as=bs
 | [],bs,_,_,p=>(p.nil_eq)
 | a::as,[],_,_,p=>absurd p.length_eq (by simp)|a::as,b::bs,ha,hb,p=>by
  have B:a=b:=by have h1:=p.subset Ar;have h2:=p.symm.subset Ar;rcases As.mp h1 with h1|h1;exact h1;rcases As.mp h2 with h2|h2;exact h2.symm;have G:=(C0.mp ha).1 b h2;have I:=(C0.mp hb).1 a h1;omega
  subst B;rw[aCk (C0.mp ha).2 (C0.mp hb).2 (Ku p)]
theorem aKW:∀B∈all16,(B.map Gr).Pairwise (·<=·):=by decide +kernel
theorem aNP:∀B∈all16,B.length<=4:=by decide +kernel
theorem zH:∀{es:List (Int×Value)},(∀e∈es,∃t,e.2=BU e.1 t)->CB (es.map (·.2)) (es.map (·.1))
 | [],_=>.nil|e::es,h=>by obtain⟨t,q⟩:=h e Ar;rw[mC,q];exact .cons _ _ (zH λx hx=>h x (Aj _ hx))
theorem aIl{tok:Nat->HQ}:∀e∈(dA tok ks).toList,∃t,e.2=BU e.1 t:=by intro e B;rw[Ew] at B;obtain⟨k,G,rfl⟩:=A0.mp B;exact⟨_,rfl⟩
theorem aKX{tok:Nat->HQ}{B:List Nat}:(dA tok B).toList.map (·.1)=B.map Gr:=by unfold dA;rw[ A4];rfl
theorem zI{I:List Nat}{Q:Value->Ad->Prop}(hh:A.handled=none)(hS:lL w s.heap S I)
 (h:∀(h':Heap) (tk:Nat) (L:Addr) (out:List Value) (n:Nat),s.heap.objs.size<=L->(∀b o,s.heap.get? b=some o->h'.get? b=some o)->h'.get? L=some (seqObj "list" out.toArray n)->CB out (I.map Gr)->Q (.ref L) { s with heap:=h',toks:=tk }) :
 An (Ay prog w) A (call (.builtin "sorted") [.ref S]) Q E s:=by
 obtain⟨G,tok,ep,ho⟩:=hS;refine Calls.call_function_entry kind_sorted plain_sorted entry_sorted (args_sorted1 _) ?_;unfold Builtin.«sorted»;refine Aa (Ac ?_);refine Aa (aFu hh G ho λs' U hk q1 B=>?_);obtain⟨q0,tk,h1,rfl⟩:=q1;have pm:=zG w S ep (dA tok I);have W:U.length<64:=by rw[B,lM,pm.length_eq,Bj,bS];have:=aNP I G;omega
 refine Aa (wpAny_newList ?_ (AJ (DP W) (by decide)));have hI:CB U ((rQ w S ep (dA tok I)).toList.map (·.1)):=by rw[B];exact zH λe he=>aIl e (pm.subset he)
 refine Aa (Bt (Bl slot_list_sort ⟨_,(Ak _ rfl),rfl⟩ entry_list_sort (list_sort_tree (Ak _ rfl) hI W λout q2 a1 a2 a3=>⟨_,rfl,?_⟩) (args_list_sort _)));obtain⟨n,hL⟩:=sortedHeap_at (Ak _ rfl);refine Ac ⟨_,rfl,h _ _ h1.objs.size out.toList n (DP q0) (λb o q=>?_) (by exact hL) ((aCk a3 (aKW I G) (by rw[<-aKX];exact a2.trans (pm.map _)))▸a1)⟩;rw[sortedHeap_old (Aw (Ag (hk b o q))) (by rw[size_push'];exact B4 (Ag (hk b o q)))];exact Ab _ (hk b o q)
end L2
namespace Hp
open PySem PySem.Spec PyProof.Rows L2
theorem aFv:∀B∈all16,∀k∈Ap 4,aAY B k∈all16/\∀j∈Ap 4,(j∈aAY B k↔j=k\/j∈B):=by decide +kernel
theorem aFw:∀B∈all16,B=(Ap 4).filter λk=>decide (k∈B):=by decide +kernel
theorem uL:∀(ns B:List Nat),B∈all16->(∀n∈ns,n<4)->ns.foldl aAY B∈all16/\∀j∈Ap 4,(j∈ns.foldl aAY B↔j∈ns\/j∈B)
 | [],B,h,_=>⟨h,λj _=>by simp⟩
 | n::ns,B,h,h4=>by obtain⟨I,L⟩:=aFv B h n (B5.mpr (h4 n Ar));obtain⟨U,W⟩:=uL ns (aAY B n) I λm hm=>h4 m (Aj _ hm);refine⟨U,λj G=>?_⟩;rw[Cm,W j G,L j G,As];constructor;rintro (z|z|z);exact .inl (.inr z);exact .inl (.inl z);exact .inr z;rintro ((z|z)|z);exact .inr (.inl z);exact .inl z;exact .inr (.inr z)
theorem aIm(I:∀n∈ns,n<4):wK ns=gJ ns:=by obtain⟨B,G⟩:=uL ns [] (by decide +kernel) I;unfold wK gJ;rw[aFw _ B];refine List.filter_congr λj L=>?_;have:=G j L;simp only[AM,El] at this;simp only[this]
section
variable {X:Cx} {P:Pg} {Γ:Ct} {n:Nat} {RT Y old:Addr->Prop} {Z:Sg} {pos:Ht} {K:Fg} {H:Hp}
theorem uM:∀{ds:List D} {ns:List Nat} {ex:Addr->Prop} {vs:List V} {us:List Value},tN ds=some ns->Reps K H ex ds vs->bJ vs us->aFs us ns/\ns.length=us.length/\∀n∈ns,n<4
 | [],ns,ex,vs,us,h,r,rv=>by cases h;rw[show vs=[] from r] at rv;cases rv;exact⟨.nil,rfl,λn B=>by cases B⟩|d::ds,ns,ex,vs,us,h,r,rv=>by
  obtain⟨v,L,e,h1,h2⟩:=r;subst e;cases rv with
  | cons G I=>
   cases d with
   | int i=>
    unfold tN at h;split at h;rename_i hi;cases q:tN ds with
    | none=>rw[q] at h;cases h|some ms=>rw[q] at h;cases h;rw[show v=.int i from h1] at G;obtain⟨t,rfl⟩:=G;obtain⟨g1,g2,g3⟩:=uM q h2 I;refine⟨.cons ⟨by omega,t,?_⟩ g1,by rw[lC,lC,g2],λn B=>?_⟩;rw[BV hi.1];rcases As.mp B with z|z;omega;exact g3 n z
    cases h
   | _=>cases h
theorem iH:∀{ns:List Int} {us:List Value},CB us ns->bJ (ns.map V.int) us
 | _,_,.nil=>.nil|_,_,.cons i t r=>.cons ⟨t,rfl⟩ (iH r)
theorem uN{ex:Addr->Prop}:∀(B:List Nat),Reps K H ex (B.map λ(k:Nat)=>D.int (k:Int)) ((B.map Gr).map V.int)
 | []=>.nil|k::B=>.cons rfl (uN B)
theorem aKY(M:Mc X P Γ n)(hf:f=("sorted" : Str))(hg:cQ Γ f=true)(q1:g=("set" : Str))(q2:cQ Γ g=true)(ha:PE X ea (WE X P n RT Y old Z a))(hp:bH ea=true) :
 PE X (.Call (.Name f pf) [.Call (.Name g pg) [ea] [] p2] [] pos) (WE X P n RT Y old Z (.sset a)):=by
 subst hf q1;intro pins s ZV H Q I hw;obtain⟨S,h⟩:=hw;have h:=RE.bind' (h);obtain⟨x,ex,h⟩:=RE.calmEq h;cases hd:x.d with
 | lst ds=>
  rw[hd] at h;cases hk:tN ds with
  | none=>simp only[hk] at h;exact h.elim|some ns=>
   simp only[hk] at h;refine Bv (eI I (M.gl hg) (M.md.blt _ (by decide +kernel)) boot_sorted ?_ (by decide +kernel) (by decide +kernel));refine BB ?_ (aB rfl) rfl;refine BY (Bv (eI I (M.gl q2) (M.md.blt _ (by decide +kernel)) (show BA "set" = some (.type "set") by kernel_rfl) ?_ (by decide +kernel) (by decide +kernel)));refine Ba (thn (eQ ha gG (aB hp) p2 pins s ZV H (λus H1=>∃u,us=[u]/\Tk X.K H1/\Ro X.K RT Y old Z ZV H H1 x u) I ⟨S,?_⟩) λus s1 ⟨vs,H1,I1,r1,u,e1,t1,W⟩=>?_) (aB hp) rfl;rw[ex];intro u H1 t1 W;exact⟨u,rfl,t1,W⟩;subst e1;obtain⟨u',rfl,ru⟩:=r1.one;obtain⟨b,xs,rfl,hS,_,rr⟩:=(W.rv S).lst hd;cases ru;obtain⟨q6,r2,p,_⟩:=I1.list hS;obtain⟨hK,q0,h4⟩:=uM hk rr r2;refine aDH (I1.ok.hd M.calm) p.isList (by simpa using hK) (by exact q0) λh' tk U G=>?_;have I2:L2.Inv X pins ZV H1 { s1 with heap:=h',toks:=tk }:=I1.kept λb o e=>G b o (Ag e) e;refine Dr ?_;refine zI (I2.ok.hd M.calm) U λh2 q5 L out m hL q3 q4 B=>?_;have l4:(gJ ns).length<=4:=by exact AJ (DW _ _) (by decide)
   rw[(aIm h4)] at B;have I3:L2.Inv X pins ZV (upd H1 L (.lst (((gJ ns).map Gr).map V.int))) { s1 with heap:=h2,toks:=q5 }:=I2.laid q3 hL ⟨by rw[lM,lM,Du];omega,out,m,iH B,q4⟩;exact⟨.ref L,_,I3,rfl,((h) _ _ I3.tk ⟨W.1.trans (aW.new (I2.hok.fresh hL)),by exact⟨L,_,_,rfl,rfl,⟨W.1.free (I2.hok.fresh hL),I3.tk L (by rw[bE];simp)⟩,bE,uN (gJ ns)⟩⟩)⟩
 | _=>rw[hd] at h;exact h.elim
end
end Hp
namespace L2
open PySem PySem.Spec PyProof.Rows
theorem Inv.turnsNew{B:List Addr}{T:Addr}{o:HO}{t':Nat}(I:Inv X pins Z H s)(f:∀b∈B,mO X pins H b)(k:∀b o,b∉B->s.heap.get? b=some o->h'.get? b=some o)(there:∀b∈B,∃o,h'.get? b=some o)
 (W:s.heap.objs.size<=T) (new:eC X.prog X.w (upd H T o) h' T o):Inv X pins Z (upd H T o) { s with heap:=h',toks:=t' }:=by
 have U:∀b u,H b=some u->b∉B:=λb u e z=>by rw[(f b z).1] at e;cases e
 have L:=I.hok.fresh W;refine I.step (g':=s.gens) (d':=s.drawn) (ch:=B) (λb hb=>?_) (λb o _ _ G e _=>k b o G e) (λb o _ _ G e _=>⟨o.slots,k b o G e⟩) (λb o _ e n=>by rw[aP ((λb o e=>Aw (A1 (Ag e) W)) b o e)];exact n)
  (λb o G e=>⟨o,k b o G e⟩) (λb xs e=>by rw[aP (bO e L)];exact e) (λb o u e=>by rw[aP (bO e L)];exact e) (λb ps e=>⟨#[],by rw[aP (bO e L),e];simp⟩) (λm hm=>?_) (λb u e=>?_) I.bare
 obtain⟨_,f1,f2,f3,f4,f5⟩:=f b hb;exact⟨f3,f1,f4,f5⟩;obtain⟨o,es,ep,ho,r⟩:=hm;exact⟨o,es,ep,k _ o (λz=>(f _ z).2.1 rfl) ho,r⟩;by_cases hb:b=T;subst hb;rw[bE] at e;cases e;exact new;rw[aP hb] at e;refine(I.hok b u e).stay (λc v G q=>k c v ?_ q) (λc q=>by rw[aP (bO q L)];exact q) λc xs q=>by rw[aP (bO q L)];exact q
 rcases G with z|z;rw[z];exact U b u e;exact U c _ z
theorem Inv.turns{B:List Addr}{t':Nat}(I:Inv X pins Z H s)(f:∀b∈B,mO X pins H b)(k:∀b o,b∉B->s.heap.get? b=some o->h'.get? b=some o):Inv X pins Z H { s with heap:=h',toks:=t' }:=by
 have L:∀b u,H b=some u->b∉B:=λb u e z=>by rw[(f b z).1] at e;cases e
 refine I.step (g':=s.gens) (d':=s.drawn) (ch:=B) (λb hb=>?_) (λb o _ _ G e _=>k b o G e) (λb o _ _ G e _=>⟨o.slots,k b o G e⟩) (λb o _ e n=>n)
  (λb o G e=>⟨o,k b o G e⟩) (λb xs e=>e) (λb o u e=>e) (λb ps e=>⟨#[],by rw[e];simp⟩) (λm hm=>?_) (λb u e=>?_) I.bare
 obtain⟨_,f1,f2,f3,f4,f5⟩:=f b hb;exact⟨f3,f1,f4,f5⟩;obtain⟨o,es,ep,U,r⟩:=hm;exact⟨o,es,ep,k _ o (λz=>(f _ z).2.1 rfl) U,r⟩;refine(I.hok b u e).stay (λc v G q=>k c v ?_ q) (λc q=>q) λc xs q=>q;rcases G with z|z;rw[z];exact L b u e;exact L c _ z
theorem Inv.newK(I:Inv X pins Z H s):X.K.lookup s.heap.objs.size=none:=by
 cases q:X.K.lookup s.heap.objs.size with
 | none=>rfl|some o=>exact absurd (Ag (I.bk _ o (I.ok.mod.kin _ o q))) (AU _)
def Sq(k:Bool)(K:Ai)(H:Hp)(a:Addr)(xs:List V):Prop:=match k with|true=>SqL K H a xs|false=>SqT K H a xs
def fS(k:Bool)(h:Heap)(a:Addr)(its:Array Value):Prop:=match k with|true=>h.IsList a its|false=>h.IsTuple a its
def eE(k:Bool)(h:Heap)(it a:Addr)(i:Nat):Prop:=match k with|true=>h.IsListIter it a i|false=>h.IsTupleIter it a i
theorem fS.at{h:Heap}(q:fS k h a its)(e:∀o,h.get? a=some o->h'.get? a=some o):fS k h' a its:=by
 cases k with
 | true=>exact Heap.IsList.at q e|false=>exact Heap.IsTuple.at q e
theorem eE.at{h:Heap}(q:eE k h it a i)(e:∀o,h.get? it=some o->h'.get? it=some o):eE k h' it a i:=by
 cases k with
 | true=>exact Heap.IsListIter.at q e|false=>exact Heap.IsTupleIter.at q e
theorem eE.obj{h:Heap}(q:eE k h it a i):∃o,h.get? it=some o/\∀v,o.data≠.cell v:=by
 cases k with
 | true=>obtain⟨o,e,c,d⟩:=q;exact⟨o,e,λv z=>by rw[d] at z;cases z⟩|false=>obtain⟨o,e,c,d⟩:=q;exact⟨o,e,λv z=>by rw[d] at z;cases z⟩
theorem Inv.sq{xs:List V}(I:Inv X pins Z H s)(h:Sq k X.K H a xs):∃B:List Value,bJ xs B/\fS k s.heap a B.toArray/\xs.length<=sizeLine:=by
 cases k with
 | true=>obtain⟨B,r,p,z⟩:=I.list h;exact⟨B,r,p.isList,z⟩|false=>obtain⟨B,r,p,z⟩:=I.tuple h;exact⟨B,r,p,z⟩
theorem Inv.sq_inj(I:Inv X pins Z H s)(h:Sq k X.K H a xs)(h':Sq k X.K H a ys):xs=ys:=by
 cases k with
 | true=>exact I.list_inj h h'|false=>exact I.tuple_inj h h'
theorem Sq.there{K:Ai}(h:Sq k K H a xs):H a≠none\/∃o,K.lookup a=some o:=by
 cases k with
 | true=>
  rcases h with(h|⟨o,h⟩)|⟨o,B,n,q,_⟩
  exact .inl (by rw[h];simp);exact .inl (by rw[h];simp);exact .inr ⟨_,q⟩
 | false=>
  rcases h with(h|⟨o,h⟩)|⟨o,B,n,q,_⟩
  exact .inl (by rw[h];simp);exact .inl (by rw[h];simp);exact .inr ⟨_,q⟩
theorem Inv.sqNe(I:Inv X pins Z H s)(h:Sq k X.K H a xs)(f:mO X pins H b):a≠b:=by
 intro e;subst e;rcases h.there with z|⟨o,z⟩
 exact z f.1;have hb:=I.ok.mod.kin a o z;rcases f.2.2.2.1 with q|q;exact I.ok.noex a o hb q;exact absurd (A1 (Ag hb) (AJ I.ok.bsz q)) (AU _)
theorem mW{items}{Q:Value->Ad->Prop}(B:s.heap.IsTupleIter it l i)
 (hl:s.heap.IsTuple l items) (hx:items[i]? = some x)
 (U:∀h',h'.IsTupleIter it l (i+1)->Cc it s.heap h'->Q x { s with heap:=h' }) :
 An (Ay prog w) A (AR (.ref it)) Q E s:=by
 obtain⟨o,G,W,hd⟩:=id B;obtain⟨ol,L,_,nl,I⟩:=hl;unfold AR;refine Aa (AT (name:=CZ "__next__") B.typeIs C3
  (Bl C3 B.typeIs E3 ?_ (Eu _)))
 show An _ _ (Gh (.ref it) 0 >>= _) _ _ s;refine Aa (AH G hd (x:=.ref l) rfl ?_);show An _ _ (if (Bu l==AZ)=true then _ else _) _ _ s;show An _ _ (Gh (.ref it) 1 >>= _) _ _ s;refine Aa (AH G hd (x:=.int i 0) rfl ?_);show An _ _ (Jz (.ref l) >>= _) _ _ s;refine Aa (C4 L I ?_);simp only[BH,hx];refine Aa (Cz G hd (by simp) (Ac ⟨x,rfl,Ac (U _ ?_ (Ex ..))⟩));exact⟨_,Bh _ G (BI (Bg hd _)),(EW ..).trans W,by
  rw[Bg hd];simp[Br]⟩
theorem oM{items}{Q:Value->Ad->Prop}(U:A.handled=none)
 (B:s.heap.IsTupleIter it l i) (hl:s.heap.IsTuple l items) (hx:items[i]? = none)
 (W:∀h' e,Gf it s.heap h'->(∃o,h'.get? e=some o/\o.cls=.type "StopIteration")->E (.ref e) { s with heap:=h' }) :
 An (Ay prog w) A (AR (.ref it)) Q E s:=by
 obtain⟨o,I,hc,hd⟩:=id B;obtain⟨ol,L,_,nl,G⟩:=hl;unfold AR;refine Aa (AT (name:=CZ "__next__") B.typeIs C3
  (Bl C3 B.typeIs E3 ?_ (Eu _)))
 show An _ _ (Gh (.ref it) 0 >>= _) _ _ s;refine Aa (AH I hd (x:=.ref l) rfl ?_);show An _ _ (if (Bu l==AZ)=true then _ else _) _ _ s;show An _ _ (Gh (.ref it) 1 >>= _) _ _ s;refine Aa (AH I hd (x:=.int i 0) rfl ?_);show An _ _ (Jz (.ref l) >>= _) _ _ s;refine Aa (C4 L G ?_);simp only[BH,hx];refine Aa (Ec (Aa (Cz I hd (by simp) ?_)));show An _ _ (Kt (.type "StopIteration") [] >>= _) _ _ _;refine Aa ?_;simp only[Kt,Kd];refine Aa (Be ?_ (by size_fits));refine Aa (m:=EK _ _) (HY (a:=AZ) (by first|rfl|(simp only[EK];rfl)) ?_);refine Be ?_ (by size_fits);simp only[raiseNew];refine Aa (Jm ?_)
 first|rw[show A.in1.handled=none from U]|rw[U]
 exact Aa (Ac (HX (W _ _ (((Ex ..).extBut.push _).push _) ⟨_,Ak _ rfl,rfl⟩)))
theorem hG{items:Array Value}{Q:Value->Ad->Prop}(B:eE k s.heap it l i)(I:fS k s.heap l items)(hx:items[i]? = some x)
 (G:∀h',eE k h' it l (i+1)->Cc it s.heap h'->Q x { s with heap:=h' }):An (Ay prog w) A (AR (.ref it)) Q E s:=by
 cases k with
 | true=>exact wpAny_nextOf_list_item B I hx G|false=>exact mW B I hx G
theorem mD{items:Array Value}{Q:Value->Ad->Prop}(I:A.handled=none)(B:eE k s.heap it l i)(L:fS k s.heap l items)(hx:items[i]? = none)
 (G:∀h' e,Gf it s.heap h'->(∃o,h'.get? e=some o/\o.cls=.type "StopIteration")->E (.ref e) { s with heap:=h' }):An (Ay prog w) A (AR (.ref it)) Q E s:=by
 cases k with
 | true=>exact wpAny_nextOf_list_end I B L hx G|false=>exact oM I B L hx G
theorem aDJ{ka kb:Bool}{z TI TO i1 i2 l1 l2:Addr}{k1 k2:Nat}{xs ys:Array Value}{x y a b:Value}{Q:Value->Ad->Prop}(D:Ho z TI TO i1 i2 l1 l2)
 (hz:Gi s.heap z TI TO .none) (z3:Dz s.heap TI (.ref i1) (.ref i2)) (z4:Dz s.heap TO a b)
 (h1:eE ka s.heap i1 l1 k1) (h2:eE kb s.heap i2 l2 k2) (z6:fS ka s.heap l1 xs) (z7:fS kb s.heap l2 ys) (hx:xs[k1]? = some x) (hy:ys[k2]? = some y)
 (hQ:∀h',Gi h' z TI TO (Br s.heap.objs.size)->Dz h' TO x y->eE ka h' i1 l1 (k1+1)->eE kb h' i2 l2 (k2+1)->Dz h' s.heap.objs.size x y->h'.objs.size=s.heap.objs.size+1 ->
  (∀c o,c≠z->c≠TO->c≠i1->c≠i2->s.heap.get? c=some o->h'.get? c=some o)->Q (.ref s.heap.objs.size) { s with heap:=h' }) :
 An (Ay prog w) A (Builtin.«zip.__next__» ⟨[.ref z],[]⟩) (λz2 s'=>∃v,z2=.done (.ret v)/\Q v s') E s:=by
 show An _ _ (Gh (.ref z) 2 >>= _) _ _ _;refine Aa (AH hz rfl (x:=.bool false) rfl ?_);show An _ _ (Gh (.ref z) 3 >>= _) _ _ _;refine Aa (AH hz rfl (x:=.ref TI) rfl ?_);refine Aa (C4 z3 rfl ?_);show An _ _ (Bd (.ref z) >>= _) _ _ _;refine Aa ?_;unfold Bd;refine Aa (AH hz rfl (x:=.none) rfl (Ac ?_));simp only[if_true];refine Aa (Ec ?_);refine Aa (AH hz rfl (x:=.ref TO) rfl ?_);refine Aa (AS hz (by simp) λw9 q5 B=>?_);replace q5:Gi w9 z TI TO .ellipsis:=q5;refine Aa ?_;simp only[HH,Ii,FO,Gj];refine Aa (Aa (Eh ?_));show An _ _ (AR (.ref i1) >>= _) _ _ _;refine Aa (hG (h1.at λo e=>B.extBut _ _ D.i1z e) (z6.at λo e=>B.extBut _ _ D.l1z e) hx λz8 w4 L=>Ac ?_);have q8:=L.extBut _ _ D.TOi1 (B.extBut _ _ D.TOz z4);refine Aa (C4 q8 rfl ?_);refine Aa (Em q8 λz0 q0 U=>?_);replace q0:Dz z0 TO x b:=q0;refine Aa (Gk (Ac ?_));refine Aa (Aa (Eh ?_));show An _ _ (AR (.ref i2) >>= _) _ _ _;refine Aa (hG (h2.at λo e=>U.extBut _ _ D.TOi2.symm (L.extBut _ _ D.i12.symm (B.extBut _ _ D.i2z e)))
  (z7.at λo e=>U.extBut _ _ D.l2TO (L.extBut _ _ D.l2i1 (B.extBut _ _ D.l2z e))) hy λz9 w5 W=>Ac ?_)
 refine Aa (C4 (W.extBut _ _ D.TOi2 q0) rfl ?_);refine Aa (Em (W.extBut _ _ D.TOi2 q0) λI G q1=>?_);replace G:Dz I TO x y:=G;refine Aa (Gk (Ac (Ac ?_)));refine Aa (C4 G rfl ?_);refine Aa (IV ?_);have w7:I.objs.size=s.heap.objs.size:=by rw[q1.1,W.1,U.1,L.1,B.1]
 have q6:=q1.extBut _ _ D.TOz.symm (W.extBut _ _ D.i2z.symm (U.extBut _ _ D.TOz.symm (L.extBut _ _ D.i1z.symm q5)));have w6:∀c o,c≠z->c≠TO->c≠i1->c≠i2->s.heap.get? c=some o->I.get? c=some o:=λc o c1 c2 c3 c4 e=>q1.extBut _ _ c2 (W.extBut _ _ c4 (U.extBut _ _ c2 (L.extBut _ _ c3 (B.extBut _ _ c1 e))));have z5:=Ag G;show An _ _ (BE (.ref z) (.ref I.objs.size) >>= _) _ _ _;refine Aa ?_;unfold BE;refine Aa (AS (Ab _ q6) (by simp) λz1 q7 q3=>?_);replace q7:Gi z1 z TI TO (Br I.objs.size):=q7;refine AS q7 (by simp) λq9 q2 q4=>?_;replace q2:Gi q9 z TI TO (Br I.objs.size):=q2;have up:∀c o,c≠z->I.get? c=some o->q9.get? c=some o:=λc o c1 e=>q4.extBut _ _ c1 (q3.extBut _ _ c1 (Ab _ e));have w3:=q4.extBut _ _ (Bq (Ag q6)) (q3.extBut _ _ (Bq (Ag q6)) (Ak _ rfl));have w8:q9.objs.size=I.objs.size+1:=by rw[q4.1,q3.1,AX]
 rw[w7] at q2 w3 w8;refine Ac ⟨_,rfl,?_⟩;show Q (.ref I.objs.size) _;rw[w7];exact hQ q9 q2 (up _ _ D.TOz G) ((w4.at λo e=>q1.extBut _ _ D.TOi1.symm (W.extBut _ _ D.i12 (U.extBut _ _ D.TOi1.symm e))).at λo e=>up _ o D.i1z e) ((w5.at λo e=>q1.extBut _ _ D.TOi2.symm e).at λo e=>up _ o D.i2z e) w3 w8 λc o c1 c2 c3 c4 e=>up c o c1 (w6 c o c1 c2 c3 c4 e)
theorem aFx{ka kb:Bool}{z TI TO i1 i2 l1 l2:Addr}{k1 k2:Nat}{xs ys:Array Value}{a b:Value}{Q:Fin->Ad->Prop}(hh:A.handled=none)(D:Ho z TI TO i1 i2 l1 l2)
 (hz:Gi s.heap z TI TO .none) (w5:Dz s.heap TI (.ref i1) (.ref i2)) (w6:Dz s.heap TO a b)
 (h1:eE ka s.heap i1 l1 k1) (h2:eE kb s.heap i2 l2 k2) (q6:fS ka s.heap l1 xs) (w7:fS kb s.heap l2 ys) (q5:xs[k1]? = none\/ys[k2]? = none)
 (hE:∀h' e,(∀c o,c≠z->c≠TO->c≠i1->c≠i2->s.heap.get? c=some o->h'.get? c=some o)->(∃o,h'.get? e=some o/\o.cls=.type "StopIteration")->E (.ref e) { s with heap:=h' }) :
 An (Ay prog w) A (Builtin.«zip.__next__» ⟨[.ref z],[]⟩) Q E s:=by
 show An _ _ (Gh (.ref z) 2 >>= _) _ _ _;refine Aa (AH hz rfl (x:=.bool false) rfl ?_);show An _ _ (Gh (.ref z) 3 >>= _) _ _ _;refine Aa (AH hz rfl (x:=.ref TI) rfl ?_);refine Aa (C4 w5 rfl ?_);show An _ _ (Bd (.ref z) >>= _) _ _ _;refine Aa ?_;unfold Bd;refine Aa (AH hz rfl (x:=.none) rfl (Ac ?_));simp only[if_true];refine Aa (Ec ?_);refine Aa (AH hz rfl (x:=.ref TO) rfl ?_);refine Aa (AS hz (by simp) λq7 L B=>?_);replace L:Gi q7 z TI TO .ellipsis:=L;refine Aa ?_;simp only[HH,Ii,FO,Gj];refine Aa (Aa (Eh ?_));show An _ _ (AR (.ref i1) >>= _) _ _ _;cases hx:xs[k1]? with
 | none=>refine Aa (mD hh (h1.at λo e=>B.extBut _ _ D.i1z e) (q6.at λo e=>B.extBut _ _ D.l1z e) hx λq8 e G he=>?_);obtain⟨oe,U,q0⟩:=he;refine AS (G _ _ D.i1z.symm L) (by simp) λq4 _ I=>hE q4 e (λc o c1 _ c3 _ x=>I.extBut _ _ c1 (G _ _ c3 (B.extBut _ _ c1 x))) ⟨oe,I.extBut _ _ (λx=>by subst x;rw[(G _ _ D.i1z.symm L)] at U;cases U;simp at q0) U,q0⟩|some x=>
  refine Aa (hG (h1.at λo e=>B.extBut _ _ D.i1z e) (q6.at λo e=>B.extBut _ _ D.l1z e) hx λq8 w4 G=>Ac ?_);have W:=G.extBut _ _ D.TOi1 (B.extBut _ _ D.TOz w6);refine Aa (C4 W rfl ?_);refine Aa (Em W λq4 w3 I=>?_);refine Aa (Gk (Ac ?_));refine Aa (Aa (Eh ?_));show An _ _ (AR (.ref i2) >>= _) _ _ _;refine Aa (mD hh (h2.at λo e=>I.extBut _ _ D.TOi2.symm (G.extBut _ _ D.i12.symm (B.extBut _ _ D.i2z e)))
   (w7.at λo e=>I.extBut _ _ D.l2TO (G.extBut _ _ D.l2i1 (B.extBut _ _ D.l2z e))) (by rcases q5 with h|h;rw[hx] at h;cases h;exact h) λw8 e q1 he=>?_)
  obtain⟨oe,U,q0⟩:=he;have q3:=q1 _ _ D.i2z.symm (I.extBut _ _ D.TOz.symm (G.extBut _ _ D.i1z.symm L));refine AS q3 (by simp) λq9 _ q2=>hE q9 e (λc o c1 c2 c3 c4 x=>q2.extBut _ _ c1 (q1 _ _ c4 (I.extBut _ _ c2 (G.extBut _ _ c3 (B.extBut _ _ c1 x))))) ⟨oe,q2.extBut _ _ (λx=>by subst x;rw[q3] at U;cases U;simp at q0) U,q0⟩
theorem pQ{ka kb:Bool}{z TI TO i1 i2 B G:Addr}{k1 k2:Nat}{xs ys:Array Value}{x y a b:Value}{Q:Option Value->Ad->Prop}(D:Ho z TI TO i1 i2 B G)
 (hz:Gi s.heap z TI TO .none) (I:Dz s.heap TI (.ref i1) (.ref i2)) (L:Dz s.heap TO a b)
 (h1:eE ka s.heap i1 B k1) (h2:eE kb s.heap i2 G k2) (U:fS ka s.heap B xs) (W:fS kb s.heap G ys) (hx:xs[k1]? = some x) (hy:ys[k2]? = some y)
 (hQ:∀h',Gi h' z TI TO (Br s.heap.objs.size)->Dz h' TO x y->eE ka h' i1 B (k1+1)->eE kb h' i2 G (k2+1)->Dz h' s.heap.objs.size x y->h'.objs.size=s.heap.objs.size+1 ->
  (∀c o,c≠z->c≠TO->c≠i1->c≠i2->s.heap.get? c=some o->h'.get? c=some o)->Q (some (.ref s.heap.objs.size)) { s with heap:=h' }) :
 An (Ay prog w) A (Dm (.ref z)) Q E s:=by
 unfold Dm;exact Aa (DE (AT (name:=CZ "__next__") (⟨_,hz,rfl⟩) Ev
  (Bl Ev (⟨_,hz,rfl⟩) HI
   (aDJ D hz I L h1 h2 U W hx hy λh' a1 a2 a3 a4 a5 a6 a7=>Ac (hQ h' a1 a2 a3 a4 a5 a6 a7)) (Hq _))))
theorem rS{ka kb:Bool}{z TI TO i1 i2 l1 l2:Addr}{k1 k2:Nat}{xs ys:Array Value}{a b:Value}{Q:Option Value->Ad->Prop}(hh:A.handled=none)(D:Ho z TI TO i1 i2 l1 l2)
 (W:Gi s.heap z TI TO .none) (G:Dz s.heap TI (.ref i1) (.ref i2)) (I:Dz s.heap TO a b)
 (h1:eE ka s.heap i1 l1 k1) (h2:eE kb s.heap i2 l2 k2) (L:fS ka s.heap l1 xs) (U:fS kb s.heap l2 ys) (B:xs[k1]? = none\/ys[k2]? = none)
 (hQ:∀h',(∀c o,c≠z->c≠TO->c≠i1->c≠i2->s.heap.get? c=some o->h'.get? c=some o)->Q none { s with heap:=h' }):An (Ay prog w) A (Dm (.ref z)) Q E s:=by
 unfold Dm;refine Aa (DE (AT (name:=CZ "__next__") (⟨_,W,rfl⟩) Ev
  (Bl Ev (⟨_,W,rfl⟩) HI (aFx hh D W G I h1 h2 L U B λh' e hk he=>?_) (Hq _))))
 obtain⟨o,ho,hc⟩:=he;exact Aa (Ef (T:= "StopIteration") (b:=true) ⟨o,ho,hc⟩ Gg (Ac (hQ _ hk)))
noncomputable def lO(k:Bool)(l:Addr):Obj:=match k with
 | true=>{ cls:=.type "list_iterator",data:=.fields #[.ref l,.int 0 0] }
 | false=>{ cls:=.type "tuple_iterator",data:=.fields #[.ref l,.int 0 0] }
abbrev zH1(k:Bool)(h:Heap)(l1:Addr):Heap:=h.push (lO k l1)
abbrev zH2(ka kb:Bool)(h:Heap)(l1 l2:Addr):Heap:=(zH1 ka h l1).push (lO kb l2)
abbrev zH3(ka kb:Bool)(h:Heap)(l1 l2:Addr):Heap:=(zH2 ka kb h l1 l2).push { cls:=.type "tuple",data:=.seq #[.ref h.objs.size,.ref (zH1 ka h l1).objs.size] }
abbrev zH4(ka kb:Bool)(h:Heap)(l1 l2:Addr):Heap:=(zH3 ka kb h l1 l2).push { cls:=.type "tuple",data:=.seq #[.none,.none] }
abbrev zH5(ka kb:Bool)(h:Heap)(l1 l2:Addr):Heap:=(zH4 ka kb h l1 l2).push { cls:=.type "zip",data:=.fields #[.none,.bool false,.bool false,.ref (zH2 ka kb h l1 l2).objs.size,.ref (zH3 ka kb h l1 l2).objs.size] }
theorem kU{E:Value->Ad->Prop}{s:Ad}{Q:Value->Ad->Prop}(G:fS k s.heap l items)
 (B:Q (.ref s.heap.objs.size) { s with heap:=s.heap.push (lO k l) }):An (Ay prog w) A (G8 (.ref l)) Q E s:=by
 cases k with
 | true=>exact CG G B|false=>exact GL G B
theorem aBb(I L:Bool)(B G:Addr)(xs ys:Array Value) :
 JS (Builtin.«zip.__new__» ⟨[.type "zip",.ref B,.ref G],[]⟩) (λ_ R s=>fS I s.heap B xs/\fS L s.heap G ys /\
  R (.ok (.ret (.ref (zH4 I L s.heap B G).objs.size))) { s with heap:=zH5 I L s.heap B G }):=
 .of_wp λprog w A R s h=>by
  obtain⟨hp,g,d,tk,os⟩:=s;obtain⟨W,q0,h⟩:=h;have q1:=sub_zip;have U:fS L (Shared.heap ⟨hp.push (lO I B),g,d,tk,os⟩) G ys:=q0.at λo e=>Ab _ e
  wp_walk using kU W,kU U
  exact⟨_,rfl,h⟩
theorem rT{h:Heap}(e:h.get? it=some (lO k a)):eE k h it a 0:=by
 cases k with
 | true=>exact⟨_,e,rfl,rfl⟩|false=>exact⟨_,e,rfl,rfl⟩
theorem aDK{E:Value->Ad->Prop}{s:Ad}{Q:Value->Ad->Prop}(G:fS ka s.heap l1 xs)(I:fS kb s.heap l2 ys)
 (h:∀h',Gi h' (s.heap.objs.size+4) (s.heap.objs.size+2) (s.heap.objs.size+3) .none->Dz h' (s.heap.objs.size+2) (.ref s.heap.objs.size) (.ref (s.heap.objs.size+1)) ->
  Dz h' (s.heap.objs.size+3) .none .none->eE ka h' s.heap.objs.size l1 0->eE kb h' (s.heap.objs.size+1) l2 0->h'.objs.size=s.heap.objs.size+5 ->
  (∀c o,s.heap.get? c=some o->h'.get? c=some o)->Q (.ref (s.heap.objs.size+4)) { s with heap:=h' }) :
 An (Ay prog w) A (call (.type "zip") [.ref l1,.ref l2]) Q E s:=by
 refine JE F.called_zip (by decide) (F.typeCall_zip_2 _ _) (F.newCall_zip_2 _ _) (λobj=>F.args_object_init_3 obj _ _) F.entry_zip_new
  (aBb ka kb l1 l2 xs ys) ⟨G,I,?_⟩
 have L:(zH1 ka s.heap l1).objs.size=s.heap.objs.size+1:=AX ..;have U:(zH2 ka kb s.heap l1 l2).objs.size=s.heap.objs.size+2:=by rw[AX,L]
 have W:(zH3 ka kb s.heap l1 l2).objs.size=s.heap.objs.size+3:=by rw[AX,U]
 have z4:(zH4 ka kb s.heap l1 l2).objs.size=s.heap.objs.size+4:=by rw[AX,W]
 have z5:(zH5 ka kb s.heap l1 l2).objs.size=s.heap.objs.size+5:=by rw[AX,z4]
 have nf:∀k l,(lO k l).isFreed=false:=by intro k l;cases k <;> rfl
 have B:(zH5 ka kb s.heap l1 l2).get? (zH4 ka kb s.heap l1 l2).objs.size=some _:=Ak _ rfl;have g4:(zH5 ka kb s.heap l1 l2).get? (zH3 ka kb s.heap l1 l2).objs.size=some _:=Ab _ (Ak _ rfl);have g3:(zH5 ka kb s.heap l1 l2).get? (zH2 ka kb s.heap l1 l2).objs.size=some _:=Ab _ (Ab _ (Ak _ rfl));have g2:(zH5 ka kb s.heap l1 l2).get? (zH1 ka s.heap l1).objs.size=some _:=Ab _ (Ab _ (Ab _ (Ak _ (nf _ _))));show _/\_;rw[U,W,z4] at B;rw[L,U] at g3;rw[W] at g4;rw[L] at g2;rw[z4];exact⟨⟨_,B,rfl⟩,h _ B g3 g4 (rT (Ab _ (Ab _ (Ab _ (Ab _ (Ak _ (nf _ _))))))) (rT g2) z5 λc o x=>
  Ab _ (Ab _ (Ab _ (Ab _ (Ab _ x))))⟩
def Itz(K:Ai)(ka kb:Bool)(a b:Addr):It:=
 ⟨λi H=>∃xs ys x y,Sq ka K H a xs/\Sq kb K H b ys/\xs[i]? = some x/\ys[i]? = some y,
  λi H v H'=>∃p x y,v=.ref p/\H p=none/\K.lookup p=none/\H'=upd H p (.tup [x,y])/\∀xs ys,Sq ka K H a xs->Sq kb K H b ys->xs[i]? = some x/\ys[i]? = some y,
  λi H=>∃xs ys,Sq ka K H a xs/\Sq kb K H b ys/\(xs.length<=i\/ys.length<=i)⟩
structure aIn (z TI TO i1 i2:Addr):Prop where
 TIz:TI≠z
 TOz:TO≠z
 i1z:i1≠z
 i2z:i2≠z
 TITO:TI≠TO
 TIi1:TI≠i1
 TIi2:TI≠i2
 TOi1:TO≠i1
 TOi2:TO≠i2
 i12:i1≠i2
theorem aIn.apart{X:Cx}{pins:List (Addr×Obj)}{Z:St}{H:Hp}{s:Ad}{G L:Bool}{a b z TI TO i1 i2:Addr}{xs U:List V}(F:aIn z TI TO i1 i2)(I:Inv X pins Z H s)(f:∀c∈[z,TI,TO,i1,i2],mO X pins H c)
 (B:Sq G X.K H a xs) (hb:Sq L X.K H b U):Ho z TI TO i1 i2 a b:=
 ⟨F.TIz,F.TOz,F.i1z,F.i2z,F.TITO,F.TIi1,F.TIi2,F.TOi1,F.TOi2,F.i12,I.sqNe B (f z (by simp)),I.sqNe B (f TO (by simp)),I.sqNe B (f i1 (by simp)),I.sqNe B (f i2 (by simp)),
  I.sqNe hb (f z (by simp)),I.sqNe hb (f TO (by simp)),I.sqNe hb (f i1 (by simp)),I.sqNe hb (f i2 (by simp))⟩
theorem aFy{P:AB}{w:AV}{K:Ai}{ka kb:Bool}{q0:List AE}{tk:Nat}{tp:Ht}{z TI TO i1 i2 a b:Addr}(F:aIn z TI TO i1 i2) :
 vR P w K (.Tuple q0 tk tp) (Itz K ka kb a b) [z,TI,TO,i1,i2] z (λi h=>Gi h z TI TO .none/\Dz h TI (.ref i1) (.ref i2)/\(∃u v,Dz h TO u v)/\eE ka h i1 a i/\eE kb h i2 b i) where
 mem:=by simp
 obj:=λi h st c W=>by obtain⟨hz,G,⟨u,v,U⟩,h1,h2⟩:=st;rcases(by simpa using W) with rfl|rfl|rfl|rfl|rfl;exact⟨_,hz,λv z=>by cases(z)⟩;exact⟨_,G,λv z=>by cases(z)⟩;exact⟨_,U,λv z=>by cases(z)⟩;exact h1.obj;exact h2.obj
 keep:=λi h h' st k=>by obtain⟨hz,G,⟨u,v,U⟩,h1,h2⟩:=st;exact⟨k z (by simp) _ hz,k TI (by simp) _ G,⟨u,v,k TO (by simp) _ U⟩,h1.at λo e=>k i1 (by simp) o e,h2.at λo e=>k i2 (by simp) o e⟩
 item:=by
  intro X hP hw hK W i pins s Z H E I hf st hg;subst hP hw hK;obtain⟨hz,G,⟨u,v,U⟩,h1,h2⟩:=st;obtain⟨xs,ys,x,y,ha,hb,hx,hy⟩:=hg;obtain⟨as,ra,pa,_⟩:=I.sq ha;obtain⟨bs,rb,pb,_⟩:=I.sq hb;obtain⟨ux,q7,rx⟩:=ra.get hx;obtain⟨uy,q8,ry⟩:=rb.get hy;refine pQ (F.apart I hf ha hb) hz G U h1 h2 pa pb (x:=ux) (y:=uy) (by simpa using q7) (by simpa using q8) λh' a1 a2 a3 a4 a5 a6 hk=>?_;refine⟨_,rfl,wpAny_letOwnedTupleGo_zip (s:={ s with heap:=h' }) a1 λq1 q3 L=>?_⟩;have q6:∀c o,c∉[z,TI,TO,i1,i2]->s.heap.get? c=some o->q1.get? c=some o:=λc o W e=>by
   have B:c≠z/\c≠TI/\c≠TO/\c≠i1/\c≠i2:=by simpa using W
   exact L.extBut _ _ B.1 (hk c o B.1 B.2.2.1 B.2.2.2.1 B.2.2.2.2 e)
  have tI:=L.extBut _ _ F.TIz (hk _ _ F.TIz F.TITO F.TIi1 F.TIi2 G);have I1:Inv X pins Z (upd H s.heap.objs.size (.tup [x,y])) { s with heap:=q1 }:=by refine I.turnsNew (t':=s.toks) hf q6 (λc W=>?_) (Al _) ⟨by show 2<=sizeLine;decide,[ux,uy],.cons rx (.cons ry .nil),_,(L.extBut _ _ (Bq (Ag hz)) a5),rfl,_,rfl⟩;rcases(by simpa using W) with rfl|rfl|rfl|rfl|rfl;exact⟨_,q3⟩;exact⟨_,tI⟩;exact⟨_,(L.extBut _ _ F.TOz a2)⟩;obtain⟨o,e,_⟩:=(a3.at λo e=>L.extBut _ _ F.i1z e).obj;exact⟨o,e⟩;obtain⟨o,e,_⟩:=(a4.at λo e=>L.extBut _ _ F.i2z e).obj;exact⟨o,e⟩
  refine⟨.ref s.heap.objs.size,_,I1,rfl,⟨_,x,y,rfl,I.fresh,I.newK,rfl,λq9 w3 q4 q5=>?_⟩,⟨q3,tI,⟨_,_,(L.extBut _ _ F.TOz a2)⟩,(a3.at λo e=>L.extBut _ _ F.i1z e),(a4.at λo e=>L.extBut _ _ F.i2z e)⟩,λc W=>?_⟩;rw[I.sq_inj q4 ha,I.sq_inj q5 hb];exact⟨hx,hy⟩;rw[aP (Aw ?_)];exact(hf c W).1;obtain⟨o,e,_⟩:∃o,s.heap.get? c=some o/\True:=by rcases(by simpa using W) with rfl|rfl|rfl|rfl|rfl;exact⟨_,hz,trivial⟩;exact⟨_,G,trivial⟩;exact⟨_,U,trivial⟩;obtain⟨o,e,_⟩:=h1.obj;exact⟨o,e,trivial⟩;obtain⟨o,e,_⟩:=h2.obj;exact⟨o,e,trivial⟩
  exact Ag e
 done:=by
  intro X hP hw hK W i pins s Z H E I hf st hg;subst hP hw hK;obtain⟨hz,G,⟨u,v,U⟩,h1,h2⟩:=st;obtain⟨xs,ys,ha,hb,q2⟩:=hg;obtain⟨as,ra,pa,_⟩:=I.sq ha;obtain⟨bs,rb,pb,_⟩:=I.sq hb;have la:=ra.length;have lb:=rb.length;refine rS (I.ok.hd W) (F.apart I hf ha hb) hz G U h1 h2 pa pb ?_ λh' hk=>⟨rfl,I.turns (t':=s.toks) hf λc o W e=>?_⟩
  rcases q2 with q|q;exact .inl (by simp;omega);exact .inr (by simp;omega);have B:c≠z/\c≠TI/\c≠TO/\c≠i1/\c≠i2:=by simpa using W
  exact hk c o B.1 B.2.2.1 B.2.2.2.1 B.2.2.2.2 e
 self:=λ_ _ _ _ _ st h=>HJ st.1 h
def aQs(K:Ai)(ta:TA):TI:=λZ H R=>ta Z H λvs H1=>∃(ka kb:Bool) (a b:Addr) (xs ys:List V),vs=[.ref a,.ref b]/\Sq ka K H1 a xs/\Sq kb K H1 b ys/\R (Itz K ka kb a b) H1
theorem aFz:BA "zip" = some (.type "zip"):=by kernel_rfl
theorem aFA(n:Nat):aIn (n+4) (n+2) (n+3) n (n+1) where
 TIz:=by simp
 TOz:=by simp
 i1z:=by simp
 i2z:=by simp
 TITO:=by simp
 TIi1:=by simp
 TIi2:=by simp
 TOi1:=by simp
 TOi2:=by simp
 i12:=by simp
theorem aKZ{X:Cx}{a b:AE}{ta:TA}{p pos:Ht}{G:List AE}{tk:Nat}{tp:Ht}(hg:Gl X "zip")(hm:X.mg "zip" = none)(ha:PA X [a,b] ta)(hs:AW [a,b] X.env=[(false,De a X.env),(false,De b X.env)])(U:AW [b] X.env=[(false,De b X.env)]) :
 PI X (.Tuple G tk tp) (.Call (.Name "zip" p) [a,b] [] pos) (aQs X.K ta):=by
 intro pins s Z H R I h;refine K2 (eI I hg hm aFz (Ba (thn (ha pos pins s Z H _ I h) λus s1 ⟨vs,H1,B,r1,q1⟩=>?_) (by rw[hs,U]) (by rw[U];rfl)));obtain⟨ka,kb,a1,b1,xs,ys,e,q1,q2,q⟩:=q1;subst e;cases r1 with
 | cons r rr=>
  cases rr with
  | cons r' rr=>
   cases rr;cases r;cases r';obtain⟨as,ra,pa,_⟩:=B.sq q1;obtain⟨bs,rb,pb,_⟩:=B.sq q2;refine aDK pa pb λh' hz W q0 h1 h2 q3 hk=>HJ (s:={ s1 with heap:=h' }) hz ?_;refine⟨s1.heap.objs.size+4,_,_,_,H1,rfl,B.kept (t':=s1.toks) hk,aFy (aFA _),⟨hz,W,⟨_,_,q0⟩,h1,h2⟩,λc hc=>?_,q⟩;have L:s1.heap.objs.size<=c:=by rcases(by simpa using hc) with rfl|rfl|rfl|rfl|rfl <;> omega
   exact B.fpOk L (B.hok.fresh L)
def Its(x:Str):It:=⟨λi _=>i<x.cps.size,λi H v H'=>H'=H/\∃c,x.cps[i]? = some c/\v=.str ⟨#[c]⟩,λi _=>x.cps.size<=i⟩
theorem zJ{P:AB}{w:AV}{K:Ai}{tg:AE}{it:Addr}{x:Str}{t:HQ}{ty:String}(hn:["enumerate", "zip", "dict_itemiterator", "dict_reverseitemiterator", "odict_iterator", "itertools.zip_longest", "itertools.pairwise"].contains ty=false)
 (W0:∀A':B6,A'.handled=none->Walks P w A' it [it] [it] x.cps.size (SignAt x) (λi h=>h.IsStrIter it ty x t i))
 (S:∀(A:B6) (i:Nat) (s:Ad) (Q:Value->Ad->Prop) (E:Value->Ad->Prop),s.heap.IsStrIter it ty x t i->Q (.ref it) s->An (Ay P w) A (G8 (.ref it)) Q E s):vR P w K tg (Its x) [it] it (λi h=>i<=x.cps.size/\h.IsStrIter it ty x t i) where
 mem:=by simp
 obj:=λi h st b hb=>by
  have e:b=it:=by simpa using hb
  subst e;obtain⟨_,o,e,c,d⟩:=st;exact⟨o,e,λv z=>by rw[d] at z;cases z⟩
 keep:=λi h h' st k=>by obtain⟨hi,o,e,c,d⟩:=st;exact⟨hi,o,k it (by simp) o e,c,d⟩
 item:=by intro X W hw U hc i pins s Z H E I G st L;subst W hw U;obtain⟨f0,f1,f2,f3,f4,f5⟩:=G it (by simp);refine(W0 X.A (I.ok.hd hc)).item i s _ _ L st.2 λv h' tk hv B kk=>?_;obtain⟨c,u,q0,rfl⟩:=hv;obtain⟨o,e,oc,od⟩:=id B;exact⟨_,rfl,pC (s:={ s with heap:=h',toks:=tk }) e oc od hn ⟨.str ⟨#[c]⟩,H,(I.turned (λb o hb e=>kk b o (by simpa using hb) e) f0 f1 f3 f4 f5),⟨u,rfl⟩,⟨rfl,c,q0,rfl⟩,⟨L,B⟩,λb hb=>(G b hb).1⟩⟩
 done:=by intro X W hw U hc i pins s Z H E I G st L;subst W hw U;obtain⟨f0,f1,f2,f3,f4,f5⟩:=G it (by simp);have e:=Nat.le_antisymm st.1 L;subst e;exact(W0 X.A (I.ok.hd hc)).done s _ _ st.2 λh' tk eb=>⟨rfl,I.turned (λb o hb e=>eb b o (by simpa using hb) e) f0 f1 f3 f4 f5⟩
 self:=λA i s Q E st h=>S A i s Q E st.2 h
theorem aLa{X:Cx}{tg l:AE}{tl:TE}(hl:PE X l tl):PI X tg l (λZ H R=>tl Z H λx H1=>(∃a,x=.ref a/\(((∃xs,SqL X.K H1 a xs)/\R (Itl X.K a) H1)\/((∃xs,SqT X.K H1 a xs)/\R (Itt X.K a) H1)))\/∃z,x=.str z/\R (Its z) H1):=by
 intro pins s Z H R I h;refine thn (hl pins s Z H _ I h) λv s1 ⟨x,H1,B,r1,q1⟩=>?_;rcases q1 with⟨a,e,q⟩|⟨z,e,q⟩
 subst e;cases r1;rcases q with⟨⟨xs,L⟩,q⟩|⟨⟨xs,L⟩,q⟩
 obtain⟨U,rv,p,hz⟩:=B.list L;refine CG p.isList ?_;refine⟨s1.heap.objs.size,[s1.heap.objs.size],_,_,H1,rfl,B.kept (t':=s1.toks) λb o e=>Ab _ e,aDc a _,⟨_,Ak _ rfl,rfl,rfl⟩,λb hb=>?_,q⟩;have e:b=s1.heap.objs.size:=by simpa using hb
 subst e;exact B.fpOk (Al _) (B.hok.fresh (Al _));obtain⟨U,rv,p,hz⟩:=B.tuple L;refine GL (p) ?_;refine⟨s1.heap.objs.size,[s1.heap.objs.size],_,_,H1,rfl,B.kept (t':=s1.toks) λb o e=>Ab _ e,aAC a _,⟨_,Ak _ rfl,rfl,rfl⟩,λb hb=>?_,q⟩;have e:b=s1.heap.objs.size:=by simpa using hb
 subst e;exact B.fpOk (Al _) (B.hok.fresh (Al _));subst e;obtain⟨t,rfl⟩:=r1;cases W:z.cps.all (·<128) with
 | false=>
  refine wpAny_pyIter_wide W ⟨s1.heap.objs.size,[s1.heap.objs.size],_,_,H1,rfl,B.kept (t':=s1.toks) λb o e=>Ab _ e,zJ (ty:= "str_iterator") (x:=z) (t:=t) (by decide) (λA' G=>Walks.strWide G _ z t) (λA i s Q E st h=>wpAny_pyIter_striter_wide st h),⟨B7 _,_,Ak _ rfl,rfl,rfl⟩,λb hb=>?_,q⟩;have e:b=s1.heap.objs.size:=by simpa using hb
  subst e;exact B.fpOk (Al _) (B.hok.fresh (Al _))
 | true=>
  refine wpAny_pyIter_ascii W ⟨s1.heap.objs.size,[s1.heap.objs.size],_,_,H1,rfl,B.kept (t':=s1.toks) λb o e=>Ab _ e,zJ (ty:= "str_ascii_iterator") (x:=z) (t:=t) (by decide) (λA' G=>Walks.strAscii G _ z t) (λA i s Q E st h=>wpAny_pyIter_striter_ascii st h),⟨B7 _,_,Ak _ rfl,rfl,rfl⟩,λb hb=>?_,q⟩;have e:b=s1.heap.objs.size:=by simpa using hb
  subst e;exact B.fpOk (Al _) (B.hok.fresh (Al _))
theorem aFB{k:Bool}{e it l:Addr}{i:Nat}{xs:Array Value}{x old:Value}{Q:Value->Ad->Prop}(he:IW s.heap e it i old)(q1:eE k s.heap it l i)(hl:fS k s.heap l xs)(hx:xs[i]? = some x)(B:e≠it)
 (hQ:∀h',IsEnumOut h' e it ((i:Int)+1) x s.heap.objs.size->eE k h' it l (i+1)->h'.get? s.heap.objs.size=some { cls:=.type "tuple",data:=.seq #[.int i s.toks,x] }->h'.objs.size=s.heap.objs.size+1 ->
  (∀b o,b≠e->b≠it->s.heap.get? b=some o->h'.get? b=some o)->Q (.ref s.heap.objs.size) { s with heap:=h',toks:=s.toks+1 }) :
 An (Ay prog w) A (Builtin.«enumerate.__next__» ⟨[.ref e],[]⟩) (λq0 s'=>∃v,q0=.done (.ret v)/\Q v s') E s:=by
 obtain⟨hp,g,d,tk,os⟩:=s;refine Aa (m:=Gh (.ref e) 2) (AH he rfl (x:=.ref it) rfl (Aa (hG q1 hl hx λh1 i1 s1=>?_)));have W:=(s1.2 e B).trans he;refine Aa (m:=Gh (.ref e) 3) (AH W rfl (x:=Br i) rfl (Aa (m:=Gh (.ref e) 4) (AH W rfl (x:=.none) rfl (Aa (m:=mkInt i) (wpAny_mkInt ?_)))));refine Aa (m:=IH (.ref e) 3 (Br ((i:Int)+1))) (s:=⟨h1,g,d,tk+1,os⟩) (AS W (by simp) λh2 e2 s2=>?_);refine Aa (m:=IH (.ref e) 4 .none) (s:=⟨h2,g,d,tk+1,os⟩) (AS e2 (by simp) λL e3 s3=>?_);refine Aa (m:=Kd [.int i tk,x]) (s:=⟨L,g,d,tk+1,os⟩) (IV ?_);have I:IW (L.push { cls:=.type "tuple",data:=.seq #[.int i tk,x] }) e it ((i:Int)+1) old:=Ab _ e3;generalize U:L.push { cls:=.type "tuple",data:=.seq #[.int i tk,x] }=h4 at I;have z3:L.objs.size=hp.objs.size:=by rw[s3.1,s2.1,s1.1]
 have z4:h4.objs.size=hp.objs.size+1:=by rw[<-U,AX,z3]
 have k4:∀b o,b≠e->b≠it->hp.get? b=some o->h4.get? b=some o:=λb o G n2 hb=>by rw[<-U];exact Ab _ (s3.extBut b o G (s2.extBut b o G (s1.extBut b o n2 hb)))
 rw[z3];refine Aa (m:=Bd (.ref e)) (s:=⟨h4,g,d,tk+1,os⟩) ?_;unfold Bd;refine Aa (AH I rfl (x:=.none) rfl (Ac ?_));simp only[if_true];refine Aa (Ec (Aa (AH I rfl (x:=old) rfl (Aa (AS I (by simp) λh5 e5 s5=>?_)))));refine Aa (m:=BE (.ref e) (.ref hp.objs.size)) (s:=⟨h5,g,d,tk+1,os⟩) ?_;unfold BE;refine Aa (AS e5 (by simp) λh6 e6 s6=>?_);refine AS e6 (by simp) λh7 e7 s7=>?_;have up:∀b o,b≠e->h4.get? b=some o->h7.get? b=some o:=λb o n hb=>s7.extBut _ _ n (s6.extBut _ _ n (s5.extBut _ _ n hb));exact Aa (Gk (Ac ⟨_,rfl,hQ h7 e7 ((i1.at λo ho=>by rw[<-U];exact Ab _ (s3.extBut _ _ B.symm (s2.extBut _ _ B.symm ho))).at λo ho=>up _ _ B.symm ho) (up _ _ (Bq (Ag he)) (by rw[<-U,<-z3];exact Ak _ rfl)) (by rw[s7.1,s6.1,s5.1,z4]) λb o G n2 hb=>up b o G (k4 b o G n2 hb)⟩))
theorem zK{k:Bool}{e it l:Addr}{i:Nat}{xs:Array Value}{x old:Value}{Q:Option Value->Ad->Prop}(B:IW s.heap e it i old)(G:eE k s.heap it l i)(U:fS k s.heap l xs)(hx:xs[i]? = some x)(I:e≠it)
 (L:∀h',IsEnumOut h' e it ((i:Int)+1) x s.heap.objs.size->eE k h' it l (i+1)->h'.get? s.heap.objs.size=some { cls:=.type "tuple",data:=.seq #[.int i s.toks,x] }->h'.objs.size=s.heap.objs.size+1 ->
  (∀b o,b≠e->b≠it->s.heap.get? b=some o->h'.get? b=some o)->Q (some (.ref s.heap.objs.size)) { s with heap:=h',toks:=s.toks+1 }):An (Ay prog w) A (Dm (.ref e)) Q E s:=by unfold Dm;exact Aa (DE (AT (⟨_,B,rfl⟩) Dp (Bl Dp (⟨_,B,rfl⟩) FJ (aFB B G U hx I λh' a b c d k=>Ac (L h' a b c d k)) (Fu _))))
theorem aBc{k:Bool}{e it l:Addr}{i:Nat}{xs:Array Value}{old:Value}{Q:Option Value->Ad->Prop}(U:A.handled=none)(G:IW s.heap e it i old)(B:eE k s.heap it l i)(W:fS k s.heap l xs)(hx:xs[i]? = none)
 (I:∀h',Gf it s.heap h'->Q none { s with heap:=h' }):An (Ay prog w) A (Dm (.ref e)) Q E s:=by
 have T:s.TypeIs (.ref e) "enumerate" := ⟨_,G,rfl⟩
 unfold Dm;refine Aa (DE (AT (name:=CZ "__next__") T Dp (Bl Dp T FJ ?_ (Fu _))));exact Aa (m:=Gh (.ref e) 2) (AH G rfl (x:=.ref it) rfl (Aa (mD U B W hx λh' x g ⟨o,ho,L⟩=>(Aa (Ef (T:= "StopIteration") (b:=true) ⟨o,ho,L⟩ Gg (Ac (I _ g)))))))
noncomputable def aFC(it:Addr):Obj:={ cls:=.type "enumerate",data:=.fields #[.none,.bool false,.ref it,Br 0,.none,.none] }
theorem aDL(k:Bool)(l:Addr)(xs:Array Value)(L:Obj):JS (Builtin.«enumerate.__new__» ⟨[.type "enumerate",.ref l],[]⟩) (λ_ R s=>s.heap.get? l=some L/\fS k s.heap l xs /\
 R (.ok (.ret (.ref (s.heap.push (lO k l)).objs.size))) { s with heap:=(s.heap.push (lO k l)).push (aFC s.heap.objs.size) }):=
 .of_wp λprog w A R s h=>by
  obtain⟨hp,g,d,tk,os⟩:=s;obtain⟨B,G,h⟩:=h;have I:=sub_enumerate
  wp_walk using CP B
  refine wpAny_stack_any λst=>Ac ?_;split;rename_i c _ _ _ _ _;cases(c==DX "enumerate") <;> (wp_walk using CP B,kU G;exact⟨_,rfl,h⟩)
  . wp_walk using CP B,kU G
    exact⟨_,rfl,h⟩
theorem aFD{E:Value->Ad->Prop}{s:Ad}{Q:Value->Ad->Prop}(B:fS k s.heap l xs)
 (h:∀h',IW h' (s.heap.objs.size+1) s.heap.objs.size 0 .none->eE k h' s.heap.objs.size l 0->(∀b o,s.heap.get? b=some o->h'.get? b=some o)->Q (.ref (s.heap.objs.size+1)) { s with heap:=h' }) :
 An (Ay prog w) A (call (.type "enumerate") [.ref l]) Q E s:=by
 obtain⟨G,I⟩:∃G,s.heap.get? l=some G:=by
  cases k with
  | true=>obtain⟨o,e,_⟩:=B;exact⟨o,e⟩|false=>obtain⟨o,e,_⟩:=B;exact⟨o,e⟩
 refine JE F.called_enumerate (by decide) (F.typeCall_enumerate_1 _) (F.newCall_enumerate_1 _) (λobj=>F.args_object_init_2 obj _) F.entry_enumerate_new (aDL k l xs G) ⟨I,B,?_⟩;have g2:((s.heap.push (lO k l)).push (aFC s.heap.objs.size)).get? (s.heap.push (lO k l)).objs.size=some (aFC s.heap.objs.size):=Ak _ rfl;rw[(AX ..)] at g2 ⊢;exact⟨⟨_,g2,rfl⟩,h _ g2 (rT (Ab _ (Ak _ (by cases k <;> rfl)))) λb o x=>Ab _ (Ab _ x)⟩
def Ite(K:Ai)(k:Bool)(a:Addr):It:=
 ⟨λi H=>∃xs x,Sq k K H a xs/\xs[i]? = some x,
  λi H v H'=>∃p x,v=.ref p/\H p=none/\K.lookup p=none/\H'=upd H p (.tup [.int i,x])/\∀xs,Sq k K H a xs->xs[i]? = some x,
  λi H=>∃xs,Sq k K H a xs/\xs.length<=i⟩
theorem aIo{P:AB}{w:AV}{K:Ai}{k:Bool}{W:List AE}{tk:Nat}{tp:Ht}{e it a:Addr}(ne:e≠it) :
 vR P w K (.Tuple W tk tp) (Ite K k a) [e,it] e (λi h=>(∃old,IW h e it i old)/\eE k h it a i) where
 mem:=by simp
 obj:=λi h st c G=>by obtain⟨⟨old,L⟩,h1⟩:=st;rcases(by simpa using G) with rfl|rfl;exact⟨_,L,λv z=>by cases(z)⟩;exact h1.obj
 keep:=λi h h' st kp=>by obtain⟨⟨old,L⟩,h1⟩:=st;exact⟨⟨old,kp e (by simp) _ L⟩,h1.at λo q=>kp it (by simp) o q⟩
 item:=by
  intro X hP hw hK G i pins s Z H E I hf st hg;subst hP hw hK;obtain⟨⟨old,L⟩,h1⟩:=st;obtain⟨xs,x,ha,hx⟩:=hg;obtain⟨as,ra,pa,_⟩:=I.sq ha;obtain⟨ux,q3,rx⟩:=ra.get hx;refine zK L h1 pa (by simpa using q3) ne λh' a1 a2 a3 a4 hk=>?_;refine⟨_,rfl,wpAny_letOwnedTupleGo_enum a1 λq0 e' U=>?_⟩;have q2:∀c o,c∉[e,it]->s.heap.get? c=some o->q0.get? c=some o:=λc o G q=>by
   have B:c≠e/\c≠it:=by simpa using G
   exact U.extBut _ _ B.1 (hk c o B.1 B.2 q)
  have t1:=a2.at λo q=>U.extBut _ _ ne.symm q;have I1:Inv X pins Z (upd H s.heap.objs.size (.tup [.int i,x])) { s with heap:=q0,toks:=s.toks+1 }:=by refine I.turnsNew hf q2 (λc G=>?_) (Al _) ⟨by show 2<=sizeLine;decide,[.int i s.toks,ux],.cons ⟨_,rfl⟩ (.cons rx .nil),_,(U.extBut _ _ (Bq (Ag L)) a3),rfl,_,rfl⟩;rcases(by simpa using G) with rfl|rfl;exact⟨_,e'⟩;obtain⟨o,q,_⟩:=t1.obj;exact⟨o,q⟩
  refine⟨.ref s.heap.objs.size,_,I1,rfl,⟨_,x,rfl,I.fresh,I.newK,rfl,λq5 q1=>?_⟩,⟨⟨_,e'⟩,t1⟩,λc G=>?_⟩;rw[I.sq_inj q1 ha];exact hx;rw[aP (Aw ?_)];exact(hf c G).1;have B:c=e\/c=it:=by simpa using G
  rcases B with rfl|rfl;exact Ag L;obtain⟨o,q,_⟩:=h1.obj;exact Ag q
 done:=by
  intro X hP hw hK G i pins s Z H E I hf st hg;subst hP hw hK;obtain⟨⟨old,L⟩,h1⟩:=st;obtain⟨xs,ha,q4⟩:=hg;obtain⟨as,ra,pa,_⟩:=I.sq ha;have la:=ra.length;refine aBc (I.ok.hd G) L h1 pa (by simp;omega) λh' hk=>⟨rfl,I.turns hf λc o G q=>hk c o ?_ q⟩
  have B:c≠e/\c≠it:=by simpa using G
  exact B.2
 self:=λ_ _ _ _ _ st h=>let ⟨_,q⟩:=st.1;Hr q h
def iEn(K:Ai)(ta:TA):TI:=λZ H R=>ta Z H λvs H1=>∃(k:Bool) (a:Addr) (xs:List V),vs=[.ref a]/\Sq k K H1 a xs/\R (Ite K k a) H1
theorem aDM:BA "enumerate" = some (.type "enumerate"):=by kernel_rfl
theorem aIp{X:Cx}{a:AE}{ta:TA}{p pos:Ht}{B:List AE}{tk:Nat}{tp:Ht}(hg:Gl X "enumerate")(hm:X.mg "enumerate" = none)(ha:PA X [a] ta)(hs:AW [a] X.env=[(false,De a X.env)]) :
 PI X (.Tuple B tk tp) (.Call (.Name "enumerate" p) [a] [] pos) (iEn X.K ta):=by
 intro pins s Z H R I h;refine K2 (eI I hg hm aDM (Ba (thn (ha pos pins s Z H _ I h) λus s1 ⟨vs,H1,L,r1,U⟩=>?_) (by rw[hs];rfl) rfl));obtain⟨k,a1,xs,e,U,q⟩:=U;subst e;cases r1 with
 | cons r rr=>
  cases rr;cases r;obtain⟨as,ra,pa,_⟩:=L.sq U;refine aFD pa λh' W h1 hk=>Hr W ?_;refine⟨s1.heap.objs.size+1,_,_,_,H1,rfl,L.kept hk,aIo (Nat.succ_ne_self _),⟨⟨_,W⟩,h1⟩,λc hc=>?_,q⟩;have G:s1.heap.objs.size<=c:=by rcases(by simpa using hc) with rfl|rfl <;> omega
  exact L.fpOk G (L.hok.fresh G)
end L2
namespace Hp
open PySem PySem.Spec PyProof.Rows L2
theorem Kp.refl(R:Addr->Prop)(H:Hp):Kp R H H:=λ_ _ h _=>h
theorem Kp.same{R:Addr->Prop}(s:aW H H'):Kp R H H':=λa o h _=>s a o h
section
variable {K:Fg} {RT Y old R:Addr->Prop} {Z:Sg} {ZV:L2.St} {H H':Hp}
theorem Kp.seqL(k:Kp R H H')(n:¬ R a)(h:SqL K H a xs):SqL K H' a xs:=by rcases h with(h|⟨o,h⟩)|h;exact .inl (.inl (k _ _ h n));exact .inl (.inr ⟨o,k _ _ h n⟩);exact .inr h
theorem Kp.seqT(k:Kp R H H')(I:∀a,R a->RtO H a)(h:SqT K H a xs):SqT K H' a xs:=by
 have no:∀{o:HO},H a=some o->(∀G,o≠.lst G)->(∀φ,o≠.ext φ)->¬ R a:=λ{o} e L U z=>by
  rcases I a z with⟨G,B⟩|⟨G,B⟩
  rw[e] at B;cases B;exact L _ rfl;rw[e] at B;cases B;exact U _ rfl
 rcases h with(h|⟨o,h⟩)|h;exact .inl (.inl (k _ _ h (no h (λ_ z=>by cases z) λ_ z=>by cases z)));exact .inl (.inr ⟨o,k _ _ h (no h (λ_ z=>by cases z) λ_ z=>by cases z)⟩);exact .inr h
theorem Reps.kp{ex:Addr->Prop}(r:Reps K H ex ds xs)(k:Kp R H H')(I:∀a,R a->RtO H a)(hx:∀a,R a->ex a):Reps K H' ex ds xs:=
 r.keep λa o e L U=>k a o e λz=>by
  rcases I a z with⟨G,B⟩|⟨G,B⟩
  rw[e] at B;cases B;exact L G rfl (hx a z);rw[e] at B;cases B;exact U _ rfl
theorem Rep.kp{ex:Addr->Prop}(r:Rep K H ex d x)(k:Kp R H H')(I:∀a,R a->RtO H a)(hx:∀a,R a->ex a):Rep K H' ex d x:=
 r.keep λa o e L U=>k a o e λz=>by
  rcases I a z with⟨G,B⟩|⟨G,B⟩
  rw[e] at B;cases B;exact L G rfl (hx a z);rw[e] at B;cases B;exact U _ rfl
def rtF(RT:Addr->Prop)(Z:Sg)(ZV:L2.St)(al:List Nat)(a:Addr):Prop:=RT a/\¬ alR Z ZV al a
theorem jB:∀(al:List Nat) (Z:Sg) (i:Nat),(freeze Z al)[i]? = (Z[i]?).map λs=>if i∈al then s.freeze else s
 | [],Z,i=>by cases q:Z[i]? <;> simp[freeze,q]|j::al,Z,i=>by
  rw[freeze,jB al];cases G:Z[j]? with
  | none=>
   simp only;cases q:Z[i]? with
   | none=>rfl|some s=>
    have I:i≠j:=λe=>by subst e;rw[q] at G;cases G
    simp[I]
  | some L=>simp only;by_cases B:i=j;subst B;rw[AK ((Ax.mp G).1),G];simp only[ As,true_or];split;cases L <;> rfl;rfl;rw[Au (BQ B)];simp[B]
theorem rV:∀(al:List Nat) (Z:Sg),(freeze Z al).length=Z.length
 | [],Z=>rfl|j::al,Z=>by rw[freeze,rV al];split;rw[AF];rfl
theorem freeze_sh(h:(freeze Z al)[i]? = some (.sh pa d)):Z[i]? = some (.sh pa d)\/∃ds,i∈al/\Z[i]? = some (.own pa ds)/\d=.lst ds:=by
 rw[jB] at h;cases q:Z[i]? with
 | none=>rw[q] at h;cases h|some s=>
  rw[q] at h;have h:(if i∈al then s.freeze else s)=.sh pa d:=Aq h;split at h;rename_i hi;cases s with
  | x=>cases h|sh pa' d'=>cases h;exact .inl rfl|own pa' ds'=>cases h;exact .inr ⟨ds',hi,rfl,rfl⟩
  exact .inl (by rw[h])
theorem gL(h:(freeze Z al)[i]? = some (.own pa ds)):Z[i]? = some (.own pa ds)/\i∉al:=by
 rw[jB] at h;cases q:Z[i]? with
 | none=>rw[q] at h;cases h|some s=>rw[q] at h;have h:(if i∈al then s.freeze else s)=.own pa ds:=Aq h;split at h;cases s <;> cases h;rename_i hi;exact⟨by rw[h],hi⟩
theorem Sx.frz(S:Sx K RT Y old Z ZV H)(al:List Nat):Sx K (rtF RT Z ZV al) Y old (freeze Z al) ZV H where
 sh:=λi pa d h=>by
  rcases freeze_sh h with h|⟨ds,hi,L,e⟩
  obtain⟨v,h1,h2⟩:=S.sh i pa d h;exact⟨v,h1,h2.weak λa z=>z.elim (λz=>.inl z.1) .inr⟩;subst e;obtain⟨a,xs,h1,h2,G,B,I⟩:=S.own i pa ds L;refine⟨.ref a,h1,a,xs,rfl,SqL.of h2,⟨?_,λ_=>h2⟩,I.weak λa z=>z.elim (λz=>.inl z.1) .inr⟩;rintro (z|z|⟨_,z⟩);exact z.2 ⟨i,hi,⟨pa,ds,L⟩,h1⟩;exact B (S.yo a z);exact B z
 own:=λi pa ds h=>by obtain⟨h,hi⟩:=gL h;obtain⟨a,xs,h1,h2,G,B,I⟩:=S.own i pa ds h;refine⟨a,xs,h1,h2,⟨G,?_⟩,B,I.weak λa z=>z.elim (λz=>.inl z.1) .inr⟩;rintro ⟨j,U,⟨pa',ds',q⟩,W⟩;have:=S.inj i j pa pa' ds ds' a h q h1 W;subst this;exact hi U
 trk:=λa z=>S.trk a (z.elim (λz=>.inl z.1) .inr)
 yo:=S.yo
 tk:=S.tk
 rt:=λa z=>S.rt a z.1
 inj:=λi j pa pa' ds ds' a h1 h2 G B=>S.inj i j pa pa' ds ds' a (gL h1).1 (gL h2).1 G B
 len:=by rw[rV];exact S.len
theorem Tk.new(t:Tk K H)(h:K.lookup p=none):Tk K (upd H p o):=λb hb=>by by_cases e:b=p;rw[e];exact h;rw[aP e] at hb;exact t b hb
def Nw(K:Fg)(H:Hp)(a:Addr):Prop:=H a=none/\K.lookup a=none
theorem aIq(q:SqL K H a xs):¬ Nw K H a:=by
 rintro ⟨n,k⟩;rcases q with(q|⟨o,q⟩)|⟨o,B,m,q,_⟩
 rw[n] at q;cases q;rw[n] at q;cases q;rw[k] at q;cases q
theorem Reps.outN{ex:Addr->Prop}(h:Reps K H ex d v):Reps K H (λb=>ex b\/Nw K H b) d v:=
 Reps.imp (λ_ _ q=>q) (λb xs B q=>⟨λz=>z.elim B (aIq q),q⟩) (λ⟨c,h1,h2⟩=>⟨c,h1,h2.resolve_right λz=>h1 z.2⟩) (λ_ _ _ q=>q) (λ_ _ _ _ q=>q) d v h
theorem RvN.sub{ex:Addr->Prop}{v:Vl}(h:Rep K H' (λa=>exV RT Y old Z ZV v.pa v.al a\/ex a) d x):Rep K H' (λa=>exV RT Y old Z ZV (v.sub d).pa (v.sub d).al a\/ex a) (v.sub d).d x:=by unfold Vl.sub;by_cases B:noL d=true;rw[if_pos B];exact Rep.free d x B h;rw[if_neg B];exact h
structure zL (K:Fg) (RT Y old:Addr->Prop) (Z:Sg) (ZV:L2.St) (H1:Hp) (J:L2.It) (xs:List Vl) (al:List Nat):Prop where
 sub:∀v∈xs,∀j∈v.al,j∈al
 nofr:∀v∈xs,v.fr=false
 ok:∀(R:Addr->Prop),(∀b,R b->rtF RT Z ZV al b)->∀(i:Nat) (H:Hp),Kp R H1 H->(i<xs.length->J.go i H)/\(xs.length<=i->J.stop i H)/\∀x H',J.yld i H x H'->∀v,xs[i]? = some v->aW H H'/\(Tk K H->Tk K H')/\Rep K H' (λa=>exV RT Y old Z ZV v.pa v.al a\/Nw K H1 a) v.d x
theorem wL{v:Vl}:∀j∈(v.sub d).al,j∈v.al:=by unfold Vl.sub Vl.cl;split;intro j B;cases B;intro j B;exact B
theorem wM{v:Vl}:(v.sub d).fr=false:=by unfold Vl.sub Vl.cl;split <;> rfl
theorem kW{x:Vl}{ds:List D}{i:Nat}{v:Vl}(h:(items x ds)[i]? = some v):∃d,ds[i]? = some d/\v=x.sub d:=by
 unfold items at h;rw[A3] at h;cases q:ds[i]? with
 | none=>rw[q] at h;cases h|some d=>rw[q] at h;exact⟨d,rfl,(Aq h).symm⟩
theorem kB(h:rtF RT Z ZV al b):exV RT Y old Z ZV pa al b:=.inl h
theorem pJ:∀(as bs:List D),(fQ as bs).length=min as.length bs.length
 | [],_=>by simp[fQ]|_::_,[]=>by simp[fQ]|_::as,_::bs=>by rw[fQ,lC,pJ as bs,lC,lC];omega
theorem zM:∀{as bs:List D} {i:Nat} {a b:D},as[i]? = some a->bs[i]? = some b->(fQ as bs)[i]? = some (.tup [a,b])
 | [],_,_,_,_,h,_=>by simp at h|_::_,[],_,_,_,_,h=>by simp at h|_::_,_::_,0,_,_,h,h'=>by simp at h h';subst h h';rfl|_::as,_::bs,i+1,a,b,h,h'=>by have:=zM (by simpa using h) (by simpa using h');simpa[fQ] using this
theorem aIr(S:Sx K RT Y old Z ZV H){x:Vl}{ds:List D}{a:Addr}{xs:List V}(q:SqL K H a xs)(n:¬ exV RT Y old Z ZV x.pa x.al a)(r:Reps K H (exV RT Y old Z ZV x.pa x.al) ds xs) :
 zL K RT Y old Z ZV H (Itl K a) (items x ds) x.al where
 sub:=λv B j W=>by obtain⟨d,_,e⟩:=A0.mp B;subst e;exact wL j W
 nofr:=λv B=>by obtain⟨d,_,e⟩:=A0.mp B;subst e;exact wM
 ok:=λR I i H1 k=>by
  have U:=k.seqL (λz=>n (kB (I a z))) q;have hl:(items x ds).length=xs.length:=by unfold items;rw[lM,r.length]
  refine⟨λhi=>⟨xs,xs[i]'(by omega),U,Ae (by omega)⟩,λhi=>⟨xs,U,by omega⟩,λy H' L v B=>?_⟩;obtain⟨e,L⟩:=L;subst e;obtain⟨d,hd,e⟩:=kW B;subst e;obtain⟨y',G,ry⟩:=(r.outN.kp k (λb z=>S.rt b (I b z).1) λb z=>.inl (kB (I b z))).get hd;rw[L xs U] at G;cases G;exact⟨aW.refl _,id,RvN.sub ry⟩
theorem aLb(S:Sx K RT Y old Z ZV H){x:Vl}{ds:List D}{a:Addr}{xs:List V}(q:SqT K H a xs)(r:Reps K H (exV RT Y old Z ZV x.pa x.al) ds xs) :
 zL K RT Y old Z ZV H (Itt K a) (items x ds) x.al where
 sub:=λv B j W=>by obtain⟨d,_,e⟩:=A0.mp B;subst e;exact wL j W
 nofr:=λv B=>by obtain⟨d,_,e⟩:=A0.mp B;subst e;exact wM
 ok:=λR I i H1 k=>by
  have U:=k.seqT (λb z=>S.rt b (I b z).1) q;have hl:(items x ds).length=xs.length:=by unfold items;rw[lM,r.length]
  refine⟨λhi=>⟨xs,xs[i]'(by omega),U,Ae (by omega)⟩,λhi=>⟨xs,U,by omega⟩,λy H' L v B=>?_⟩;obtain⟨e,L⟩:=L;subst e;obtain⟨d,hd,e⟩:=kW B;subst e;obtain⟨y',G,ry⟩:=(r.outN.kp k (λb z=>S.rt b (I b z).1) λb z=>.inl (kB (I b z))).get hd;rw[L xs U] at G;cases G;exact⟨aW.refl _,id,RvN.sub ry⟩
theorem aFE{lo:Int}{m:Nat}{xs:List Vl}(hx:xs=((Ap m).map λ(k:Nat)=>Vl.cl (.int (lo+(k:Int))))):zL K RT Y old Z ZV H (Itr lo m) xs [] where
 sub:=λv B j I=>by subst hx;obtain⟨d,_,e⟩:=A0.mp B;subst e;exact I
 nofr:=λv B=>by subst hx;obtain⟨d,_,e⟩:=A0.mp B;subst e;rfl
 ok:=λR L i H1 k=>by
  have U:xs.length=m:=by rw[hx,lM,Bm]
  refine⟨λhi=>(show i<m by omega),λhi=>(show m<=i by omega),λy H' G v B=>?_⟩;obtain⟨e,G⟩:=G;subst e G;subst hx;rw[A3] at B;have hi:i<m:=by have:=(Ax.mp (show((Ap m).map λ(k:Nat)=>Vl.cl (.int (lo+(k:Int))))[i]? = some v by rw[A3];exact B)).1;simpa using this
  rw[D9 hi] at B;cases B;exact⟨aW.refl _,id,rfl⟩
theorem aLc{z:Str}(hx:xs=(z.cps.toList.map λn=>Vl.cl (.str ⟨#[n]⟩))):zL K RT Y old Z ZV H (Its z) xs [] where
 sub:=λv B j L=>by subst hx;obtain⟨d,_,e⟩:=A0.mp B;subst e;exact L
 nofr:=λv B=>by subst hx;obtain⟨d,_,e⟩:=A0.mp B;subst e;rfl
 ok:=λR U i H1 k=>by
  have W:xs.length=z.cps.size:=by rw[hx,lM,Bj]
  refine⟨λhi=>(show i<z.cps.size by omega),λhi=>(show z.cps.size<=i by omega),λy H' G v B=>?_⟩;obtain⟨e,c,I,G⟩:=G;subst e G;subst hx;rw[A3,BX,I] at B;cases B;exact⟨aW.refl _,id,rfl⟩
theorem aLd(S:Sx K RT Y old Z ZV H){ka kb:Bool}{as bs:List D}{a b:Addr}{xs I:List V}{pa:Bool}{al:List Nat}(qa:Sq ka K H a xs)(qb:Sq kb K H b I)(na:ka=true->¬ exV RT Y old Z ZV pa al a)(nb:kb=true->¬ exV RT Y old Z ZV pa al b)
 (ra:Reps K H (exV RT Y old Z ZV pa al) as xs) (rb:Reps K H (exV RT Y old Z ZV pa al) bs I):zL K RT Y old Z ZV H (Itz K ka kb a b) (items ⟨.non,false,pa,al⟩ (fQ as bs)) al where
 sub:=λv U j hj=>by obtain⟨d,_,e⟩:=A0.mp U;subst e;exact wL j hj
 nofr:=λv U=>by obtain⟨d,_,e⟩:=A0.mp U;subst e;exact wM
 ok:=λR L i H1 k=>by
  have keep:∀{W:Bool} {c:Addr} {zs:List V},(W=true->¬ exV RT Y old Z ZV pa al c)->Sq W K H c zs->Sq W K H1 c zs:=by
   intro W c zs nn q;cases W with
   | true=>exact k.seqL (λz=>nn rfl (kB (L c z))) q|false=>exact k.seqT (λb z=>S.rt b (L b z).1) q
  have B:=keep na qa;have G:=keep nb qb;have hl:(items ⟨.non,false,pa,al⟩ (fQ as bs)).length=min xs.length I.length:=by unfold items;rw[lM,pJ,ra.length,rb.length]
  refine⟨λhi=>?_,λhi=>⟨xs,I,B,G,by omega⟩,λy H' hy v U=>?_⟩;have h1:i<xs.length:=by omega
  exact⟨xs,I,xs[i],I[i],B,G,Ae h1,Ae (by omega)⟩;obtain⟨p,x,y',rfl,hp,hk,rfl,hh⟩:=hy;obtain⟨hx,hy⟩:=hh xs I B G;obtain⟨d,hd,e⟩:=kW U;subst e;obtain⟨d1,q0,q2⟩:=(ra.outN.kp k (λb z=>S.rt b (L b z).1) λb z=>.inl (kB (L b z))).get' hx;obtain⟨d2,q1,q3⟩:=(rb.outN.kp k (λb z=>S.rt b (L b z).1) λb z=>.inl (kB (L b z))).get' hy;rw[zM q0 q1] at hd;cases hd;exact⟨(aW.new hp),λtk=>tk.new hk,RvN.sub (⟨p,[x,y'],rfl,SqT.of bE,.cons (q2.grow (aW.new hp)) (.cons (q3.grow (aW.new hp)) .nil)⟩)⟩
theorem mX:∀(as:List D) (j:Int),(iK j as).length=as.length
 | [],_=>rfl|_::as,j=>by rw[iK,lC,mX as,lC]
theorem uO:∀{as:List D} {i:Nat} {j:Int} {a:D},as[i]? = some a->(iK j as)[i]? = some (.tup [.int (j+(i:Int)),a])
 | [],_,_,_,h=>by simp at h|_::_,0,j,_,h=>by simp at h;subst h;simp[iK]|_::as,i+1,j,a,h=>by
  have:=uO (j:=j+1) (by simpa using h);rw[iK,gS,this];have e:j+1+(i:Int)=j+((i+1:Nat):Int):=by omega
  rw[e]
theorem aIs(S:Sx K RT Y old Z ZV H){k:Bool}{as:List D}{a:Addr}{xs:List V}{x:Vl}(W:Sq k K H a xs)(na:k=true->¬ exV RT Y old Z ZV x.pa x.al a)(ra:Reps K H (exV RT Y old Z ZV x.pa x.al) as xs) :
 zL K RT Y old Z ZV H (Ite K k a) (items x (iK 0 as)) x.al where
 sub:=λv G j hj=>by obtain⟨d,_,e⟩:=A0.mp G;subst e;exact wL j hj
 nofr:=λv G=>by obtain⟨d,_,e⟩:=A0.mp G;subst e;exact wM
 ok:=λR I i H1 kp=>by
  have B:Sq k K H1 a xs:=by
   cases k with
   | true=>exact kp.seqL (λz=>na rfl (kB (I a z))) W|false=>exact kp.seqT (λb z=>S.rt b (I b z).1) W
  have hl:(items x (iK 0 as)).length=xs.length:=by unfold items;rw[lM,mX,ra.length]
  refine⟨λhi=>⟨xs,xs[i]'(by omega),B,Ae (by omega)⟩,λhi=>⟨xs,B,by omega⟩,λy H' hy v G=>?_⟩;obtain⟨p,z,rfl,hp,hk,rfl,hh⟩:=hy;obtain⟨d,hd,e⟩:=kW G;subst e;obtain⟨d1,L,U⟩:=(ra.outN.kp kp (λb z=>S.rt b (I b z).1) λb z=>.inl (kB (I b z))).get' (hh xs B);rw[uO L,Int.zero_add] at hd;cases hd;exact⟨(aW.new hp),λtk=>tk.new hk,RvN.sub (⟨p,[.int i,z],rfl,SqT.of bE,.cons rfl (.cons (U.grow (aW.new hp)) .nil)⟩)⟩
end
section
variable {X:Cx} {P:Pg} {Γ:Ct} {n:Nat} {RT Y old:Addr->Prop} {Z:Sg} {tg:AE}
def wI(X:Cx)(P:Pg)(n:Nat)(RT Y old:Addr->Prop)(Z:Sg)(it:Hp.It):TI:=λZV H R=>Sx X.K RT Y old Z ZV H/\RE (wx X ZV H) (walk P (call P n) Z it) λxs=>∀J H1,Tk X.K H1->aW H H1->zL X.K RT Y old Z ZV H1 J xs.1 xs.2->R J H1
theorem rW(h:PI X tg iter t)(f:∀ZV H R,Tk X.K H->t' ZV H R->t ZV H λJ H'=>Tk X.K H'->R J H'):PI X tg iter t':=λpins s ZV H R I L=>thn (h pins s ZV H _ I (f ZV H R I.tk L)) λv s1 h1=>thn h1 λU s2 ⟨it,fp,tn,J,H',e,B,T,st,G,q⟩=>⟨it,fp,tn,J,H',e,B,T,st,G,q B.tk⟩
theorem aNQ(L:PE X e (WE X P n RT Y old Z c)):PI X tg e (wI X P n RT Y old Z (.seq c)):=by refine rW (aLa L) λZV H W t ⟨S,h⟩=>?_;have h:=RE.bind' (h);refine wE.one S h λx u H1 hx t1 I G=>?_;have rv:=G.rv S;split at hx;rename_i ds B;obtain⟨a,xs,e,q,U,r⟩:=rv.lst B;exact .inl ⟨a,e,.inl ⟨⟨xs,q⟩,λt'=>hx _ _ t' G.1 (aIr I q U r)⟩⟩;rename_i ds B;obtain⟨a,xs,e,q,r⟩:=rv.tup B;exact .inl ⟨a,e,.inr ⟨⟨xs,q⟩,λt'=>hx _ _ t' G.1 (aLb I q r)⟩⟩;rename_i z B;obtain⟨c,hx⟩:=hx.iff;exact .inr ⟨z,rv.str B,λt'=>hx _ _ t' G.1 (aLc rfl)⟩;exact hx.elim
theorem rX(i j:Int):(iB i j).map Vl.cl=(Ap (j-i).toNat).map λ(k:Nat)=>Vl.cl (.int (i+(k:Int))):=by unfold iB;rw[A4];rfl
theorem eK(h:aT k=true):-(2 ^ 62)<=k/\k<2 ^ 62:=by unfold aT at h;simp only[bA,AA] at h;exact h
theorem aLe(M:Mc X P Γ n)(W:f=("range" : Str))(hg:cQ Γ f=true)(U:PE X e (WE X P n RT Y old Z b))(hp:bH e=true):PI X tg (.Call (.Name f p) [e] [] pos) (wI X P n RT Y old Z (.rng (.c (.int 0)) b)):=by
 subst W;refine rW (aDd (M.gl hg) (M.md.blt _ (by decide +kernel)) (iE U uH hp) (aB hp)) λZV H RR t ⟨S,h⟩=>?_;have h:=
  RE.bind' (show RE _ (ev P (call P n) Z b >>= λy=>(match (D.int 0),y.d with|.int i,.int j=>R.iff (aT i&&aT j) (R.ok ((iB i j).map Vl.cl,[]))|_,_=>.bad)) _ from h)
 refine⟨S,?_⟩;show RE _ (ev P (call P n) Z b >>= λx=>evs P (call P n) Z .z >>= λxs=>R.ok (x::xs)) _;rw[RE.bind];refine h.mono λy B=>?_;split at B;rename_i i j I L;cases I;obtain⟨c,B⟩:=B.iff;rw[bA] at c;intro us H1 t1 s1 r1;obtain⟨u,r',G,ru,hr⟩:=r1;rw[show r'=[] from hr] at G;subst G;refine⟨j,by rw[ru.int L],(eK c.2).1,(eK c.2).2,λt'=>B _ _ t' s1 (aFE ?_)⟩;rw[rX];simp;exact B.elim
theorem aLf(M:Mc X P Γ n)(hf:f=("range" : Str))(hg:cQ Γ f=true)(ha:PE X ea (WE X P n RT Y old Z a))(hb:PE X eb (WE X P n RT Y old Z b))(I:bH ea=true)(B:bH eb=true) :
 PI X tg (.Call (.Name f p) [ea,eb] [] pos) (wI X P n RT Y old Z (.rng a b)):=by subst hf;refine rW (aDe (M.gl hg) (M.md.blt _ (by decide +kernel)) (iE ha (iE hb uH B) I) (by rw[aB I,aB B];rfl) (aB B)) λZV H RR t ⟨S,h⟩=>?_;refine⟨S,?_⟩;show RE _ (ev P (call P n) Z a >>= λx=>evs P (call P n) Z (.k b .z) >>= λxs=>R.ok (x::xs)) _;rw[RE.bind];refine(RE.bind' (h)).mono λx hx=>?_;rw[RE.bind];show RE _ (ev P (call P n) Z b >>= λx=>evs P (call P n) Z .z >>= λxs=>R.ok (x::xs)) _;rw[RE.bind];refine(RE.bind' hx).mono λy L=>?_;split at L;rename_i i j W e2;obtain⟨c,L⟩:=L.iff;rw[bA] at c;intro us H1 t1 s1 r1;obtain⟨u,r',eu,ru,u2,r2,G,U,hr⟩:=r1;rw[show r2=[] from hr] at G;subst G;subst eu;refine⟨i,j,by rw[ru.int W,U.int e2],⟨(eK c.1).1,(eK c.1).2,(eK c.2).1,(eK c.2).2⟩,λt'=>L _ _ t' s1 (aFE ?_)⟩;rw[rX];exact L.elim
theorem aBd{x:Vl}(hx:Rv X.K RT Y old Z ZV H x u)(h:yN x.d=some ds):∃(k:Bool) (a:Addr) (xs:List V),u=.ref a/\Sq k X.K H a xs/\(k=true->¬ exV RT Y old Z ZV x.pa x.al a)/\Reps X.K H (exV RT Y old Z ZV x.pa x.al) ds xs:=by unfold yN at h;split at h;rename_i ds' B;cases h;obtain⟨a,xs,e,q,G,r⟩:=hx.lst B;exact⟨true,a,xs,e,q,λ_=>G,r⟩;rename_i ds' B;cases h;obtain⟨a,xs,e,q,r⟩:=hx.tup B;exact⟨false,a,xs,e,q,(λz=>absurd z bN),r⟩;cases h
theorem aNR(M:Mc X P Γ n)(hf:f=("zip" : Str))(hg:cQ Γ f=true)(ha:PE X ea (WE X P n RT Y old Z a))(hb:PE X eb (WE X P n RT Y old Z b))(I:bH ea=true)(B:bH eb=true) :
 PI X (.Tuple elts tk tp) (.Call (.Name f p) [ea,eb] [] pos) (wI X P n RT Y old Z (.zip a b)):=by subst hf;refine rW (aKZ (M.gl hg) (M.md.blt _ (by decide +kernel)) (iE ha (iE hb uH B) I) (by rw[aB I,aB B];rfl) (aB B)) λZV H RR t ⟨S,h⟩=>?_;have h:=RE.bind' (h);refine⟨S,?_⟩;show RE _ (ev P (call P n) Z a >>= λx=>evs P (call P n) Z (.k b .z) >>= λxs=>R.ok (x::xs)) _;rw[RE.bind];refine h.mono λx hx=>?_;rw[RE.bind];show RE _ (ev P (call P n) Z b >>= λx=>evs P (call P n) Z .z >>= λxs=>R.ok (x::xs)) _;rw[RE.bind];refine(RE.bind' hx).mono λy W=>?_;split at W;rename_i as bs e1 e2;intro us H1 t1 s1 r1;obtain⟨u,r',eu,ru,u2,r2,G,q0,hr⟩:=r1;rw[show r2=[] from hr] at G;subst G;subst eu;obtain⟨ka,a1,xs,rfl,qa,na,ra⟩:=aBd ru e1;obtain⟨kb,b1,ys,rfl,qb,nb,rb⟩:=aBd q0 e2;have w1:∀c,exV RT Y old Z ZV (x.pa||y.pa) (x.al++y.al) c->exV RT Y old Z ZV x.pa x.al c:=λc z=>z.mono (λhp=>by rw[hp];rfl) λj L=>Bc _ L;have w2:∀c,exV RT Y old Z ZV (x.pa||y.pa) (x.al++y.al) c->exV RT Y old Z ZV y.pa y.al c:=λc z=>z.mono (λhp=>by rw[hp,E0]) λj L=>A5 _ L;exact⟨ka,kb,a1,b1,xs,ys,rfl,qa,qb,λt'=>W _ _ t' s1 (aLd (S.grow s1 t1) qa qb (λU z=>na U (w1 _ z)) (λU z=>nb U (w2 _ z)) (ra.weak w1) (rb.weak w2))⟩;exact W.elim
theorem aLg(M:Mc X P Γ n)(hf:f=("enumerate" : Str))(hg:cQ Γ f=true)(W:PE X ea (WE X P n RT Y old Z a))(B:bH ea=true) :
 PI X (.Tuple elts tk tp) (.Call (.Name f p) [ea] [] pos) (wI X P n RT Y old Z (.enum a)):=by subst hf;refine rW (aIp (M.gl hg) (M.md.blt _ (by decide +kernel)) (iE W uH B) (aB B)) λZV H RR t ⟨S,h⟩=>?_;refine⟨S,?_⟩;show RE _ (ev P (call P n) Z a >>= λx=>evs P (call P n) Z .z >>= λxs=>R.ok (x::xs)) _;rw[RE.bind];refine(RE.bind' (h)).mono λx hx=>?_;split at hx;rename_i as U;intro us H1 t1 s1 r1;obtain⟨u,r',G,ru,hr⟩:=r1;rw[show r'=[] from hr] at G;subst G;obtain⟨k,L,xs,rfl,I,na,ra⟩:=aBd ru U;exact⟨k,L,xs,rfl,I,λt'=>hx _ _ t' s1 (aIs (S.grow s1 t1) I na ra)⟩;exact hx.elim
end
def gs:List Nat->TGs
 | []=>aMP|i::is=>aJq (yC i) (gs is)
def gT(K:Fg):T->TG
 | .n i=>yC i|.t is=>aMQ K is.length (gs is)
section
variable {K:Fg} {RT Y old:Addr->Prop} {Z:Sg} {ZV:L2.St} {H H':Hp}
theorem set_some{α:Type}{l:List α}{i j:Nat}{x y:α}(e:(l.set i x)[j]? = some y):(i=j/\x=y/\i<l.length)\/(i≠j/\l[j]? = some y):=by by_cases B:i=j;subst B;have G:=(Ax.mp e).1;rw[AF] at G;rw[AK G] at e;cases e;exact .inl ⟨rfl,rfl,G⟩;rw[Au B] at e;exact .inr ⟨B,e⟩
theorem Sx.setSh(S:Sx K RT Y old Z ZV H)(h:Rep K H (λa=>RT a\/exB Y old pa a) d u):Sx K RT Y old (Z.set i (.sh pa d)) (ZV.set i (some u)) H where
 sh:=λj pa' d' e=>by
  rcases set_some e with⟨rfl,e,hl⟩|⟨B,e⟩
  cases e;exact⟨u,AK (by rw[<-S.len];exact hl),h⟩;obtain⟨v,h1,h2⟩:=S.sh j pa' d' e;exact⟨v,by rw[Au B];exact h1,h2⟩
 own:=λj pa' ds e=>by
  rcases set_some e with⟨rfl,e,hl⟩|⟨B,e⟩
  cases e;obtain⟨a,xs,h1,h2⟩:=S.own j pa' ds e;exact⟨a,xs,by rw[Au B];exact h1,h2⟩
 trk:=S.trk
 yo:=S.yo
 tk:=S.tk
 rt:=S.rt
 inj:=λj j' pa' G ds ds' a I L U W=>by
  rcases set_some I with⟨_,e,_⟩|⟨n1,I⟩
  cases e;rcases set_some L with⟨_,e,_⟩|⟨n2,L⟩
  cases e;rw[Au n1] at U;rw[Au n2] at W;exact S.inj j j' pa' G ds ds' a I L U W
 len:=by rw[AF,AF];exact S.len
theorem Rep.out{ex:Addr->Prop}(h:Rep K H ex d v)(n:H a=none)(k:K.lookup a=none):Rep K H (λb=>b=a\/ex b) d v:=
 Rep.imp (λ_ _ q=>q) (λb xs G q=>⟨λz=>z.elim (λz=>by
  subst z;rcases q with(q|⟨o,q⟩)|⟨o,B,m,q,_⟩
  rw[n] at q;cases q;rw[n] at q;cases q;rw[k] at q;cases q) G,q⟩) (λ⟨c,h1,h2⟩=>⟨c,h1,h2.resolve_left λz=>h1 (by rw[z];exact k)⟩) (λ_ _ _ q=>q) (λ_ _ _ _ q=>q) d v h
theorem Reps.out{ex:Addr->Prop}(h:Reps K H ex d v)(n:H a=none)(k:K.lookup a=none):Reps K H (λb=>b=a\/ex b) d v:=
 Reps.imp (λ_ _ q=>q) (λb xs G q=>⟨λz=>z.elim (λz=>by
  subst z;rcases q with(q|⟨o,q⟩)|⟨o,B,m,q,_⟩
  rw[n] at q;cases q;rw[n] at q;cases q;rw[k] at q;cases q) G,q⟩) (λ⟨c,h1,h2⟩=>⟨c,h1,h2.resolve_left λz=>h1 (by rw[z];exact k)⟩) (λ_ _ _ q=>q) (λ_ _ _ _ q=>q) d v h
theorem Sx.storeOwn(S:Sx K RT Y old Z ZV H)(s:aW H H')(t:Tk K H')(hn:H a=none)(L:H' a=some (.lst xs))(r:Reps K H' (λb=>(RT b\/b=a)\/exB Y old pa b) ds xs) :
 Sx K (λb=>RT b\/b=a) Y old (Z.set i (.own pa ds)) (ZV.set i (some (.ref a))) H' where
 sh:=λj pa' d' e=>by
  rcases set_some e with⟨rfl,e,U⟩|⟨B,e⟩
  cases e;obtain⟨v,h1,h2⟩:=S.sh j pa' d' e;refine⟨v,by rw[Au B];exact h1,((h2.out hn (t a (by rw[L];simp))).grow s).weak λb z=>?_⟩;rcases z with(z|z)|z;exact .inr (.inl z);exact .inl z;exact .inr (.inr z)
 own:=λj pa' ds' e=>by
  rcases set_some e with⟨rfl,e,U⟩|⟨B,e⟩
  cases e;exact⟨a,xs,AK (by rw[<-S.len];exact U),L,.inr rfl,λz=>S.trk a (.inr (.inr z)) hn (t a (by rw[L];simp)),r⟩;obtain⟨a',q1,h1,h2,h3,h4,h5⟩:=S.own j pa' ds' e;refine⟨a',q1,by rw[Au B];exact h1,s _ _ h2,.inl h3,h4,((h5.out hn (t a (by rw[L];simp))).grow s).weak λb z=>?_⟩;rcases z with(z|z)|z;exact .inr (.inl z);exact .inl z;exact .inr (.inr z)
 trk:=λb z q=>by rcases z with(z|z)|z;exact S.trk b (.inl z) (s.free q);rw[z,L] at q;cases q;exact S.trk b (.inr z) (s.free q)
 yo:=S.yo
 tk:=t
 rt:=λb z=>by rcases z with z|z;exact(S.rt b z).grow s;rw[z];exact .inl ⟨xs,L⟩
 inj:=λj j' pa' q0 q2 q3 c e1 G W I=>by
  have fr:∀{j:Nat} {pa:Bool} {ds:List D},Z[j]? = some (.own pa ds)->ZV[j]? = some (some (.ref a))->False:=λ{j pa ds} e q=>by obtain⟨a',q1,h1,h2,_⟩:=S.own j pa ds e;rw[q] at h1;cases h1;rw[hn] at h2;cases h2
  rcases set_some e1 with⟨rfl,e,U⟩|⟨n1,e1⟩
  rcases set_some G with⟨rfl,_,_⟩|⟨n2,G⟩
  rfl;rw[AK (by rw[<-S.len];exact U)] at W;cases W;rw[Au n2] at I;exact(fr G I).elim;rw[Au n1] at W;rcases set_some G with⟨rfl,e,U⟩|⟨n2,G⟩
  rw[AK (by rw[<-S.len];exact U)] at I;cases I;exact(fr e1 W).elim;rw[Au n2] at I;exact S.inj j j' pa' q0 q2 q3 c e1 G W I
 len:=by rw[AF,AF];exact S.len
theorem oN{v:Vl}(h:v.fr=false):v.slot=.sh v.pa v.d:=by unfold Vl.slot;rw[h]
theorem aIt{v:Vl}(h:v.fr=true)(hd:v.d=.lst ds):v.slot=.own v.pa ds:=by unfold Vl.slot;rw[h,hd]
theorem Sx.store(S:Sx K RT Y old Z ZV H){v:Vl}(I:Ro K RT Y old Z ZV H H' v u)(t:Tk K H')(i:Nat) :
 ∃B,Sx K B Y old ((freeze Z v.al).set i v.slot) (ZV.set i (some u)) H'/\∀b,B b->RT b\/H b=none:=by by_cases G:v.fr=true;obtain⟨s,h⟩:=I;rw[if_pos G] at h;obtain⟨a,xs,ds,U,W,L,e4,r⟩:=h;subst U;rw[aIt G W];refine⟨_,(S.frz v.al).storeOwn s t L.1 e4 (r.weak λb z=>?_),λb z=>z.elim (λz=>.inl z.1) λz=>.inr (by rw[z];exact L.1)⟩;rcases z with(z|z)|z;exact .inr (.inl z);exact .inl z;exact .inr (.inr z);rw[oN (by simpa using G)];exact⟨_,((S.grow I.1 t).frz v.al).setSh (I.rv S),λb z=>.inl z.1⟩
theorem aJC:∀{is:List Nat} {us:List V} {ZV:L2.St} {H:Hp} {Q:L2.St->Hp->Prop},is.length=us.length->Q ((is.zip us).foldl (λs p=>s.set p.1 (some p.2)) ZV) H->gs is us ZV H Q
 | [],[],_,_,_,_,h=>⟨rfl,h⟩
 | [],_::_,_,_,_,e,_=>by simp at e|_::_,[],_,_,_,e,_=>by simp at e|i::is,u::us,ZV,H,Q,e,h=>⟨u,us,rfl,aJC (by simpa using e) h⟩
theorem zN{v:Vl}:(v.sub d).slot=.sh (!noL d&&v.pa) d:=by
 unfold Vl.sub Vl.cl;split;rename_i h;rw[h];rfl;rename_i h;have:noL d=false:=by simpa using h
 rw[this];rfl
theorem Sx.setAll{v:Vl}:∀{is:List Nat} {ds:List D} {us:List V} {Z:Sg} {ZV:L2.St},Sx K RT Y old Z ZV H->Reps K H (λa=>RT a\/exB Y old v.pa a) ds us ->
 Sx K RT Y old ((is.zip ds).foldl (λZ p=>Z.set p.1 (v.sub p.2).slot) Z) ((is.zip us).foldl (λs p=>s.set p.1 (some p.2)) ZV) H
 | [],_,_,_,_,S,_=>S|_::_,[],us,_,_,S,r=>by rw[show us=[] from r];exact S|i::is,d::ds,us,Z,ZV,S,r=>by
  obtain⟨x,G,e,h1,h2⟩:=r;subst e;refine Sx.setAll (is:=is) ?_ h2;show Sx K RT Y old (Z.set i (v.sub d).slot) (ZV.set i (some x)) H;rw[zN];refine S.setSh ?_;cases B:noL d with
  | true=>exact Rep.free d x B h1|false=>exact h1
theorem oO{α:Type}{B:Type}(f:B->α):∀{is:List Nat} {bs:List B} {l:List α} {j:Nat},j∉is->((is.zip bs).foldl (λs p=>s.set p.1 (f p.2)) l)[j]? = l[j]?
 | [],_,_,_,_=>rfl|_::_,[],_,_,_=>rfl|i::is,b::bs,l,j,h=>by
  have h':i≠j/\j∉is:=by refine⟨λe=>h (by simp[e]),λz=>h (Aj _ z)⟩
  rw[Bf,Cm,oO f h'.2,Au h'.1]
theorem zO{α:Type}{B:Type}(f:B->α):∀{is:List Nat} {bs:List B} {l:List α},((is.zip bs).foldl (λs p=>s.set p.1 (f p.2)) l).length=l.length
 | [],_,_=>rfl|_::_,[],_=>rfl|i::is,b::bs,l=>by rw[Bf,Cm,zO f,AF]
theorem fold_mem{α:Type}{B:Type}(f:B->α):∀{is:List Nat} {bs:List B} {l:List α} {j:Nat} {x:α},((is.zip bs).foldl (λs p=>s.set p.1 (f p.2)) l)[j]? = some x->l[j]? = some x\/∃b,x=f b
 | [],_,_,_,_,h=>.inl h|_::_,[],_,_,_,h=>.inl h|i::is,b::bs,l,j,x,h=>by
  rw[Bf,Cm] at h;rcases fold_mem f h with q|q;rcases set_some q with⟨_,e,_⟩|⟨_,e⟩
  exact .inr ⟨b,e.symm⟩;exact .inl e;exact .inr q
theorem rY{v:Vl}{is:List Nat}(e:cR Z v (.t is)=.ok Z2):∃ds,v.d=.tup ds/\ds.length=is.length/\Z2=(is.zip ds).foldl (λZ p=>Z.set p.1 (v.sub p.2).slot) Z:=by unfold cR at e;simp only at e;split at e;rename_i ds hd;split at e;rename_i B;cases e;exact⟨ds,hd,B,rfl⟩;cases e;cases e
theorem rZ{v:Vl}(e:cR Z v (.n i)=.ok Z2):Z2=Z.set i v.slot:=by cases(e);rfl
theorem aFF{B:Sg}(e:cR Z v t=.ok B)(h:j∉tIx t):B[j]? = Z[j]? := by
 cases t with
 | n i=>rw[rZ e];exact Au λz=>h (by simp[tIx,z])|t is=>obtain⟨ds,_,_,e⟩:=rY e;rw[e];exact oO (λd=>(v.sub d).slot) h
theorem aFG{B:Sg}(e:cR Z v t=.ok B):B.length=Z.length:=by
 cases t with
 | n i=>rw[rZ e,AF]|t is=>obtain⟨ds,_,_,e⟩:=rY e;rw[e];exact zO (λd=>(v.sub d).slot)
theorem aFH{v:Vl}{t:T}{B:Sg}{j:Nat}{pa:Bool}{ds:List D}(G:v.fr=false)(e:cR Z v t=.ok B)(h:B[j]? = some (.own pa ds)):Z[j]? = some (.own pa ds):=by
 cases t with
 | n i=>
  rw[rZ e,oN G] at h;rcases set_some h with⟨_,e,_⟩|⟨_,e⟩
  cases e;exact e
 | t is=>
  obtain⟨ds',_,_,e⟩:=rY e;rw[e] at h;rcases fold_mem (λd=>(v.sub d).slot) h with q|⟨b,q⟩
  exact q;rw[zN] at q;cases q
theorem aFI(S:Sx K RT Y old Z ZV H){v:Vl}{Q:L2.St->Hp->Prop}(G:v.fr=false)(h:Rep K H (λa=>RT a\/exB Y old v.pa a) v.d u)(e:cR Z v t=.ok Z2)
 (q:∀B,Sx K RT Y old Z2 B H->(∀j,j∉tIx t->B[j]? = ZV[j]?)->Q B H):gT K t u ZV H Q:=by
 cases t with
 | n i=>rw[rZ e,oN G] at q;exact q _ (S.setSh h) λj I=>Au λz=>I (by simp[tIx,z])|t is=>obtain⟨ds,hd,U,e⟩:=rY e;rw[hd] at h;obtain⟨a,xs,rfl,L,r⟩:=h;have W:=r.length;refine⟨a,xs,rfl,L,by omega,aJC (by omega) (q _ ?_ λj I=>?_)⟩;rw[e];exact S.setAll r;exact oO (λd=>some d) I
end
section
variable {X:Cx} {P:Pg} {n:Nat} {RT Y old:Addr->Prop} {Z:Sg}
theorem zP(M:Mc X P Γ n):∀{is:List Nat} {es:List AE},is.length=es.length->((is.zip es).all λp=>match p.2 with|.Name x _=>cV Γ p.1 x|_=>false)=true ->
 PGs X es (gs is)/\(CV es X.env).length=is.length/\(CV es X.env).findIdx? (·.1)=none
 | [],[],_,_=>⟨aHw,rfl,rfl⟩
 | [],_::_,e,_=>by simp at e|_::_,[],e,_=>by simp at e|i::is,e::es,hl,h=>by
  rw[Bf,Eg,bA] at h;obtain⟨h1,h2,G⟩:=zP M (by simpa using hl) h.2;cases e with
  | Name x p=>have hs:=h.1;unfold cV at hs;simp only[bA,beq_iff_eq] at hs;have B:CV (.Name x p::es) X.env=(false,Iw (.Name x p) X.env)::CV es X.env:=rfl;refine⟨aEs (aBN M.nd (by rw[M.N];exact hs.1.1) (M.loc hs.1.2) (M.st x hs.1.2)) h1 (by rfl),?_,?_⟩;rw[B,lC,lC,h2];rw[B,List.findIdx?_cons];simp[G]|_=>cases h.1
theorem aIu(M:Mc X P Γ n)(h:tO Γ t tg=true):PG X tg (gT X.K t):=by
 cases t with
 | n i=>
  cases tg with
  | Name x p=>have hs:cV Γ i x=true:=h;unfold cV at hs;simp only[bA,beq_iff_eq] at hs;exact aBN M.nd (by rw[M.N];exact hs.1.1) (M.loc hs.1.2) (M.st x hs.1.2)|_=>cases h
 | t is=>
  cases tg with
  | Tuple es k p=>have h:(is.length==es.length&&(is.zip es).all λp=>match p.2 with|.Name x _=>cV Γ p.1 x|_=>false)=true:=h;rw[bA,beq_iff_eq] at h;obtain⟨h1,h2,B⟩:=zP M h.1 h.2;exact aKa M.calm h1 h2 B|_=>cases h
def ch0(k:Nat)(caps:List Nat)(Z:Sg):Sg:=Af k .x++caps.map λi=>(Z[i]?).getD .x
theorem ch0_get{caps:List Nat}{Z:Sg}(h:(ch0 k caps Z)[j]? = some s):s=.x\/∃G i,j=k+G/\caps[G]? = some i/\Z[i]? = some s:=by
 unfold ch0 at h;by_cases B:j<k;rw[AQ (by simpa using B),BO,if_pos B] at h;cases h;exact .inl rfl;rw[AD (by simpa using B),A9,A3] at h;cases e:caps[j-k]? with
 | none=>rw[e] at h;cases h|some i=>
  rw[e] at h;have h':(Z[i]?).getD .x=s:=Aq h;cases q:Z[i]? with
  | none=>rw[q] at h';exact .inl h'.symm|some z=>rw[q] at h';exact .inr ⟨j-k,i,by omega,e,by rw[q];exact congrArg some h'⟩
theorem aFJ(B:j<k)(h:(ch0 k caps Z)[j]? = some s):s=.x:=by unfold ch0 at h;rw[AQ (by simpa using B),BO,if_pos B] at h;cases h;rfl
theorem aCl{caps:List Nat}{ZV:L2.St}(e:caps[j]? = some i)(h:ZV[i]? = some (some v)):(lW k caps ZV)[k+j]? = some (some v):=by unfold lW;rw[AD (by simp),A9,A3,CQ,e];show some ((ZV[i]?).getD none)=_;rw[h];rfl
theorem wN{caps:List Nat}{ZV:L2.St}(e:caps[j]? = some i)(h:(lW k caps ZV)[k+j]? = some (some v)):ZV[i]? = some (some v):=by
 unfold lW at h;rw[AD (by simp),A9,A3,CQ,e] at h;have h':(ZV[i]?).getD none=some v:=Aq h;cases q:ZV[i]? with
 | none=>rw[q] at h';cases h'|some z=>rw[q] at h';exact congrArg some h'
theorem uP{α:Type}:∀{l:List α},l.Nodup->∀{i j:Nat} {x:α},l[i]? = some x->l[j]? = some x->i=j
 | [],_,_,_,_,h,_=>by simp at h|a::l,hn,0,0,_,_,_=>rfl|a::l,hn,0,j+1,x,h1,h2=>by
  have e:a=x:=by simpa using h1
  have:=mG (by simpa using h2);subst e;exact absurd this (Ck.mp hn).1
 | a::l,hn,i+1,0,x,h1,h2=>by
  have e:a=x:=by simpa using h2
  have:=mG (by simpa using h1);subst e;exact absurd this (Ck.mp hn).1
 | a::l,hn,i+1,j+1,x,h1,h2=>congrArg (·+1) (uP (Ck.mp hn).2 (by simpa using h1) (by simpa using h2))
theorem Sx.child{K:Fg}{ZV:L2.St}{H:Hp}(S:Sx K RT Y old Z ZV H){k:Nat}{caps:List Nat}(nd:caps.Nodup):Sx K RT Y old (ch0 k caps Z) (lW k caps ZV) H where
 sh:=λj pa d e=>by
  rcases ch0_get e with z|⟨j',i,rfl,I,hs⟩
  cases z;obtain⟨v,h1,h2⟩:=S.sh i pa d hs;exact⟨v,aCl I h1,h2⟩
 own:=λj pa ds e=>by
  rcases ch0_get e with z|⟨j',i,rfl,I,hs⟩
  cases z;obtain⟨a,xs,h1,h2⟩:=S.own i pa ds hs;exact⟨a,xs,aCl I h1,h2⟩
 trk:=S.trk
 yo:=S.yo
 tk:=S.tk
 rt:=S.rt
 inj:=λj1 j2 pa pa' ds ds' a W e2 e3 e4=>by
  rcases ch0_get W with z|⟨q0,i1,rfl,B,L⟩
  cases z;rcases ch0_get e2 with z|⟨q1,i2,rfl,G,U⟩
  cases z;have:=S.inj i1 i2 pa pa' ds ds' a L U (wN B e3) (wN G e4);subst this;rw[uP nd B G]
 len:=by unfold ch0 lW;rw[lA,lA,lM,lM,A9,A9]
theorem Sx.forget{K:Fg}{Z':Sg}{ZV:L2.St}{H:Hp}(S:Sx K RT Y old Z ZV H)(hl:Z'.length=Z.length)(h:∀(j:Nat) (s:Sl),Z'[j]? = some s->s=.x\/Z[j]? = some s):Sx K RT Y old Z' ZV H where
 sh:=λj pa d e=>by rcases h j _ e with z|z;cases z;exact S.sh j pa d z
 own:=λj pa d e=>by rcases h j _ e with z|z;cases z;exact S.own j pa d z
 trk:=S.trk
 yo:=S.yo
 tk:=S.tk
 rt:=S.rt
 inj:=λB G pa pa' ds ds' a I L U W=>by rcases h B _ I with z|z1;cases z;rcases h G _ L with z|z2;cases z;exact S.inj B G pa pa' ds ds' a z1 z2 U W
 len:=by rw[hl];exact S.len
def wTs(X:Cx)(P:Pg)(n:Nat)(RT Y old:Addr->Prop)(Z:Sg)(cs:Es):TT:=λZV H Q=>Sx X.K RT Y old Z ZV H/\RE (wx X ZV H) (tsts P (call P n) Z cs) λk=>∀H',Tk X.K H'->aW H H'->Q k H'
def aFK(K:Fg)(P:Pg)(n:Nat)(RT Y old:Addr->Prop)(Z:Sg)(cs:Es):TT:=λZV H Q=>Sx K RT Y old Z ZV H/\RE (λ_=>False) (tsts P (call P n) Z cs) λk=>∀H',Tk K H'->aW H H'->Q k H'
def clW(K:Fg)(W0:Value->L2.St->Hp->Prop)(ZV:L2.St)(H:Hp):D->Prop
 | .err c fs=>∀cls:Value,Kc K H c fs cls->W0 cls ZV H|_=>False
theorem clW.xw{X:Cx}{W0:Value->L2.St->Hp->Prop}(h:Rs X W0)(z:clW X.K W0 ZV H x):XW X ZV H x:=by
 cases x with
 | err c fs=>exact λcls q pins s a I B=>h pins ZV H s a cls I B (z cls q)|_=>exact z
def wE0(K:Fg)(P:Pg)(n:Nat)(W0:Value->L2.St->Hp->Prop)(RT Y old:Addr->Prop)(Z:Sg)(c:E):TE:=λZV H Q=>Sx K RT Y old Z ZV H/\RE (λx=>∀H',Tk K H'->aW H H'->clW K W0 ZV H' x) (ev P (call P n) Z c) λv=>∀u H',Tk K H'->Ro K RT Y old Z ZV H H' v u->Q u H'
theorem aCm(h:PTs X es (wTs X P n RT Y old Z cs)):PTs X es (aFK X.K P n RT Y old Z cs):=λpins s ZV H Q I ⟨S,q⟩=>h pins s ZV H Q I ⟨S,q.weak λ_ z=>z.elim⟩
theorem aFL{W0:Value->L2.St->Hp->Prop}(B:Rs X W0)(h:PE X e (WE X P n RT Y old Z c)):PE X e (wE0 X.K P n W0 RT Y old Z c):=λpins s ZV H Q I ⟨S,q⟩=>h pins s ZV H Q I ⟨S,q.weak λ_ z H' t G=>clW.xw B (z H' t G)⟩
theorem aLh:PTs X [] (wTs X P n RT Y old Z .z):=λpins s ZV H Q I ⟨S,h⟩=>aHX pins s ZV H Q I ((h) H I.tk (aW.refl H))
theorem aLi(h:PT X e (WT X P n RT Y old Z c)):PTs X [e] (wTs X P n RT Y old Z (.k c .z)):=λpins s ZV H Q I ⟨S,G⟩=>aHY h pins s ZV H Q I ⟨S,by
 refine(RE.bind' (G)).mono λk B=>?_;cases k with
 | true=>exact B|false=>exact B⟩
theorem Rvs.append{K:Fg}{ZV:L2.St}{H:Hp}:∀{vs ws:List Vl} {us zs:List V},Rvs K RT Y old Z ZV H vs us->Rvs K RT Y old Z ZV H ws zs->Rvs K RT Y old Z ZV H (vs++ws) (us++zs)
 | [],_,_,_,h,q=>by rw[show _=[] from h];exact q|v::vs,_,_,_,h,q=>by obtain⟨u,r,e,h1,h2⟩:=h;subst e;exact⟨u,_,rfl,h1,Rvs.append h2 q⟩
def lv(k:Nat)(caps al:List Nat)(v:Vl):Vl:=⟨v.d,false,v.pa,al++v.al.filterMap λj=>caps[j-k]?⟩
theorem oP(Z:Sg)(v:Vl)(t:T):∀z,cR Z v t≠.exc z:=λz q=>by
 unfold cR at q
 repeat' split at q
 all_goals cases q
theorem RE.both{α:Type}{x:R α}{p q:α->Prop}{w w':D->Prop}(h:RE w x p)(f:∀e,w e->x=.exc e->w' e)(g:∀a,p a->q a):RE w' x q:=by
 cases x with
 | ok a=>exact g a h|exc e=>exact f e h rfl|bad=>exact h
theorem aFM{fn:Bool}{k:Nat}{caps:List Nat}{t:T}{it:Hp.It}{cond:Es}{elt:E}(w8:caps.Nodup)(hk:∀i∈tIx t,i<k)(w5:(fn||jK elt)=true){ZV:L2.St}{H:Hp}{Q:VK}(hw:WE X P n RT Y old Z (.comp k caps t it cond elt) ZV H Q) :
 aEY (λc Z H=>fn=true/\RX X c Z H) k caps (wI X P n RT Y old Z it) (gT X.K t) (λZV H Q=>∃RT Y old G,aFK X.K P n RT Y old G cond ZV H Q) (λW0 ZV H Q=>∃RT Y old G,wE0 X.K P n W0 RT Y old G elt ZV H Q) ZV H λv H'=>Tk X.K H'->Q v H':=by
 obtain⟨S,h⟩:=hw
 let f:List Nat->Vl->R (Option Vl):=λal x=>cR (ch0 k caps (freeze Z al)) x t >>= λG=>(tsts P (call P n) G cond).calm >>= λb=>if b=true then (ev P (call P n) G elt >>= λy=>R.ok (some y)) else R.ok none
 refine⟨S,(RE.bind' (h)).mono λxs hx J H1 t1 s1 ok=>?_⟩;obtain⟨hl,hx⟩:=hx.iff;have hl:=of_decide_eq_true hl;refine⟨λi m ys q4 Hc=>m=xs.1.length-i/\i<=xs.1.length/\aW H1 Hc/\Tk X.K Hc/\Sx X.K (rtF RT Z ZV xs.2) Y old (ch0 k caps (freeze Z xs.2)) q4 Hc/\(∀j,k<=j->q4[j]? = (lW k caps ZV)[j]?) /\
  ∃ws:List Vl,ws.length<=i/\RE (wx X ZV H) (jR (f xs.2) (xs.1.drop i)) (λrs=>Wn X RT Y old Z ZV H Q (dW k caps xs.2 (ws++rs)))/\Rvs X.K RT Y old Z ZV Hc (ws.map (lv k caps xs.2)) ys,⟨_,rfl,B7 _,aW.refl _,t1,((S.grow s1 t1).frz xs.2).child w8,λ_ _=>rfl,[],Al _,(RE.bind' hx),rfl⟩,?_⟩
 rintro i m ys q4 Hc ⟨hm,hi,sc,tc,Sc,q9,ws,z3,W,q2⟩;have q6:=ok.ok (λ_=>False) (λ_ z=>z.elim) i Hc (Kp.same sc);have w3:=q2.length;rw[lM] at w3;by_cases B:i<xs.1.length;refine .inr ⟨q6.1 B,by rw[<-w3,Du];have:lim=1000000:=rfl;omega,λx H' hy=>?_⟩;obtain⟨sm,z0,rv⟩:=q6.2.2 x H' hy xs.1[i] (Ae B);rw[D5 B] at W;obtain⟨G,q0,ef⟩:=(RE.bind' ((RE.bind' (W)))).eqc (oP _ _ _);obtain⟨b,eb,ef⟩:=RE.calmEq (RE.bind' ef);have w4:=ok.nofr _ (AI B);have rep:Rep X.K H' (λa=>rtF RT Z ZV xs.2 a\/exB Y old xs.1[i].pa a) xs.1[i].d x:=Rep.weak (Rep.weak rv λa z=>.inl z) λa z=>by rcases z with z|z;exact .inl ⟨z.1,λq=>z.2 (q.mono (ok.sub _ (AI B)))⟩;exact .inr z
 refine aFI (Sc.grow sm (z0 tc)) w4 rep q0 λU S2 q5=>⟨_,_,_,G,S2,?_⟩
 rw[eb];intro H3 t3 s3;have I:∀j,k<=j->U[j]? = (lW k caps ZV)[j]? := λj L=>by rw[q5 j λz=>absurd (hk j z) (Db.mpr L),q9 j L]
 have q3:∀{H5:Hp},Sx X.K (rtF RT Z ZV xs.2) Y old G U H5->Sx X.K (rtF RT Z ZV xs.2) Y old (ch0 k caps (freeze Z xs.2)) U H5:=λ{H5} S5=>S5.forget (aFG q0).symm λj s hs=>by by_cases L:j∈tIx t;exact .inl (aFJ (hk j L) hs);exact .inr (by rw[aFF q0 L];exact hs)
 cases b with
 | false=>rw[if_neg bN] at ef ⊢;exact⟨_,by omega,rfl,B,sc.trans (sm.trans s3),t3,q3 (S2.grow s3 t3),I,ws,by omega,RE.bind' ef,q2.grow (sm.trans s3)⟩|true=>
  rw[if_pos rfl] at ef ⊢;have w9:∀x,wx X ZV H x->ev P (call P n) G elt=.exc x->∀H',Tk X.K H'->aW H3 H'->clW X.K (λc _ H=>fn=true/\RX X c ZV H) U H' x:=λx z ex H' t' s'=>by
   have z:=z H' t' (s1.trans (sc.trans (sm.trans (s3.trans s'))));have hf:fn=true:=by
    cases fn with
    | true=>rfl|false=>exact absurd ex (kT (by simpa using w5) x)
   cases x with
   | err c fs=>exact λcls q=>⟨hf,z cls q⟩
   | _=>exact z
  refine⟨_,_,_,G,S2.grow s3 t3,RE.both (RE.bind' ef) w9 λy ey u H4 t4 q1=>?_⟩;refine⟨_,by omega,rfl,B,sc.trans (sm.trans (s3.trans q1.1)),t4,q3 ((S2.grow s3 t3).grow q1.1 t4),I,ws++[y],by rw[lA,C5];omega,(RE.bind' ey).mono λrs hr=>by rw[BG];exact hr,?_⟩;rw[A7];refine(q2.grow (sm.trans (s3.trans q1.1))).append ⟨u,[],rfl,?_,rfl⟩;refine(q1.rv (S2.grow s3 t3)).weak λc z=>?_;rcases z with⟨z1,z2⟩|z;refine .inl ⟨⟨z1,λq=>z2 (q.mono λj L=>Bc _ L)⟩,λq=>z2 ?_⟩;obtain⟨j,L,⟨pa,ds,ho⟩,hV⟩:=q;rcases ch0_get (aFH w4 q0 ho) with z|⟨j',i',rfl,hc,hs⟩
  cases z;rw[I _ (Nat.le_add_right _ _)] at hV;refine⟨i',A5 _ (CW.mpr ⟨k+j',L,by rw[CQ];exact hc⟩),⟨pa,ds,(gL hs).1⟩,wN hc hV⟩;exact .inr z
 have w6:i=xs.1.length:=by omega
 subst w6;rw[HK] at W;have hq:Wn X RT Y old Z ZV H Q (dW k caps xs.2 (ws++[])):=W;rw[C9] at hq;refine .inl ⟨q6.2.1 (Al _),by exact iV (by omega),λp hp t'=>hq _ _ t' ?_⟩;have q7:=S.grow (s1.trans sc) tc;have q8:(ws.map (lv k caps xs.2)).map (·.d)=ws.map (·.d):=by rw[A4];rfl
 have rr:Reps X.K Hc (exV RT Y old Z ZV (dP ws) (xs.2++(bY ws).filterMap λj=>caps[j-k]?)) (ws.map (·.d)) ys:=by rw[<-q8];refine q2.reps λv hv=>?_;obtain⟨w,hw,e⟩:=A0.mp hv;subst e;refine⟨λz=>yR hw z,λj L=>?_⟩;rcases B8.mp L with z|z;exact Bc _ z;obtain⟨j',w7,e⟩:=CW.mp z;exact A5 _ (CW.mpr ⟨j',pH hw j' w7,e⟩)
 unfold dW;split;rename_i hn;exact(Ro.fresh hp t' rfl rfl q7 (Reps.free _ _ hn rr)).from (s1.trans sc)
 exact(Ro.fresh hp t' rfl rfl q7 rr).from (s1.trans sc)
theorem aLj(M:Mc X P Γ n){k:Nat}{caps:List Nat}{t:T}{it:Hp.It}{cond:Es}{elt:E}{e B:AE}{U:List AE}{scope:DA}{N':List Str}(CS:dS X scope k caps N')(q1:caps.Nodup)(hk:∀i∈tIx t,i<k)(q0:(Γ.fn||jK elt)=true)
 (hi:PI X tg B (wI X P n RT Y old Z it))
 (W:∀C s₀ H₀ ex,PG (cX X scope N' C s₀ H₀ ex) tg (gT X.K t)/\(∀RT Y old G,PTs (cX X scope N' C s₀ H₀ ex) U (aFK X.K P n RT Y old G cond))/\∀pl E W0,Di (Ay X.prog X.w) X.A (cX X scope N' C s₀ H₀ ex).env E->Rs ((cX X scope N' C s₀ H₀ ex).inTry pl E) W0->∀RT Y old G,PE ((cX X scope N' C s₀ H₀ ex).inTry pl E) e (wE0 X.K P n W0 RT Y old G elt))
 (hs:∀x,Cg B X.env x=pure x):PE X (.ListComp e [⟨tg,B,U,0⟩] scope pos) (WE X P n RT Y old Z (.comp k caps t it cond elt)):=by refine(aCh CS M.calm hi (λC s₀ H₀ ex=>?_) (λc Z H z=>⟨M.stk z.1,z.2⟩) hs).imp λZV H Q t0 L=>aFM q1 hk q0 L;obtain⟨h1,h2,h3⟩:=W C s₀ H₀ ex;exact⟨h1,λpins s ZV H Q I ⟨RT,Y,old,G,L⟩=>h2 RT Y old G pins s ZV H Q I L,λpl E W0 own rs pins s ZV H Q I ⟨RT,Y,old,G,L⟩=>h3 pl E W0 own rs RT Y old G pins s ZV H Q I L⟩
end
def aLk(lo c:Int)(m:Nat):L2.It:=⟨λi _=>i<m,λi H x H'=>H'=H/\x=.int (lo+i*c),λi _=>m<=i⟩
theorem zQ{Pr:AB}{w:AV}{K:Ai}(it:Addr)(lo c:Int)(m:Nat):vR Pr w K tg (aLk lo c m) [it] it (λi h=>FX h it (lo+(i:Nat)*c) ((m:Int)-(i:Nat)) c) where
 mem:=Av.mpr rfl
 obj:=λi h st b hb=>by cases Av.mp hb;exact⟨_,st,λv z=>by cases(z)⟩
 keep:=λi h h' st k=>k it (Av.mpr rfl) _ st
 item:=by intro X U hw L W i pins s Z H E I G st hg;subst U hw L;obtain⟨f0,f1,_,f3,f4,f5⟩:=G it (Av.mpr rfl);refine(JQ (I.ok.hd W) it lo c m).item i s _ _ hg st λv h' tk hv B kk=>?_;obtain⟨t,rfl⟩:=hv;exact⟨_,rfl,pC B rfl rfl (by decide) ⟨.int (lo+i*c),H,I.turned (λb o hb e=>kk b o (λz=>hb (Av.mp z)) e) f0 f1 f3 f4 f5,⟨t,rfl⟩,⟨rfl,rfl⟩,B,λb hb=>(G b hb).1⟩⟩
 done:=by intro X U hw L W i pins s Z H E I G st hg;subst U hw L;obtain⟨f0,f1,_,f3,f4,f5⟩:=G it (Av.mpr rfl);exact F0 (I.ok.hd W) st (by have q:m<=i:=hg;omega) λh' eb=>⟨rfl,I.turned (λb o hb e=>eb b o hb e) f0 f1 f3 f4 f5⟩
 self:=λ_ _ _ _ _ st h=>F1 st h
theorem aJD:BM a (-1) (-1)=((a+1).toNat:Nat):=by unfold BM;split <;> simp <;> omega
theorem aLl(G:-(2 ^ 62)<=a)(B:a<2 ^ 62):Gx a (-1) (-1)=true:=by
 have h1:BM a (-1) (-1)<=2 ^ 63-1/\0<=BM a (-1) (-1):=by rw[aJD];omega
 unfold Gx;simp only[Ir,bA,B9,AA,beq_iff_eq,if_neg (show ¬ ((-1:Int)>0) by decide)];omega
theorem aLm{K:Fg}{ZV:L2.St}{H:Hp}{a:Int}:zL K RT Y old Z ZV H (aLk a (-1) (a+1).toNat) ((pF a).map Vl.cl) [] where
 sub:=λv B j I=>by obtain⟨d,_,e⟩:=A0.mp B;subst e;exact I
 nofr:=λv B=>by obtain⟨d,_,e⟩:=A0.mp B;subst e;rfl
 ok:=λR L i H1 kp=>by
  have U:((pF a).map Vl.cl).length=(a+1).toNat:=by unfold pF;rw[lM,lM,Bm]
  refine⟨λhi=>(show i<_ by omega),λhi=>(show _<=i by omega),λy H' G v B=>?_⟩;obtain⟨e,G⟩:=G;subst e G;unfold pF at B;rw[A4,A3] at B;have hi:i<(a+1).toNat:=by
   cases q:(Ap (a+1).toNat)[i]? with
   | none=>rw[q] at B;cases B|some z=>simpa using (Ax.mp q).1
  rw[D9 hi] at B;cases B;exact⟨aW.refl _,id,congrArg V.int (by show a+(i:Int)*-1=a-(i:Int);omega)⟩
theorem aJE(h:aAO e=true):∃x p,e=.UnaryOp .USub x p/\∃c k q,x=.Constant c k q/\eqC (.int 1) c=true:=by obtain⟨⟨o,x⟩,⟨p,rfl⟩,g⟩:=aJ h;rw[bA] at g;obtain⟨g1,g2⟩:=g;cases eq_of_beq g1;obtain⟨c,⟨k,q,e⟩,h⟩:=aJ g2;exact⟨x,p,rfl,c,k,q,e,h⟩
theorem aNS(M:Mc X P Γ n)(hf:f=("range" : Str))(hg:cQ Γ f=true)(ha:PE X ea (WE X P n RT Y old Z a))(hp:bH ea=true)(W:aAO y=true)(hz:aAO z=true):PI X tg (.Call (.Name f p) [ea,y,z] [] pos) (wI X P n RT Y old Z (.dwn a)):=by
 subst hf;obtain⟨x1,p1,rfl,c1,k1,q1,rfl,W⟩:=aJE W;obtain⟨x2,p2,rfl,c2,k2,q2,rfl,hz⟩:=aJE hz;intro pins s ZV H RR I ⟨S,h⟩;obtain⟨x,ex,h⟩:=RE.calmEq (RE.bind' (h));split at h;rename_i i L;obtain⟨c,h⟩:=h.iff;have c:=eK c;refine K2 (eI I (M.gl hg) (M.md.blt _ (by decide +kernel)) Ix (Ba (thn ((iE ha (iE (aFe (s_c W)) (iE (aFe (s_c hz)) uH rfl) rfl) hp) pos pins s ZV H (λvs H'=>vs=[.int i,.int (-1),.int (-1)]/\Tk X.K H'/\aW H H') I ⟨S,?_⟩) λus s1 ⟨vs,H1,G,r1,L,t1,sm⟩=>?_) (by rw[aB hp]) rfl));show RE _ (ev P (call P n) Z a >>= λx=>evs P (call P n) Z (.k (.neg (.c (.int 1))) (.k (.neg (.c (.int 1))) .z)) >>= λxs=>R.ok (x::xs)) _;rw[ ex];intro us H1 t1 s1 r1;obtain⟨u,r',eu,ru,u2,r2,U,q3,u3,r3,B,q4,hr⟩:=r1;rw[show r3=[] from hr] at B;subst B U eu;exact⟨by rw[ru.int L,q3.int rfl,q4.int rfl],t1,s1⟩;subst L;cases r1 with
 | cons r rr=>cases rr with|cons r' rr=>cases rr with|cons q0 rr=>cases rr;obtain⟨t,rfl⟩:=r;obtain⟨t',rfl⟩:=r';obtain⟨q5,rfl⟩:=q0;refine call_range_3 (by omega) ?_ (.inl (F2 (by omega)));refine G9 (JR ..) (aLl c.1 c.2) ?_;refine⟨_,[_],_,aLk i (-1) (i+1).toNat,H1,rfl,(G.kept λb o e=>Ab _ e).kept λb o e=>Ab _ e,zQ _ i (-1) _,?_,λb hb=>?_,?_⟩;show FX _ _ (i+((0:Nat):Int)*(-1)) ((((i+1).toNat:Nat):Int)-((0:Nat):Int)) (-1);rw[show i+((0:Nat):Int)*(-1)=i by simp,show(((i+1).toNat:Nat):Int)-((0:Nat):Int)=BM i (-1) (-1) by rw[aJD];simp];exact Ak _ rfl;cases Av.mp hb;exact(G.kept λb o e=>Ab _ e).fpOk (Al _) ((G.kept λb o e=>Ab _ e).hok.fresh (Al _));exact(h) _ H1 G.tk sm aLm
 exact h.elim
end Hp
noncomputable section
set_option maxHeartbeats 8000000
namespace Hp
open PySem PySem.Spec PyProof.Rows L2
theorem zR{X:Cx}{Γ:Ct}(M:Mc X P Γ n)(scope:DA):(J9 scope X.env).names=uA Γ.sc scope.names:=by
 unfold J9 uA;simp only;refine B1 λp hp=>?_;obtain⟨m,k⟩:=p;have B:(X.env.scope.kind==Kv)=true:=by rw[M.fk];rfl
 have G:X.env.kindOf m=Γ.sc.lookup m:=by unfold Env.kindOf;rw[M.sc]
 simp only[B,G,Fe]
abbrev chN(Γ:Ct)(tg:AE)(caps:List Nat):List Str:=iC tg++caps.filterMap λi=>Γ.N[i]?
abbrev aBe(Γ:Ct)(tg:AE)(caps:List Nat)(scope:DA):Ct:={ Γ with N:=chN Γ tg caps,sc:=uA Γ.sc scope.names,fn:=false }
structure aFN (Γ:Ct) (tg:AE) (caps:List Nat) (scope:DA) (k:Nat) (t:T) (elt:E):Prop where
 len:(iC tg).length=k
 lt:∀i∈caps,i<Γ.N.length
 ndc:caps.Nodup
 kind:scope.kind=.function
 nd:(chN Γ tg caps).Nodup
 cap:∀x∈caps.filterMap (λi=>Γ.N[i]?),scope.names.lookup x=some .free/\Γ.sc.lookup x=some .cell
 all:∀p∈scope.names,p.2≠.cell/\(p.2=.local->scope.names.lookup p.1=some .local)/\(p.2=.free->Γ.sc.lookup p.1=some .cell)
 tk:∀i∈tIx t,i<k
 cm:(Γ.fn||jK elt)=true
theorem wP{N:List Str}:∀{caps:List Nat},(∀i∈caps,i<N.length)->∀{j i:Nat},caps[j]? = some i->(caps.filterMap λi=>N[i]?)[j]? = N[i]?/\(caps.filterMap λi=>N[i]?).length=caps.length
 | [],_,_,_,h=>by simp at h|c::cs,hl,j,i,h=>by
  have B:N[c]? = some N[c]! := by have:=hl c Ar;simp[this]
  rw[Fi B];have len:(cs.filterMap λi=>N[i]?).length=cs.length:=by
   cases cs with
   | nil=>rfl|cons I G=>exact(wP (λi hi=>hl i (Aj _ hi)) (j:=0) rfl).2
  refine⟨?_,by rw[lC,lC,len]⟩;cases j with
  | zero=>
   have e:c=i:=by simpa using h
   subst e;rw[gZ,B]
  | succ j=>exact(wP (λi hi=>hl i (Aj _ hi)) (by simpa using h)).1
theorem aLn{N:List Str}{caps:List Nat}(h:∀i∈caps,i<N.length):(caps.filterMap λi=>N[i]?).length=caps.length:=by
 cases caps with
 | nil=>rfl|cons c cs=>exact(wP h (j:=0) rfl).2
theorem aFN.scope{X:Cx}{Γ:Ct}{tg:AE}{caps:List Nat}{scope:DA}{k:Nat}{t:T}{elt:E}(O:aFN Γ tg caps scope k t elt)(M:Mc X P Γ n):dS X scope k caps (chN Γ tg caps) where
 kind:=O.kind
 nocell:=λy G=>(O.all y G).1
 loc:=λy G e=>(O.all y G).2.1 e
 free:=λm hm=>.inl (by
  have:=(O.all _ hm).2.2 rfl;show X.env.scope.names.lookup m=_;rw[M.sc];exact this)
 len:=by rw[lA,O.len,aLn O.lt]
 cap:=λj i e=>by have hi:=O.lt i (mG e);have B:=(wP O.lt e).1;rw[(Ae hi)] at B;obtain⟨h1,h2⟩:=O.cap _ (mG B);refine⟨Γ.N[i],?_,by rw[M.N];exact(Ae hi),h1,?_⟩;show(iC tg++_)[k+j]? = _;rw[AD (by rw[O.len];omega),O.len,CQ];exact B;show X.env.scope.names.lookup _=_;rw[M.sc];exact h2
 ndp:=M.nd
theorem aFN.mc{X:Cx}{Γ:Ct}{tg:AE}{caps:List Nat}{scope:DA}{k:Nat}{t:T}{elt:E}(O:aFN Γ tg caps scope k t elt)(M:Mc X P Γ n)(C:Addr)(s₀:Ad)(H₀:Hp)(ex:List Addr) :
 Mc (cX X scope (chN Γ tg caps) C s₀ H₀ ex) P (aBe Γ tg caps scope) n where
 md:=⟨M.md.fn,M.md.blt,M.md.cns,M.md.tab,M.md.exc,M.md.rsd,M.md.pls,M.md.cls⟩
 N:=rfl
 nd:=O.nd
 sc:=zR M scope
 calm:=M.calm
 room:=M.room
 own:=KG
 st:=λx h=>.inr (by
  show(J9 scope X.env).names.lookup x=_;rw[zR M scope];unfold yQ at h;split at h;rename_i e;exact e;cases h;cases h)
 fk:=O.kind
 stk:=λz=>nomatch z
theorem zS:chkI Γ tt (.rng a b) e=oS (lJ e) λp=>(p.1==("range" : Str))&&cQ Γ p.1&&(match p.2 with
 | [x]=>aAN a&&bG Γ b x|[x,y]=>bG Γ a x&&bG Γ b y|_=>false):=rfl
theorem zT:chkI Γ tt (.zip a b) e=oS (lJ e) λp=>(match p.2 with
 | [x,y]=>tt&&(p.1==("zip" : Str))&&cQ Γ p.1&&bG Γ a x&&bG Γ b y|_=>false):=rfl
theorem uQ:chkI Γ tt (.enum a) e=oS (lJ e) λp=>(match p.2 with
 | [x]=>tt&&(p.1==("enumerate" : Str))&&cQ Γ p.1&&bG Γ a x|_=>false):=rfl
theorem zU:chkI Γ tt (.dwn a) e=oS (lJ e) λp=>(p.1==("range" : Str))&&cQ Γ p.1&&(match p.2 with
 | [x,y,z]=>bG Γ a x&&aAO y&&aAO z|_=>false):=rfl
theorem mE(h:chkI Γ tt it e=true):bH e=true:=by
 cases it with
 | seq c=>exact aS (by exact h)|rng a b=>rw[zS] at h;obtain⟨_,⟨_,_,rfl⟩,_⟩:=aJ h;rfl|zip a b=>rw[zT] at h;obtain⟨_,⟨_,_,rfl⟩,_⟩:=aJ h;rfl|enum a=>rw[uQ] at h;obtain⟨_,⟨_,_,rfl⟩,_⟩:=aJ h;rfl|dwn a=>rw[zU] at h;obtain⟨_,⟨_,_,rfl⟩,_⟩:=aJ h;rfl
theorem aIv{RT Y old:Addr->Prop}(h:tst P (call P n) Z c=.bad):PT X e (WT X P n RT Y old Z c):=λpins s ZV H Q I ⟨S,B⟩=>by rw[h] at B;exact B.elim
theorem gW(h:(a&&b&&c)=true):a=true/\b=true/\c=true:=by cases a <;> cases b <;> cases c <;> first|exact⟨rfl,rfl,rfl⟩|cases h
theorem eO(h:(a&&b)=true):a=true/\b=true:=by cases a <;> cases b <;> first|exact⟨rfl,rfl⟩|cases h
theorem aFO(h:(a&&b&&c&&d)=true):a=true/\b=true/\c=true/\d=true:=by obtain⟨h1,h2,B⟩:=gW h;obtain⟨h1,G⟩:=eO h1;exact⟨h1,G,h2,B⟩
theorem aBf(h:(a&&b&&c&&d&&e)=true):a=true/\b=true/\c=true/\d=true/\e=true:=by obtain⟨h1,h2,B,G⟩:=aFO h;obtain⟨h1,I⟩:=eO h1;exact⟨h1,I,h2,B,G⟩
theorem aCn{Γ:Ct}{k:Nat}{caps:List Nat}{t:T}{it:Hp.It}{cond:Es}{elt:E}{e:AE}(h:bG Γ (.comp k caps t it cond elt) e=true) :
 ∃I tg B G scope pos,e=.ListComp I [⟨tg,B,G,0⟩] scope pos/\aFN Γ tg caps scope k t elt/\G.length<=1/\tO (aBe Γ tg caps scope) t tg=true/\chkI Γ (qZ tg) it B=true/\chkEs (aBe Γ tg caps scope) cond G=true/\bG (aBe Γ tg caps scope) elt I=true:=by
 obtain⟨⟨I,gens,scope⟩,h1,g⟩:=aJ h;clear h;obtain⟨pos,rfl⟩:=h1;have h:=g;clear g;rcases gens with _|⟨⟨tg,B,G,as⟩,_|⟨_,_⟩⟩
 cases h;have h:(as==0&&(iC tg).length==k&&(caps.all λi=>decide (i<Γ.N.length))&&decide caps.Nodup&&scope.kind==.function&&decide (iC tg++caps.filterMap λi=>Γ.N[i]?).Nodup &&
  ((caps.filterMap λi=>Γ.N[i]?).all λx=>scope.names.lookup x==some .free&&Γ.sc.lookup x==some .cell) &&
  (scope.names.all λp=>p.2 != .cell&&(p.2 != .local||scope.names.lookup p.1==some .local)&&(p.2 != .free||Γ.sc.lookup p.1==some .cell)) &&
  ((tIx t).all λi=>decide (i<k))&&decide (G.length<=1)&&(Γ.fn||jK elt) &&
  tO (aBe Γ tg caps scope) t tg&&chkI Γ (qZ tg) it B&&chkEs (aBe Γ tg caps scope) cond G&&bG (aBe Γ tg caps scope) elt I)=true:=by exact h
 simp only[bA,beq_iff_eq,AO,AA,B9,bne_iff_ne,ne_eq] at h;obtain⟨⟨⟨⟨⟨⟨⟨⟨⟨⟨⟨⟨⟨⟨h0,h1⟩,h2⟩,h3⟩,h4⟩,h5⟩,h6⟩,h7⟩,h8⟩,h9⟩,q4⟩,L⟩,U⟩,W⟩,q0⟩:=h;subst h0;refine⟨I,tg,B,G,scope,pos,rfl,⟨h1,h2,h3,h4,h5,h6,λp hp=>?_,h8,by simpa using q4⟩,h9,L,U,W,q0⟩;obtain⟨⟨q1,q2⟩,q3⟩:=h7 p hp;exact⟨q1,λe=>q2.resolve_left λz=>z e,λe=>q3.resolve_left λz=>z e⟩;cases h
abbrev PEc(P:Pg)(n:Nat)(c:E):Prop:=∀{X:Cx} {Γ:Ct},Mc X P Γ n->∀{e:AE},bG Γ c e=true->∀(RT Y old:Addr->Prop) (Z:Sg),PE X e (WE X P n RT Y old Z c)
abbrev PTc(P:Pg)(n:Nat)(c:E):Prop:=∀{X:Cx} {Γ:Ct},Mc X P Γ n->∀{e:AE},bG Γ c e=true->∀(RT Y old:Addr->Prop) (Z:Sg),PT X e (WT X P n RT Y old Z c)
abbrev PWc(P:Pg)(n:Nat)(c:E):Prop:=∀{X:Cx} {Γ:Ct},Mc X P Γ n->∀{o:BoolOp} {xs:List AE} {pos:Ht},bG Γ c (.BoolOp o xs pos)=true->∀(RT Y old:Addr->Prop) (Z:Sg),PW X (.BoolOp o xs pos) (WT X P n RT Y old Z c)
structure Q3 (P:Pg) (n:Nat) (c:E):Prop where
 e:PEc P n c
 t:PTc P n c
 w:PWc P n c
structure QA (P:Pg) (n:Nat) (cs:Es):Prop where
 a:∀{X:Cx} {Γ:Ct},Mc X P Γ n->∀{es:List AE},chkEs Γ cs es=true->∀(RT Y old:Addr->Prop) (Z:Sg),PA X es (WA X P n RT Y old Z cs)
 o:∀{X:Cx} {Γ:Ct},Mc X P Γ n->∀{e:Option AE},chkO Γ cs e=true->∀(RT Y old:Addr->Prop) (Z:Sg),PO X e (wO X P n RT Y old Z cs)
 ts:∀{X:Cx} {Γ:Ct},Mc X P Γ n->∀{es:List AE},es.length<=1->chkEs Γ cs es=true->∀(RT Y old:Addr->Prop) (Z:Sg),PTs X es (wTs X P n RT Y old Z cs)
abbrev QI(P:Pg)(n:Nat)(it:Hp.It):Prop:=∀{X:Cx} {Γ:Ct},Mc X P Γ n->∀{tg e:AE},chkI Γ (qZ tg) it e=true->∀(RT Y old:Addr->Prop) (Z:Sg),PI X tg e (wI X P n RT Y old Z it)
theorem Q3.of(h:PEc P n c)(hd:∀Z,tst P (call P n) Z c=.bad)(B:∀{Γ:Ct} {o:BoolOp} {xs:List AE} {pos:Ht},bG Γ c (.BoolOp o xs pos)=false):Q3 P n c:=
 ⟨h,λ{X Γ} M {e} z RT Y old Z=>aIv (hd Z),λ{X Γ} M {o xs pos} z RT Y old Z=>absurd (B.symm.trans z) bN⟩
theorem n_c:Q3 P n (.c d):=by
 have G:∀{Γ:Ct} {e:AE},bG Γ (.c d) e=true->(∃c k p,e=.Constant c k p/\eqC d c=true)\/∃x p,e=.Name x p/\cQ Γ x=true/\cF x=true/\∃d',Γ.cns.lookup x=some d'/\eqK d d'=true:=λ{Γ e} h=>by rcases(B9 _ _).mp (h) with h|h;obtain⟨c,h1,g⟩:=aJ h;clear h;obtain⟨k,p,rfl⟩:=h1;have h:=g;clear g;exact .inl ⟨c,k,p,rfl,h⟩;obtain⟨x,h1,g⟩:=aJ h;clear h;obtain⟨p,rfl⟩:=h1;have h:=g;clear g;obtain⟨h1,h2,B⟩:=gW h;obtain⟨d',U,W⟩:=aFd B;exact .inr ⟨x,p,rfl,h1,h2,d',U,W⟩
 have k:PEc P n (.c d):=λ{X Γ} M {e} h RT Y old Z=>by
  rcases G h with⟨c,j,p,rfl,g⟩|⟨x,p,rfl,h1,h2,d',q,B⟩
  exact s_c g;have e:=aKN B;subst e;obtain⟨u,v,m,r,L⟩:=M.md.cns x d q;exact(pU (M.gl h1) m r (aX h2)).imp λZV H Q t ⟨S,I⟩ t'=>((I) v H t' (Ro.val (aW.refl H) (L H)))
 refine⟨k,λ{X Γ} M {e} h RT Y old Z=>?_,λ{X Γ} M {o xs pos} h RT Y old Z=>absurd h bN⟩;refine rL (k M h RT Y old Z) ?_ λw p hp=>hp;rcases G h with⟨c,j,p,rfl,h⟩|⟨x,p,rfl,_⟩ <;> (intro _;rfl)
theorem n_v:Q3 P n (.v i):=by
 have k:PEc P n (.v i):=λ{X Γ} M {e} h RT Y old Z=>by obtain⟨x,h1,g⟩:=aJ h;clear h;obtain⟨p,rfl⟩:=h1;have h:=g;clear g;obtain⟨h1,h2,B⟩:=gW h;exact s_v (by rw[M.N];exact eq_of_beq h1) (M.vis h2) (aX B) (kQ B)
 refine⟨k,λ{X Γ} M {e} h RT Y old Z=>?_,λ{X Γ} M {o xs pos} h RT Y old Z=>absurd h bN⟩;refine rL (k M h RT Y old Z) ?_ λw p hp=>RE.bind' (hp);obtain⟨x,⟨p,rfl⟩,_⟩:=aJ h;intro _;rfl
theorem aQt(G:Q3 P n a)(hb:Q3 P n b):Q3 P n (.op o a b):=Q3.of (λ{X Γ} M {e} h RT Y old Z=>by
 obtain⟨⟨l,o',r⟩,h1,g⟩:=aJ h;clear h;obtain⟨p,rfl⟩:=h1;have h:=g;clear g;obtain⟨h1,h2,B⟩:=gW h;have e:=eq_of_beq h1;subst e;exact aQo (G.e M h2 RT Y old Z) (hb.e M B RT Y old Z)) (λ_=>rfl) rfl
theorem aNT(B:Q3 P n a):Q3 P n (.neg a):=Q3.of (λ{X Γ} M {e} h RT Y old Z=>by
 obtain⟨⟨o,x⟩,h1,g⟩:=aJ h;clear h;obtain⟨p,rfl⟩:=h1;have h:=g;clear g;obtain⟨h1,h2⟩:=eO h;have e:=eq_of_beq h1;subst e;exact aFe (B.e M h2 RT Y old Z)) (λ_=>rfl) rfl
theorem aQu(G:Q3 P n a):Q3 P n (.nt a):=by
 have B:∀{Γ:Ct} {e:AE},bG Γ (.nt a) e=true->∃x p,e=.UnaryOp .Not x p/\bG Γ a x=true:=λ{Γ e} h=>by obtain⟨⟨o,x⟩,h1,g⟩:=aJ h;clear h;obtain⟨p,rfl⟩:=h1;have h:=g;clear g;obtain⟨h1,h2⟩:=eO h;have e:=eq_of_beq h1;subst e;exact⟨x,p,rfl,h2⟩
 refine⟨λ{X Γ} M {e} h RT Y old Z=>?_,λ{X Γ} M {e} h RT Y old Z=>?_,λ{X Γ} M {o xs pos} h RT Y old Z=>absurd h bN⟩;obtain⟨x,p,rfl,g⟩:=B h;exact aNy (G.e M g RT Y old Z);obtain⟨x,p,rfl,g⟩:=B h;exact cU (G.t M g RT Y old Z)
theorem aCo(h:(match xs with
 | [x,y]=>bG Γ a x&&bG Γ b y|x::y::z::r=>bG Γ a x&&bG Γ b (.BoolOp w (y::z::r) p)|_=>false)=true):∃x y r,xs=x::y::r/\bG Γ a x=true/\((r=[]/\bG Γ b y=true)\/bG Γ b (.BoolOp w (y::r) p)=true):=by
 rcases xs with _|⟨x,_|⟨y,_|⟨z,r⟩⟩⟩
 cases h;cases h;obtain⟨h1,h2⟩:=eO h;exact⟨x,y,[],rfl,h1,.inl ⟨rfl,h2⟩⟩;obtain⟨h1,h2⟩:=eO h;exact⟨x,y,z::r,rfl,h1,.inr h2⟩
theorem aQv(B:Q3 P n a)(hb:Q3 P n b):Q3 P n (.an a b):=by
 have G:PWc P n (.an a b):=λ{X Γ} M {o xs pos} h RT Y old Z=>by obtain⟨h1,h2⟩:=eO h;have e:=eq_of_beq h1;subst e;obtain⟨x,y,r,rfl,g1,g2⟩:=aCo h2;rcases g2 with⟨rfl,g2⟩|g2;exact aNH (B.t M g1 RT Y old Z) (aHs (hb.t M g2 RT Y old Z));exact aNH (B.t M g1 RT Y old Z) (hb.w M g2 RT Y old Z)
 refine⟨λ{X Γ} M {e} h RT Y old Z=>?_,λ{X Γ} M {e} h RT Y old Z=>?_,G⟩;obtain⟨⟨o,xs,pos⟩,h1,g⟩:=aJ h;clear h;obtain rfl:=h1;have h:=g;clear g;obtain⟨h1,h2⟩:=eO h;have e:=eq_of_beq h1;subst e;obtain⟨x,y,r,e,g1,g2⟩:=aCo h2;subst e;rcases g2 with⟨rfl,g2⟩|g2;exact aNz (B.e M g1 RT Y old Z) (aEm (hb.e M g2 RT Y old Z));exact aNz (B.e M g1 RT Y old Z) (hb.e M g2 RT Y old Z);obtain⟨⟨o,xs,pos⟩,rfl,_⟩:=aJ h;exact(G M h RT Y old Z).pt
theorem aNU(B:Q3 P n a)(hb:Q3 P n b):Q3 P n (.orr a b):=by
 have G:PWc P n (.orr a b):=λ{X Γ} M {o xs pos} h RT Y old Z=>by obtain⟨h1,h2⟩:=eO h;have e:=eq_of_beq h1;subst e;obtain⟨x,y,r,rfl,g1,g2⟩:=aCo h2;rcases g2 with⟨rfl,g2⟩|g2;exact aJz (B.t M g1 RT Y old Z) (aJU (hb.t M g2 RT Y old Z));exact aJz (B.t M g1 RT Y old Z) (hb.w M g2 RT Y old Z)
 refine⟨λ{X Γ} M {e} h RT Y old Z=>?_,λ{X Γ} M {e} h RT Y old Z=>?_,G⟩;obtain⟨⟨o,xs,pos⟩,h1,g⟩:=aJ h;clear h;obtain rfl:=h1;have h:=g;clear g;obtain⟨h1,h2⟩:=eO h;have e:=eq_of_beq h1;subst e;obtain⟨x,y,r,e,g1,g2⟩:=aCo h2;subst e;rcases g2 with⟨rfl,g2⟩|g2;exact aJy (B.e M g1 RT Y old Z) (aEm (hb.e M g2 RT Y old Z));exact aJy (B.e M g1 RT Y old Z) (hb.e M g2 RT Y old Z);obtain⟨⟨o,xs,pos⟩,rfl,_⟩:=aJ h;exact(G M h RT Y old Z).pt
theorem aNV(I:Q3 P n t)(G:Q3 P n a)(hb:Q3 P n b):Q3 P n (.ife t a b):=Q3.of (λ{X Γ} M {e} h RT Y old Z=>by
 obtain⟨⟨t',L,U⟩,h1,g⟩:=aJ h;clear h;obtain⟨p,rfl⟩:=h1;have h:=g;clear g;obtain⟨h1,h2,B⟩:=gW h;exact aNA (I.t M h1 RT Y old Z) (G.e M h2 RT Y old Z) (hb.e M B RT Y old Z)) (λ_=>rfl) rfl
theorem aNW(I:Q3 P n a)(hb:Q3 P n b):Q3 P n (.cmp o a b):=by
 have G:∀{Γ:Ct} {e:AE},bG Γ (.cmp o a b) e=true->∃l r p,e=.Compare l [o] [r] p/\bG Γ a l=true/\bG Γ b r=true:=λ{Γ e} h=>by
  obtain⟨⟨l,os,L⟩,h1,g⟩:=aJ h;clear h;obtain⟨p,rfl⟩:=h1;have h:=g;clear g;rcases os with _|⟨o',_|⟨_,_⟩⟩
  cases h;rcases L with _|⟨r,_|⟨_,_⟩⟩
  cases h;obtain⟨h1,h2,B⟩:=gW h;have e:=eq_of_beq h1;subst e;exact⟨l,r,p,rfl,h2,B⟩;cases h;cases h
 refine⟨λ{X Γ} M {e} h RT Y old Z=>?_,λ{X Γ} M {e} h RT Y old Z=>?_,λ{X Γ} M {o xs pos} h RT Y old Z=>absurd h bN⟩;obtain⟨l,r,p,rfl,h2,B⟩:=G h;exact aNB M (I.e M h2 RT Y old Z) (hb.e M B RT Y old Z) (aS B);obtain⟨l,r,p,rfl,h2,B⟩:=G h;exact bM M (I.e M h2 RT Y old Z) (hb.e M B RT Y old Z) (aS B)
theorem aLo(U:Q3 P n a)(hb:Q3 P n b)(W:Q3 P n c):Q3 P n (.cmp2 o1 o2 a b c):=by
 have L:∀{Γ:Ct} {e:AE},bG Γ (.cmp2 o1 o2 a b c) e=true->∃l m r p,e=.Compare l [o1,o2] [m,r] p/\bG Γ a l=true/\bG Γ b m=true/\bG Γ c r=true:=λ{Γ e} h=>by
  obtain⟨⟨l,os,rs⟩,h1,g⟩:=aJ h;clear h;obtain⟨p,rfl⟩:=h1;have h:=g;clear g;rcases os with _|⟨q0,_|⟨q1,_|⟨_,_⟩⟩⟩
  cases h;cases h;rcases rs with _|⟨m,_|⟨r,_|⟨_,_⟩⟩⟩
  cases h;cases h;obtain⟨h1,h2,G,I,B⟩:=aBf h;have e:=eq_of_beq h1;subst e;have e:=eq_of_beq h2;subst e;exact⟨l,m,r,p,rfl,G,I,B⟩;cases h;cases h
 refine⟨λ{X Γ} M {e} h RT Y old Z=>?_,λ{X Γ} M {e} h RT Y old Z=>?_,λ{X Γ} M {o xs pos} h RT Y old Z=>absurd h bN⟩;obtain⟨l,m,r,p,rfl,G,I,B⟩:=L h;exact aKQ M (U.e M G RT Y old Z) (hb.e M I RT Y old Z) (W.e M B RT Y old Z) (aS B);obtain⟨l,m,r,p,rfl,G,I,B⟩:=L h;exact aKR M (U.e M G RT Y old Z) (hb.e M I RT Y old Z) (W.e M B RT Y old Z) (aS B)
theorem aNX(B:Q3 P n a)(hb:Q3 P n b):Q3 P n (.idx a b):=by
 have k:PEc P n (.idx a b):=λ{X Γ} M {e} h RT Y old Z=>by obtain⟨⟨x,i⟩,h1,g⟩:=aJ h;clear h;obtain⟨p,rfl⟩:=h1;have h:=g;clear g;obtain⟨h1,h2⟩:=eO h;exact aNC (B.e M h1 RT Y old Z) (hb.e M h2 RT Y old Z) (aS h2)
 refine⟨k,λ{X Γ} M {e} h RT Y old Z=>?_,λ{X Γ} M {o xs pos} h RT Y old Z=>absurd h bN⟩;refine rL (k M h RT Y old Z) ?_ λw p hp=>?_;obtain⟨⟨x,i⟩,⟨p,rfl⟩,_⟩:=aJ h;intro _;rfl;have hp:=RE.bind' (hp);show RE _ (ev P (call P n) Z a >>= λx=>ev P (call P n) Z b >>= λy=>eA x y) _;rw[RE.bind];refine hp.mono λx hx=>?_;rw[RE.bind];exact(RE.bind' hx).mono λy G=>RE.bind' G
theorem aNY{a:E}{lo hi:Es}(L:Q3 P n a)(W:QA P n lo)(U:QA P n hi):Q3 P n (.sli a lo hi):=Q3.of (λ{X Γ} M {e} h RT Y old Z=>by
 obtain⟨⟨x,i⟩,h1,g⟩:=aJ h;clear h;obtain⟨p,rfl⟩:=h1;have h:=g;clear g;obtain⟨⟨l,u⟩,h1,g⟩:=aJ h;clear h;obtain⟨p2,B⟩:=h1;have h:=g;clear g;subst B;obtain⟨h1,h2,G⟩:=gW h;obtain⟨h1,I⟩:=eO h1;exact aNK (L.e M h1 RT Y old Z) (W.o M h2 RT Y old Z) (U.o M G RT Y old Z) I) (λ_=>rfl) rfl
theorem aNZ(B:QA P n es):Q3 P n (.tup es):=Q3.of (λ{X Γ} M {e} h RT Y old Z=>by
 obtain⟨xs,h1,g⟩:=aJ h;clear h;obtain⟨k,p,rfl⟩:=h1;have h:=g;clear g;obtain⟨h1,h2⟩:=eO h;exact aND (B.a M h2 RT Y old Z) h2 (of_decide_eq_true h1)) (λ_=>rfl) rfl
theorem aOa(B:QA P n es):Q3 P n (.lst es):=Q3.of (λ{X Γ} M {e} h RT Y old Z=>by
 obtain⟨xs,h1,g⟩:=aJ h;clear h;obtain⟨p,rfl⟩:=h1;have h:=g;clear g;obtain⟨h1,h2⟩:=eO h;exact aNE (B.a M h2 RT Y old Z) h2 (of_decide_eq_true h1)) (λ_=>rfl) rfl
theorem aLp(I:QA P n es):Q3 P n (.call f es):=by
 have k:PEc P n (.call f es):=λ{X Γ} M {e} h RT Y old Z=>by obtain⟨⟨x,xs⟩,h1,g⟩:=aJ h;clear h;obtain⟨U,W,rfl⟩:=h1;have h:=g;clear g;obtain⟨h1,h2,G,B⟩:=aFO h;exact aKO M (eq_of_beq h1) h2 G (I.a M B RT Y old Z) (jX B) B
 refine⟨k,λ{X Γ} M {e} h RT Y old Z=>?_,λ{X Γ} M {o xs pos} h RT Y old Z=>absurd h bN⟩;refine rL (k M h RT Y old Z) ?_ λw p hp=>?_;obtain⟨⟨x,xs⟩,⟨U,W,rfl⟩,_⟩:=aJ h;intro _;rfl;have hp:=RE.bind' (hp);show RE _ (evs P (call P n) Z es >>= λvs=>call P n f (vs.map (·.d)) >>= λr=>R.ok (iU vs r)) _;rw[RE.bind];refine hp.mono λx hx=>?_;rw[RE.bind];exact(RE.bind' hx).mono λy L=>L
theorem aOb:Q3 P n (.plc i c):=Q3.of (λ{X Γ} M {e} h RT Y old Z=>by
 obtain⟨⟨y,f⟩,⟨np,p,rfl⟩,g⟩:=aJ h;obtain⟨h1,h2,B⟩:=gW g;have e:=eq_of_beq h1;subst e;exact aNF M h2 (FU.mp B)) (λ_=>rfl) rfl
theorem aQw(U:QA P n es):Q3 P n (.bi b es):=by
 have k:PEc P n (.bi b es):=λ{X Γ} M {e} h RT Y old Z=>by
  obtain⟨⟨x,xs⟩,h1,g⟩:=aJ h;clear h;obtain⟨W,p2,rfl⟩:=h1;have h:=g;clear g;obtain⟨h,B⟩:=eO h;obtain⟨h1,h2,G,I,L⟩:=aBf h;cases xs with
  | nil=>cases L|cons y ys=>exact aQp M h1 (eq_of_beq h2) G I (U.a M B RT Y old Z) (jX B)
 refine⟨k,λ{X Γ} M {e} h RT Y old Z=>?_,λ{X Γ} M {o xs pos} h RT Y old Z=>absurd h bN⟩;refine rL (k M h RT Y old Z) ?_ λw p hp=>?_;obtain⟨⟨x,xs⟩,⟨W,p2,rfl⟩,_⟩:=aJ h;intro _;rfl;have hp:=RE.bind' (hp);show RE _ (evs P (call P n) Z es >>= λvs=>biD b vs) _;rw[RE.bind];exact hp.mono λx hx=>RE.bind' hx
theorem aOc(W:Q3 P n a):Q3 P n (.isi a cs):=by
 have k:PEc P n (.isi a cs):=λ{X Γ} M {e} h RT Y old Z=>by
  obtain⟨⟨f,xs⟩,h1,g⟩:=aJ h;clear h;obtain⟨p1,p2,rfl⟩:=h1;have h:=g;clear g;rcases cs with _|⟨c,_|⟨_,_⟩⟩
  cases h;rcases xs with _|⟨x,_|⟨y,_|⟨_,_⟩⟩⟩
  cases h;cases h;obtain⟨h1,h2,U,L,B⟩:=aBf h;unfold aJu at B;split at B;rename_i z p3;obtain⟨q1,q2,q3⟩:=gW B;have G:∃I,yV c=some I:=by cases c <;> first|exact⟨_,rfl⟩|cases U
  obtain⟨I,G⟩:=G;exact aNG M (eq_of_beq h1) h2 G (eq_of_beq q1) q2 q3 (W.e M L RT Y old Z) (aS L);cases B;cases h;cases h
 refine⟨k,λ{X Γ} M {e} h RT Y old Z=>?_,λ{X Γ} M {o xs pos} h RT Y old Z=>absurd h bN⟩;refine rL (k M h RT Y old Z) ?_ λw p hp=>?_;obtain⟨⟨x,xs⟩,⟨p1,p2,rfl⟩,_⟩:=aJ h;intro _;rfl;have hp:=RE.bind' (hp);show RE _ (ev P (call P n) Z a >>= λx=>(match isI cs P x.d with|some k=>R.ok (Vl.cl (.bl k))|none=>.bad)) _;rw[RE.bind];refine hp.mono λx hx=>?_;cases q:isI cs P x.d with
 | none=>rw[q] at hx;exact hx.elim|some k=>rw[q] at hx;exact hx
theorem aOd(U:Q3 P n a):Q3 P n (.isx a cs):=by
 have k:PEc P n (.isx a cs):=λ{X Γ} M {e} h RT Y old Z=>by
  obtain⟨⟨f,xs⟩,h1,g⟩:=aJ h;clear h;obtain⟨p1,p2,rfl⟩:=h1;have h:=g;clear g;rcases xs with _|⟨x,_|⟨y,_|⟨_,_⟩⟩⟩
  cases h;cases h;obtain⟨h1,h2,G,B⟩:=aFO h;unfold aNm at B;split at B;rename_i es tk tp;obtain⟨W,L⟩:=eO B;obtain⟨vs,i1,i2,i3⟩:=aFl M W;refine aFk M (eq_of_beq h1) h2 (U.e M G RT Y old Z) (aS G) (aEA i1) rfl λZV H Q I=>?_;have L:es.length<=1000:=by simpa using L
  exact⟨by rw[i3,Du];omega,λp hp=>I _ _ (aW.new hp) (.inr ⟨p,vs,rfl,SqT.of bE,i2⟩)⟩;rename_i z zp;split at B;obtain⟨W,L⟩:=eO B;have e:=eq_of_beq W;subst e;exact aFk M (eq_of_beq h1) h2 (U.e M G RT Y old Z) (aS G) (aHr (v:=.ty "ValueError") (M.gl L) (M.md.blt _ (by decide +kernel)) (by kernel_rfl) rfl (by decide +kernel) (by decide +kernel)) rfl λZV H Q I=>I _ H (aW.refl H) (.inl ⟨_,rfl,rfl⟩);obtain⟨x',p,e1,e2,g1,g2,g3⟩:=zD B;cases e2;subst e1;obtain⟨C2,q,_⟩:=M.md.cls _ g3;exact aFk M (eq_of_beq h1) h2 (U.e M G RT Y old Z) (aS G) (pU (v:=.ref C2) (M.gl g1) q rfl (aX g2)) rfl λZV H Q I=>I _ H (aW.refl H) (.inl ⟨_,rfl,g3,C2,q,rfl⟩);cases B;cases B;cases h
 refine⟨k,λ{X Γ} M {e} h RT Y old Z=>?_,λ{X Γ} M {o xs pos} h RT Y old Z=>absurd h bN⟩;refine rL (k M h RT Y old Z) ?_ λw p hp=>?_;obtain⟨⟨x,xs⟩,⟨p1,p2,rfl⟩,_⟩:=aJ h;intro _;rfl;have hp:=RE.bind' (hp);show RE _ (ev P (call P n) Z a >>= λx=>(match isX cs P x.d with|some k=>R.ok (Vl.cl (.bl k))|none=>.bad)) _;rw[RE.bind];refine hp.mono λx hx=>?_;cases q:isX cs P x.d with
 | none=>rw[q] at hx;exact hx.elim|some k=>rw[q] at hx;exact hx
theorem aLq{k:Nat}{caps:List Nat}{t:T}{it:Hp.It}{cond:Es}{elt:E}(hi:QI P n it)(hc:QA P n cond)(he:Q3 P n elt):Q3 P n (.comp k caps t it cond elt):=Q3.of (λ{X Γ} M {e} h RT Y old Z=>by
 obtain⟨el,tg,L,q0,scope,pos,rfl,O,h1,h2,I,U,W⟩:=aCn h;refine aLj M (O.scope M) O.ndc O.tk O.cm (hi M I RT Y old Z) (λC s₀ H₀ ex=>?_) (oJ (mE I));have B:=O.mc M C s₀ H₀ ex;exact⟨aIu B h2,λRT Y old G=>aCm (hc.ts B h1 U RT Y old G),λpl E W0 own rs RT Y old G=>aFL rs (he.e (B.inTry own) W RT Y old G)⟩) (λ_=>rfl) rfl
theorem aLr(ha:Q3 P n a):Q3 P n (.tget i a):=Q3.of (λ{X Γ} M {e} h RT Y old Z=>by
 obtain⟨⟨o,m,xs,l⟩,h1,g⟩:=aJ h;clear h;obtain⟨ap,cp,rfl,G⟩:=h1;have h:=g;clear g;obtain⟨x,h1,g⟩:=aJ h;clear h;obtain⟨p,I⟩:=h1;have h:=g;clear g;subst I;obtain⟨h,B⟩:=eO h;obtain⟨h1,h2,L,U,W⟩:=aBf h;rw[show l=true from W] at G;rcases xs with _|⟨y,_|⟨_,_⟩⟩
 cases B;exact aKP M (eq_of_beq h1) (eq_of_beq h2) L U G (ha.e M B RT Y old Z) (aS B);cases B) (λ_=>rfl) rfl
theorem aFP(U:Q3 P n a):Q3 P n (.numset a):=Q3.of (λ{X Γ} M {e} h RT Y old Z=>by
 obtain⟨⟨f,xs⟩,h1,g⟩:=aJ h;clear h;obtain⟨p1,p2,rfl⟩:=h1;have h:=g;clear g;rcases xs with _|⟨s,_|⟨_,_⟩⟩
 cases h;obtain⟨⟨g,W⟩,h1,g⟩:=aJ h;clear h;obtain⟨p3,p4,G⟩:=h1;have h:=g;clear g;subst G;obtain⟨h1,h2,I,L,B⟩:=aBf h;rcases W with _|⟨x,_|⟨_,_⟩⟩
 cases B;exact aFq M (eq_of_beq h1) h2 (eq_of_beq I) L (U.e M B RT Y old Z) (aS B);cases B;cases h) (λ_=>rfl) rfl
theorem aOe:QA P n .z:=by
 refine⟨λ{X Γ} M {es} h RT Y old Z=>?_,λ{X Γ} M {e} h RT Y old Z=>?_,λ{X Γ} M {es} B h RT Y old Z=>?_⟩;cases es with
 | nil=>exact uH|cons _ _=>exact nf h
 cases e with
 | none=>exact aNI|some _=>exact nf h
 cases es with
 | nil=>exact aLh|cons _ _=>exact nf h
theorem aLs(B:Q3 P n c)(hs:QA P n cs):QA P n (.k c cs):=by
 refine⟨λ{X Γ} M {es} h RT Y old Z=>?_,λ{X Γ} M {e} h RT Y old Z=>?_,λ{X Γ} M {es} G h RT Y old Z=>?_⟩;cases es with
 | nil=>exact nf h|cons e es=>obtain⟨h1,h2⟩:=eO h;exact iE (B.e M h1 RT Y old Z) (hs.a M h2 RT Y old Z) (aS h1)
 cases cs with
 | z=>cases e with|none=>exact nf h|some e=>exact aNJ (B.e M (by exact h) RT Y old Z)
 | k _ _=>cases e <;> exact nf h
 cases es with
 | nil=>exact nf h|cons e es=>
  obtain⟨h1,h2⟩:=eO h;cases es with
  | nil=>cases cs with|z=>exact aLi (B.t M h1 RT Y old Z)|k _ _=>exact absurd h2 bN
  | cons _ _=>simp at G
theorem aOf(B:Q3 P n c):QI P n (.seq c):=λ{X Γ} M {tg e} h RT Y old Z=>aNQ (B.e M (by exact h) RT Y old Z)
theorem aOg(L:Q3 P n a)(hb:Q3 P n b):QI P n (.rng a b):=λ{X Γ} M {tg e} h RT Y old Z=>by
 rw[zS] at h;obtain⟨⟨f,xs⟩,h1,g⟩:=aJ h;clear h;obtain⟨U,W,rfl⟩:=h1;have h:=g;clear g;obtain⟨h1,h2,B⟩:=gW h;rcases xs with _|⟨x,_|⟨y,_|⟨_,_⟩⟩⟩
 cases B;obtain⟨B,G⟩:=eO B;have I:a=.c (.int 0):=by unfold aAN at B;split at B;rw[eq_of_beq B];cases B
 rw[I];exact aLe M (eq_of_beq h1) h2 (hb.e M G RT Y old Z) (aS G);obtain⟨B,G⟩:=eO B;exact aLf M (eq_of_beq h1) h2 (L.e M B RT Y old Z) (hb.e M G RT Y old Z) (aS B) (aS G);cases B
theorem aOh(L:Q3 P n a):QI P n (.dwn a):=λ{X Γ} M {tg e} h RT Y old Z=>by
 rw[zU] at h;obtain⟨⟨f,xs⟩,h1,g⟩:=aJ h;clear h;obtain⟨U,W,rfl⟩:=h1;have h:=g;clear g;obtain⟨h1,h2,B⟩:=gW h;rcases xs with _|⟨x,_|⟨y,_|⟨z,_|⟨_,_⟩⟩⟩⟩
 cases B;cases B;cases B;obtain⟨B,G,I⟩:=gW B;exact aNS M (eq_of_beq h1) h2 (L.e M B RT Y old Z) (aS B) G I;cases B
theorem aOi(L:Q3 P n a)(hb:Q3 P n b):QI P n (.zip a b):=λ{X Γ} M {tg e} h RT Y old Z=>by
 rw[zT] at h;obtain⟨⟨f,xs⟩,h1,g⟩:=aJ h;clear h;obtain⟨U,W,rfl⟩:=h1;have h:=g;clear g;rcases xs with _|⟨x,_|⟨y,_|⟨_,_⟩⟩⟩
 cases h;cases h;obtain⟨B,h1,h2,G,I⟩:=aBf h;unfold qZ at B;split at B;exact aNR M (eq_of_beq h1) h2 (L.e M G RT Y old Z) (hb.e M I RT Y old Z) (aS G) (aS I);cases B;cases h
theorem aLt(I:Q3 P n a):QI P n (.enum a):=λ{X Γ} M {tg e} h RT Y old Z=>by
 rw[uQ] at h;obtain⟨⟨f,xs⟩,h1,g⟩:=aJ h;clear h;obtain⟨L,U,rfl⟩:=h1;have h:=g;clear g;rcases xs with _|⟨x,_|⟨_,_⟩⟩
 cases h;obtain⟨B,h1,h2,G⟩:=aFO h;unfold qZ at B;split at B;exact aLg M (eq_of_beq h1) h2 (I.e M G RT Y old Z) (aS G);cases B;cases h
theorem aLu(U:Q3 P n a):Q3 P n (.sset a):=Q3.of (λ{X Γ} M {e} h RT Y old Z=>by
 obtain⟨⟨f,xs⟩,h1,g⟩:=aJ h;clear h;obtain⟨p1,p2,rfl⟩:=h1;have h:=g;clear g;rcases xs with _|⟨s,_|⟨_,_⟩⟩
 cases h;obtain⟨⟨g,W⟩,h1,g⟩:=aJ h;clear h;obtain⟨p3,p4,G⟩:=h1;have h:=g;clear g;subst G;obtain⟨h1,h2,I,L,B⟩:=aBf h;rcases W with _|⟨x,_|⟨_,_⟩⟩
 cases B;exact aKY M (eq_of_beq h1) h2 (eq_of_beq I) L (U.e M B RT Y old Z) (aS B);cases B;cases h) (λ_=>rfl) rfl
mutual
theorem qE:(c:E)->Q3 P n c
 | .c _=>n_c|.v _=>n_v|.op _ a b=>aQt (qE a) (qE b)|.neg a=>aNT (qE a)|.nt a=>aQu (qE a)|.an a b=>aQv (qE a) (qE b)|.orr a b=>aNU (qE a) (qE b)|.ife t a b=>aNV (qE t) (qE a) (qE b)|.cmp _ a b=>aNW (qE a) (qE b)|.cmp2 _ _ a b c=>aLo (qE a) (qE b) (qE c)|.idx a b=>aNX (qE a) (qE b)|.sli a lo hi=>aNY (qE a) (qA lo) (qA hi)|.tup es=>aNZ (qA es)|.lst es=>aOa (qA es)|.call _ es=>aLp (qA es)|.bi _ es=>aQw (qA es)|.isi a _=>aOc (qE a)|.isx a _=>aOd (qE a)|.comp _ _ _ it cond elt=>aLq (qI it) (qA cond) (qE elt)|.numset a=>aFP (qE a)|.tget _ a=>aLr (qE a)|.sset a=>aLu (qE a)|.plc _ _=>aOb
theorem qA:(cs:Es)->QA P n cs
 | .z=>aOe|.k c cs=>aLs (qE c) (qA cs)
theorem qI:(it:Hp.It)->QI P n it
 | .seq c=>aOf (qE c)|.rng a b=>aOg (qE a) (qE b)|.zip a b=>aOi (qE a) (qE b)|.enum a=>aLt (qE a)|.dwn a=>aOh (qE a)
end
theorem sE(c:E):PEc P n c:=(qE c).e
theorem sT(c:E):PTc P n c:=(qE c).t
theorem sTs(cs:Es):∀{X:Cx} {Γ:Ct},Mc X P Γ n->∀{es:List AE},es.length<=1->chkEs Γ cs es=true->∀(RT Y old:Addr->Prop) (Z:Sg),PTs X es (wTs X P n RT Y old Z cs):=(qA cs).ts
theorem sI(it:Hp.It):QI P n it:=qI it
end Hp
end
noncomputable section
set_option maxHeartbeats 4000000
namespace Hp
open PySem PySem.Spec PyProof.Rows L2
def eB(K:Fg)(RT Y old:Addr->Prop)(H:Hp)(Z':Sg)(Q:L2.St->Hp->Prop):Prop:=
 ∀(RT':Addr->Prop) (ZV':L2.St) (H':Hp),Kp RT H H'->(∀b,RT' b->RT b\/H b=none)->Sx K RT' Y old Z' ZV' H'->Q ZV' H'
def Rtv(K:Fg)(Y old:Addr->Prop)(H':Hp)(v:Vl)(u:V):Prop:=
 if v.fr=true then ∃a xs ds,u=.ref a/\v.d=.lst ds/\¬ old a/\H' a=some (.lst xs)/\Reps K H' (λb=>b=a\/exB Y old v.pa b) ds xs
 else Rep K H' (exB Y old v.pa) v.d u
def aJF(K:Fg)(RT Y old:Addr->Prop)(H:Hp)(v:Vl)(Q:VK):Prop:=∀(u:V) (H':Hp),Kp RT H H'->Tk K H'->Rtv K Y old H' v u->Q u H'
def OE(K:Fg)(w:L2.St->Hp->D->Prop)(RT Y old:Addr->Prop)(H:Hp)(o:O)(D:Ends):Prop:=match o with|.next Z'=>eB K RT Y old H Z' D.nx|.brk Z'=>eB K RT Y old H Z' D.bk|.cnt Z'=>eB K RT Y old H Z' D.ct|.ret v=>aJF K RT Y old H v D.rt|.exc x Z'=>eB K RT Y old H Z' λZV H=>w ZV H x|.bad=>False
def wS(X:Cx)(RT Y old:Addr->Prop)(Z:Sg)(o:O):TS:=λD ZV H=>Sx X.K RT Y old Z ZV H/\OE X.K (XW X) RT Y old H o D
section
variable {K:Fg} {w w':L2.St->Hp->D->Prop} {RT RT' RT'' Y old:Addr->Prop} {Z:Sg} {ZV:L2.St} {H H1 H2:Hp} {o:O} {D D':Ends}
theorem Kp.chain(a:Kp RT H H1)(s:∀b,RT' b->RT b\/H b=none)(b:Kp RT' H1 H2):Kp RT H H2:=λc o e n=>b c o (a c o e n) λz=>(s c z).elim n λq=>by rw[q] at e;cases e
theorem gC(a:Kp RT H H1)(s1:∀b,RT' b->RT b\/H b=none)(s2:∀b,RT'' b->RT' b\/H1 b=none):∀b,RT'' b->RT b\/H b=none:=λb z=>by
 rcases s2 b z with q|q;exact s1 b q;by_cases B:RT b;exact .inl B;refine .inr ?_;cases e:H b with
 | none=>rfl|some o=>rw[a b o e B] at q;cases q
theorem eB.mono{Q:L2.St->Hp->Prop}(a:Kp RT H H1)(s:∀b,RT' b->RT b\/H b=none)(h:eB K RT Y old H Z' Q):eB K RT' Y old H1 Z' Q:=λB G H2 k n S=>h B G H2 (a.chain s k) (gC a s n) S
theorem OE.mono(a:Kp RT H H1)(s:∀b,RT' b->RT b\/H b=none)(h:OE K w RT Y old H o D):OE K w RT' Y old H1 o D:=by
 cases o with
 | next Z'=>exact eB.mono a s h|brk Z'=>exact eB.mono a s h|cnt Z'=>exact eB.mono a s h|ret v=>exact λu H2 k t r=>(h) u H2 (a.chain s k) t r|exc x Z'=>exact eB.mono a s h|bad=>exact h
theorem bC:∀b,RT b->RT b\/H b=none:=λ_ z=>.inl z
def tkE(K:Fg)(D:Ends):Ends:=⟨λZ H=>Tk K H->D.nx Z H,λv H=>Tk K H->D.rt v H,λZ H=>Tk K H->D.bk Z H,λZ H=>Tk K H->D.ct Z H⟩
theorem OE.from{X:Cx}{α:Type}{x:R α}{f:α->O}(S:Sx X.K RT Y old Z ZV H)(h:OE X.K (XW X) RT Y old H (O.from Z x f) D):RE (wx X ZV H) x λa=>OE X.K (XW X) RT Y old H (f a) D:=by
 cases x with
 | ok a=>exact h|exc e=>exact λH' t s=>(h) RT ZV H' (Kp.same s) bC (S.grow s t)|bad=>exact h
theorem OE.fromc{α:Type}{x:R α}{f:α->O}(h:OE K w RT Y old H (O.from Z x f) D)(n:∀z,x≠.exc z):∃a,x=.ok a/\OE K w RT Y old H (f a) D:=by
 cases x with
 | ok a=>exact⟨a,rfl,h⟩|exc e=>exact absurd rfl (n e)|bad=>exact h.elim
theorem eB.imp{Q G:L2.St->Hp->Prop}(h:eB K RT Y old H Z' Q)(f:∀ZV H,Q ZV H->G ZV H):eB K RT Y old H Z' G:=λRT' B H' k n S=>f _ _ (h RT' B H' k n S)
theorem OE.weak(h:OE K w RT Y old H o D)(f:∀ZV H x,w ZV H x->w' ZV H x):OE K w' RT Y old H o D:=by
 cases o with
 | exc x Z'=>exact eB.imp h λZV H z=>f ZV H x z|_=>exact h
theorem aFQ{α:Type}(x:R α):∀z,x.calm≠.exc z:=λz q=>by cases x <;> cases q
theorem uR(Z:Sg)(i:Nat)(k:Option Int):∀z,jT Z i k≠.exc z:=λz q=>by
 unfold jT at q
 repeat' split at q
 all_goals cases q
theorem aIw(e:Option (R Vl))(h:∀x,e=some x->∀z,x≠.exc z):∀z,qX e≠.exc z:=λz q=>by unfold qX at q;split at q;cases q;rename_i x;refine fN (h x rfl) (λv z q=>?_) z q;split at q;exact iZ jA z q;cases q
end
section
variable {X:Cx} {st:Cj} {t t':TS}
theorem aJG{pins:List (Addr×Obj)}{D:Ends}{f:Flow}{B:Ad}(h:SP X pins (tkE X.K D) f B):SP X pins D f B:=by
 cases f with
 | next=>obtain⟨Z',H',I,q⟩:=h;exact⟨Z',H',I,q I.tk⟩|brk=>obtain⟨Z',H',I,q⟩:=h;exact⟨Z',H',I,q I.tk⟩|cont=>obtain⟨Z',H',I,q⟩:=h;exact⟨Z',H',I,q I.tk⟩|ret u=>obtain⟨v,Z',H',I,r,q⟩:=h;exact⟨v,Z',H',I,r,q I.tk⟩
theorem cM(h:PS X st t)(f:∀D ZV H,Tk X.K H->t' D ZV H->t (tkE X.K D) ZV H):PS X st t':=λpins s ZV H D I B=>thn (h pins s ZV H _ I (f D ZV H I.tk B)) λG L q=>aJG q
theorem mY(h:PSs X sts t)(f:∀D ZV H,Tk X.K H->t' D ZV H->t (tkE X.K D) ZV H):PSs X sts t':=λpins s ZV H D I B=>thn (h pins s ZV H _ I (f D ZV H I.tk B)) λG L q=>aJG q
theorem wQ{Y old:Addr->Prop}{f:Sg->O}(h:∀RT Z,PSs X sts (wS X RT Y old Z (f Z))):PSs X sts (λD ZV H=>∃RT Z,wS X RT Y old Z (f Z) D ZV H):=λpins s ZV H D I ⟨RT,Z,B⟩=>h RT Z pins s ZV H D I B
end
section
variable {X:Cx} {P:Pg} {Γ:Ct} {n:Nat} {RT Y old:Addr->Prop} {Z:Sg} {pos:Ht}
theorem eB.tkE{Q:L2.St->Hp->Prop}(h:eB X.K RT Y old H Z' Q):eB X.K RT Y old H Z' λZ H=>Tk X.K H->Q Z H:=λB G H' k n S _=>h B G H' k n S
theorem OE.tkE{o:O}{D:Ends}{H:Hp}(h:OE X.K (XW X) RT Y old H o D):OE X.K (XW X) RT Y old H o (tkE X.K D):=by
 cases o with
 | next Z'=>exact eB.tkE h|brk Z'=>exact eB.tkE h|cnt Z'=>exact eB.tkE h|ret v=>exact λu B k t r _=>(h) u B k t r|exc x Z'=>exact h|bad=>exact h
theorem aOj:PSs X [] (wS X RT Y old Z (exs P (call P n) Z .z)):=mY aHt λD ZV H t ⟨S,h⟩ _=>(h) RT ZV H (Kp.refl RT H) bC S
theorem aLv(h1:∀RT Z,PS X x (wS X RT Y old Z (ex P (call P n) Z s)))(h2:∀RT Z,PSs X xs (wS X RT Y old Z (exs P (call P n) Z ss))) :
 PSs X (x::xs) (wS X RT Y old Z (exs P (call P n) Z (.k s ss))):=by
 refine mY (aEo (h1 RT Z) (wQ h2)) λD ZV H t ⟨S,h⟩=>?_;have h:OE X.K (XW X) RT Y old H ((ex P (call P n) Z s).on λZ'=>exs P (call P n) Z' ss) D:=h;refine⟨S,?_⟩;cases q:ex P (call P n) Z s with
 | next Z'=>rw[q] at h;exact λB I H' k L G=>⟨B,Z',G,(OE.mono k L (h)).tkE⟩
 | brk Z'=>rw[q] at h;exact OE.tkE h|cnt Z'=>rw[q] at h;exact OE.tkE h|ret v=>rw[q] at h;exact OE.tkE h|exc e Z'=>rw[q] at h;exact h|bad=>rw[q] at h;exact h
theorem aLw:PS X (.Pass pos) (wS X RT Y old Z (ex P (call P n) Z .pass)):=cM aHu λD ZV H t ⟨S,h⟩ _=>(h) RT ZV H (Kp.refl RT H) bC S
theorem aOk:PS X (.Break pos) (wS X RT Y old Z (ex P (call P n) Z .brk)):=cM aEp λD ZV H t ⟨S,h⟩ _=>(h) RT ZV H (Kp.refl RT H) bC S
theorem aOl:PS X (.Continue pos) (wS X RT Y old Z (ex P (call P n) Z .cnt)):=cM yB λD ZV H t ⟨S,h⟩ _=>(h) RT ZV H (Kp.refl RT H) bC S
theorem aOm{st:Cj}:PS X st (wS X RT Y old Z (ex P (call P n) Z .off)):=cM aEr λD ZV H t ⟨S,h⟩=>h.elim
theorem aJH(M:Mc X P Γ n)(L:cQ Γ c=true)(U:cF c=true)(I:c∈Γ.rsd)(G:PE X a (WE X P n RT Y old Z e))(hp:bH a=true) :
 PS X (.Raise (some (.Call (.Name c np) [a] [] cp)) none pos) (wS X RT Y old Z (ex P (call P n) Z (.rse c false (.k e .z)))):=by obtain⟨C,bd,ns,ex⟩:=M.md.rsd c I;refine cM (aEW Dy (by decide +kernel) (M.gl L) bd ex (eQ G gG (aB hp)) M.calm (aBZ X) (aX U) (aB hp) (by rw[aB hp];rfl)) λD ZV H t ⟨S,h⟩=>?_;have h:=OE.from S (h);exact wE.one S (RE.bind' h) λx u H1 hx t1 B W=>⟨show 1<=sizeLine by decide,((hx) RT ZV H1 (Kp.same W.1) bC B (.ref C) ⟨C,rfl,ns⟩)⟩
theorem aLx(M:Mc X P Γ n)(hg:cQ Γ c=true)(ho:cF c=true)(hc:c∈Γ.pls)(ha:PE X a (WE X P n RT Y old Z e))(hp:bH a=true) :
 PS X (.Raise (some (.Call (.Name c np) [a] [] cp)) none pos) (wS X RT Y old Z (ex P (call P n) Z (.rse c true (.k e .z)))):=by
 obtain⟨C,fI,qual,st,fd,n1,n2,bd,ns,U,pc,_,F,hi,hb,oI,l1,l2⟩:=M.md.pls c hc;refine cM (aDA (M.gl hg) bd U pc F hi hb ⟨oI,l1,l2⟩ (eQ ha gG (aB hp)) M.calm (aBZ X) (aX ho) (M.room.mono (B7 _)) (aB hp) (by rw[aB hp];rfl)) λD ZV H t ⟨S,h⟩=>?_;have h:=OE.from S (h);refine wE.one S (RE.bind' h) λx u H1 hx t1 L G=>⟨u,rfl,λdp B pins s1 a I W=>?_⟩
 have hx:OE X.K (XW X) RT Y old H (match [x.d] with
  | [.int n]=>.exc (.err c [.int n]) Z|_=>.bad) D:=hx
 cases hd:x.d with
 | int k=>
  rw[hd] at hx;have hu:u=.int k:=by have z:=G.rv S;unfold Rv at z;rw[hd] at z;exact z
  exact hx RT ZV _ (Kp.same (G.1.trans (aW.new B))) bC (L.grow (aW.new B) I.tk) (cdV C dp) ⟨C,dp,rfl,ns,by rw[bE,hu]⟩ pins s1 a I W
 | _=>rw[hd] at hx;exact hx.elim
theorem aCp(h:exB Y old pa b):exV RT Y old Z ZV pa al b:=.inr h
theorem Ro.rtv(S:Sx X.K RT Y old Z ZV H)(I:Ro X.K RT Y old Z ZV H H' v u):Rtv X.K Y old H' v u:=by unfold Rtv;by_cases B:v.fr=true;rw[if_pos B];obtain⟨s,h⟩:=I;rw[if_pos B] at h;obtain⟨a,xs,ds,L,U,G,W,r⟩:=h;exact⟨a,xs,ds,L,U,λz=>S.trk a (.inr (.inr z)) G.1 G.2,W,r.weak λb z=>z.elim .inl λz=>.inr (aCp z)⟩;rw[if_neg B];exact Rep.weak (I.rv S) λb z=>aCp z
theorem aOn(G:PE X e (WE X P n RT Y old Z c)):PS X (.Return (some e) pos) (wS X RT Y old Z (ex P (call P n) Z (.ret c))):=by exact cM (aEq G) λD ZV H t ⟨S,h⟩=>(wE.one S (OE.from S (h)) λx u H1 hx I L B _=>(hx) u H1 (Kp.same B.1) I (B.rtv S))
theorem aLy:PS X (.Return none pos) (wS X RT Y old Z (ex P (call P n) Z .retN)):=cM aHv λD ZV H t ⟨S,h⟩ _=>(h) .non H (Kp.refl RT H) t rfl
theorem aLz(M:Mc X P Γ n)(hx:fD Γ i x=true):PS X (.Return (some (.Name x p)) pos) (wS X RT Y old Z (ex P (call P n) Z (.retv i))):=by
 have G:PE X (.Name x p) (aAB i):=by obtain⟨h1,h2,B⟩:=gW hx;exact nZ (by rw[M.N];exact eq_of_beq h1) (M.vis h2) (aX B) (kQ B)
 refine cM (aEq G) λD ZV H t ⟨S,h⟩=>?_;have h:OE X.K (XW X) RT Y old H (match Z[i]? with|some (.own pa ds)=>.ret ⟨.lst ds,true,pa,[]⟩|_=>O.from Z (cT Z i) .ret) D:=h;unfold cT at h;cases e:Z[i]? with
 | none=>rw[e] at h;exact h.elim|some sl=>
  rw[e] at h;cases sl with
  | x=>exact h.elim|own pa ds=>obtain⟨a,xs,h1,h2,B,I,L⟩:=S.own i pa ds e;refine⟨.ref a,h1,λ_=>(h) _ H (Kp.refl RT H) t ?_⟩;exact⟨a,xs,ds,rfl,rfl,I,h2,L.weak λb z=>z.elim (λz=>.inl (by rw[z];exact B)) .inr⟩|sh pa d=>
   obtain⟨v,h1,h2⟩:=S.sh i pa d e;refine⟨v,h1,λ_=>(h) v H (Kp.refl RT H) t ?_⟩;cases U:noL d with
   | true=>exact Rep.free d v U h2|false=>refine h2.weak λb z=>.inr ?_;rw[EL,Fe] at z;exact z
theorem aQx(G:PE X e (WE X P n RT Y old Z c))(hs:rC e=false):PS X (.Expr e pos) (wS X RT Y old Z (ex P (call P n) Z (.ex c))):=by exact cM (pV G (by cases e <;> first|rfl|cases hs)) λD ZV H t ⟨S,h⟩=>(wE.one S (OE.from S (h)) λx u H1 hx L B I _=>(hx) RT ZV H1 (Kp.same I.1) bC B)
theorem aQy(L:PT X e (WT X P n RT Y old Z c))(I:∀RT Z,PSs X xa (wS X RT Y old Z (exs P (call P n) Z a)))(hb:∀RT Z,PSs X xb (wS X RT Y old Z (exs P (call P n) Z b))) :
 PS X (.If e xa xb pos) (wS X RT Y old Z (ex P (call P n) Z (.iff c a b))):=by
 refine cM (aMM L (I RT Z) (hb RT Z)) λD ZV H t ⟨S,h⟩=>?_;refine⟨S,(OE.from S (h)).mono λk B H1 G s1=>?_⟩;cases k with
 | true=>rw[if_pos rfl] at B ⊢;exact⟨S.grow s1 G,(OE.mono (Kp.same s1) bC B).tkE⟩|false=>rw[if_neg bN] at B ⊢;exact⟨S.grow s1 G,(OE.mono (Kp.same s1) bC B).tkE⟩
theorem wR{v:Vl}{D:Ends}(S:Sx X.K RT Y old Z ZV H)(W:Tk X.K H1)(B:Ro X.K RT Y old Z ZV H H1 v u)(h:OE X.K (XW X) RT Y old H (O.from Z (cR (freeze Z v.al) v t) .next) D):gT X.K t u ZV H1 D.nx:=by
 obtain⟨Z2,e,hp⟩:=OE.fromc h (oP _ _ _);clear h;cases t with
 | n i=>obtain⟨L,S',I⟩:=S.store B W i;rw[rZ e] at hp;exact hp L _ H1 (Kp.same B.1) I S'|t is=>
  obtain⟨ds,hd,hl,e'⟩:=rY e;have G:v.fr=false\/v.fr=true:=by cases v.fr <;> simp
  rcases G with G|G;exact aFI ((S.grow B.1 W).frz v.al) G (B.rv S) e λq0 S2 _=>hp _ _ _ (Kp.same B.1) (λb z=>.inl z.1) S2;have:=B.2;rw[if_pos G] at this;obtain⟨a,xs,ds',_,U,_⟩:=this;rw[hd] at U;cases U
theorem aLA(M:Mc X P Γ n)(hx:cV Γ i x=true)(B:PE X e (WE X P n RT Y old Z c))(hs:rC e=false):PS X (.Assign [.Name x p] e pos) (wS X RT Y old Z (ex P (call P n) Z (.set (.n i) c))):=by obtain⟨h1,h2,W⟩:=gW hx;exact cM (vQ M.nd (by rw[M.N];exact eq_of_beq h1) (M.loc h2) B (by cases e <;> first|rfl|cases hs) (M.st x h2)) λD ZV H t ⟨S,h⟩=>(wE.one S (OE.from S (h)) λv u H1 G L U I=>wR S L I (OE.tkE G))
theorem aLB(M:Mc X P Γ n)(hx:tO Γ (.t is) (.Tuple es k p)=true)(B:PE X e (WE X P n RT Y old Z c))(hs:aAP e=false):PS X (.Assign [.Tuple es k p] e pos) (wS X RT Y old Z (ex P (call P n) Z (.set (.t is) c))):=by exact cM (aEt B (aIu M hx) (by cases e <;> rfl) (by cases e <;> first|rfl|cases hs)) λD ZV H t ⟨S,h⟩=>(wE.one S (OE.from S (h)) λv u H1 G L U I=>wR S L I (OE.tkE G))
theorem aDN{i:Nat}{x:Str}{p L:Ht}(M:Mc X P Γ n)(hx:cV Γ i x=true){k:Nat}{caps:List Nat}{t:T}{it:Hp.It}{cond:Es}{elt:E}{e tg G:AE}{U:List AE}{scope:DA}{N':List Str}(CS:dS X scope k caps N')(q1:caps.Nodup)(hk:∀i∈tIx t,i<k)(q0:(Γ.fn||jK elt)=true)
 (hi:PI X tg G (wI X P n RT Y old Z it))
 (W:∀C s₀ H₀ ex,PG (cX X scope N' C s₀ H₀ ex) tg (gT X.K t)/\(∀RT Y old B,PTs (cX X scope N' C s₀ H₀ ex) U (aFK X.K P n RT Y old B cond))/\∀pl E W0,Di (Ay X.prog X.w) X.A (cX X scope N' C s₀ H₀ ex).env E->Rs ((cX X scope N' C s₀ H₀ ex).inTry pl E) W0->∀RT Y old B,PE ((cX X scope N' C s₀ H₀ ex).inTry pl E) e (wE0 X.K P n W0 RT Y old B elt))
 (hs:∀x,Cg G X.env x=pure x):PS X (.Assign [.Name x p] (.ListComp e [⟨tg,G,U,0⟩] scope L) pos) (wS X RT Y old Z (ex P (call P n) Z (.set (.n i) (.comp k caps t it cond elt)))):=by obtain⟨h1,h2,h3⟩:=gW hx;refine cM (aAU (g:=gT X.K t) (tt:=λZV H Q=>∃RT Y old B,aFK X.K P n RT Y old B cond ZV H Q) (te:=λW0 ZV H Q=>∃RT Y old B,wE0 X.K P n W0 RT Y old B elt ZV H Q) (WX:=λc Z H=>Γ.fn=true/\RX X c Z H) CS M.calm hi (λC s₀ H₀ ex=>?_) (λc Z H z=>⟨M.stk z.1,z.2⟩) hs M.nd (by rw[M.N];exact eq_of_beq h1) (M.loc h2) (M.st x h2)) λD ZV H t0 ⟨S,h⟩=>?_;obtain⟨h1,h2,h3⟩:=W C s₀ H₀ ex;exact⟨h1,λpins s ZV H Q I ⟨RT,Y,old,B,hw⟩=>h2 RT Y old B pins s ZV H Q I hw,λpl E W0 own rs pins s ZV H Q I ⟨RT,Y,old,B,hw⟩=>h3 pl E W0 own rs RT Y old B pins s ZV H Q I hw⟩;have h:=OE.from S (h);exact aFM q1 hk q0 ⟨S,h.mono λv hv u H1 t1 r1=>wR S t1 r1 hv⟩
theorem Sx.mut{K:Fg}{ZV:L2.St}{H:Hp}(S:Sx K RT Y old Z ZV H){i:Nat}{pa pa':Bool}{ds ds':List D}{a:Addr}{B:List V}(e:Z[i]? = some (.own pa ds))(I:ZV[i]? = some (some (.ref a)))(r:Reps K H (λb=>RT b\/exB Y old pa' b) ds' B) :
 Sx K RT Y old (Z.set i (.own pa' ds')) ZV (upd H a (.lst B)):=by
 obtain⟨a',xs,h1,h2,h3,h4,h5⟩:=S.own i pa ds e;rw[I] at h1;cases h1;have U:∀{ex:Addr->Prop},∀b o,H b=some o->(∀W,o=.lst W->¬ (RT b\/ex b))->(∀xs,o≠pG b xs)->upd H a (.lst B) b=some o:=λ{ex} b o q hl _=>by rw[aP λz=>by subst z;rw[h2] at q;cases q;exact hl xs rfl (.inl h3)];exact q
 exact {
  sh:=λj G d q=>by
   rcases set_some q with⟨_,z,_⟩|⟨_,q⟩
   cases z;obtain⟨v,g1,g2⟩:=S.sh j G d q;exact⟨v,g1,g2.keep U⟩
  own:=λj G dd q=>by
   rcases set_some q with⟨rfl,z,_⟩|⟨L,q⟩
   cases z;exact⟨a,B,I,bE,h3,h4,r.keep U⟩;obtain⟨b,W,g1,g2,g3,g4,g5⟩:=S.own j G dd q;have hb:b≠a:=λz=>by subst z;exact L (S.inj i j pa G ds dd b e q I g1)
   exact⟨b,W,g1,by rw[aP hb];exact g2,g3,g4,g5.keep U⟩
  trk:=λb z q=>by by_cases hb:b=a;rw[hb,bE] at q;cases q;rw[aP hb] at q;exact S.trk b z q
  yo:=S.yo
  tk:=λb z=>by by_cases hb:b=a;rw[hb];exact S.tk a (by rw[h2];simp);rw[aP hb] at z;exact S.tk b z
  rt:=λb z=>by by_cases hb:b=a;rw[hb];exact .inl ⟨B,bE⟩;unfold RtO;rw[aP hb];exact S.rt b z
  inj:=λj j' G q3 dd q0 b q1 q2=>by
   have get:∀{j:Nat} {G:Bool} {dd:List D},(Z.set i (.own pa' ds'))[j]? = some (.own G dd)->∃p2 d2,Z[j]? = some (.own p2 d2):=λ{j G dd} q=>by
    rcases set_some q with⟨rfl,_,_⟩|⟨_,q⟩
    exact⟨pa,ds,e⟩;exact⟨G,dd,q⟩
   obtain⟨_,_,z1⟩:=get q1;obtain⟨_,_,z2⟩:=get q2;exact S.inj j j' _ _ _ _ b z1 z2
  len:=by rw[AF];exact S.len }
theorem Kp.upd(s:aW H H1)(h:RT a):Kp RT H (upd H1 a (.lst xs)):=λb o e B=>by rw[aP λz=>B (by rw[z];exact h)];exact s b o e
theorem sA(h:jS Z i=some (pa,ds)):Z[i]? = some (.own pa ds):=by unfold jS at h;split at h;rename_i q;cases h;exact q;cases h
theorem wU{v:Vl}{f:List D->Option (List D)}{D:Ends}(h:OE X.K (XW X) RT Y old H (put Z i v f) D):∃pa ds ds',Z[i]? = some (.own pa ds)/\i∉v.al/\f ds=some ds'/\ds'.length<=lim/\eB X.K RT Y old H ((freeze Z v.al).set i (.own (pa||v.pa) ds')) D.nx:=by unfold put at h;split at h;rename_i pa ds q;have q:=gL (sA q);split at h;rename_i ds' G;split at h;rename_i B;exact⟨pa,ds,ds',q.1,q.2,G,B,h⟩;exact h.elim;exact h.elim;exact h.elim
theorem pY(h:exB Y old (pa||pb) b):exB Y old pa b:=h.imp_right λz=>⟨by cases pa <;> simp_all,z.2⟩
theorem aCq(h:exB Y old (pa||pb) b):exB Y old pb b:=h.imp_right λz=>⟨by cases pb <;> simp_all,z.2⟩
theorem pZ(h:oH Γ i m c=some xs):∃x p B G,c=.Call (.Attribute (.Name x p) m B) xs [] G/\fD Γ i x=true/\(B.endLine==G.line)=true:=by unfold oH at h;split at h;rename_i x p a B W G;split at h;rename_i q;obtain⟨I,L,U⟩:=gW q;cases h;have e:=eq_of_beq I;subst e;exact⟨x,p,B,G,rfl,L,U⟩;cases h;cases h
theorem aBg:lim<sizeLine:=by decide
theorem mZ{i:Nat}{al:List Nat}{pa:Bool}{ds:List D}{ZV:L2.St}{H H1:Hp}{b:Addr}{xs:List V}(S:Sx X.K RT Y old Z ZV H)(s1:aW H H1)(G:Z[i]? = some (.own pa ds))(h1:ZV[i]? = some (some (.ref b)))(h2:H b=some (.lst xs)) :
 Reps X.K H1 (λc=>rtF RT Z ZV al c\/exB Y old pa c) ds xs:=by obtain⟨L,I,g1,g2,g3,U,B⟩:=S.own i pa ds G;rw[h1] at g1;cases g1;rw[h2] at g2;cases g2;exact(B.grow s1).weak λc z=>z.elim (λz=>.inl z.1) .inr
theorem nA{i:Nat}{v:Vl}{pa:Bool}{ds ds':List D}{ZV:L2.St}{H H1:Hp}{b:Addr}{G:List V}{Q:L2.St->Hp->Prop}(S:Sx X.K RT Y old Z ZV H)(s1:aW H H1)(W:Tk X.K H1)(I:Z[i]? = some (.own pa ds))(U:i∉v.al)(h1:ZV[i]? = some (some (.ref b)))
 (r:Reps X.K H1 (λc=>rtF RT Z ZV v.al c\/exB Y old (pa||v.pa) c) ds' G) (B:eB X.K RT Y old H ((freeze Z v.al).set i (.own (pa||v.pa) ds')) Q):Q ZV (upd H1 b (.lst G)):=by
 obtain⟨b',xs,g1,g2,g3,g4,g5⟩:=S.own i pa ds I;rw[h1] at g1;cases g1;have L:(freeze Z v.al)[i]? = some (.own pa ds):=by rw[jB,I];simp[U]
 exact B _ ZV _ (Kp.upd s1 g3) (λc z=>.inl z.1) (((S.grow s1 W).frz v.al).mut L h1 r)
theorem aBh{v:Vl}(h:Rv X.K RT Y old Z ZV H1 v u):Rep X.K H1 (λc=>rtF RT Z ZV v.al c\/exB Y old (pa||v.pa) c) v.d u:=Rep.weak h λc z=>z.imp id aCq
theorem aOo{i:Nat}{c:E}{e a:AE}(M:Mc X P Γ n)(hc:oH Γ i "append" e=some [a])(ha:PE X a (WE X P n RT Y old Z c))(hp:bH a=true):PS X (.Expr e pos) (wS X RT Y old Z (ex P (call P n) Z (.app i c))):=by obtain⟨x,p,ap,cp,rfl,hx,hl⟩:=pZ hc;refine cM (pV (aBQ CT Fj Fk tZ (iY M hx) (eQ ha gG (aB hp)) rfl (by rw[aB hp];rfl) hl (aB hp) rfl)) λD ZV H t ⟨S,h⟩=>?_;have h:=OE.from S (h);obtain⟨v,U,h⟩:=RE.calmEq h;obtain⟨pa,ds,ds',I,q2,q3,q4,B⟩:=wU h;cases q3;obtain⟨b,xs,h1,h2,h3,h4,W⟩:=S.own i pa ds I;refine⟨.ref b,h1,.inl ⟨rfl,xs,SqL.of h2⟩,S,?_⟩;rw[U];intro u H1 t1 G;have L:=W.length;refine⟨b,xs,u,rfl,rfl,G.1 _ _ h2,?_,λ_=>?_⟩;rw[lA] at q4;have:=aBg;omega;exact nA S G.1 t1 I q2 h1 (((mZ S G.1 I h1 h2).weak λc z=>z.imp id pY).append (.cons (aBh (G.rv S)) .nil)) B
theorem aOp{i:Nat}{c:E}{e a:AE}(M:Mc X P Γ n)(hc:oH Γ i "extend" e=some [a])(ha:PE X a (WE X P n RT Y old Z c))(hp:bH a=true):PS X (.Expr e pos) (wS X RT Y old Z (ex P (call P n) Z (.ext i c))):=by
 obtain⟨x,p,ap,cp,rfl,hx,hl⟩:=pZ hc;refine cM (pV (aBQ CT PySem.F.slot_list_extend PySem.F.type_list_extend aDk (iY M hx) (eQ ha gG (aB hp)) rfl (by rw[aB hp];rfl) hl (aB hp) rfl)) λD ZV H t ⟨S,h⟩=>?_;have h:=OE.from S (h);obtain⟨v,ee,h⟩:=RE.calmEq h;unfold yO at h;cases I:v.fr with
 | false=>rw[I] at h;exact h.elim|true=>
  rw[I] at h;cases hd:v.d with
  | lst es=>rw[hd] at h;obtain⟨pa,ds,ds',U,q2,q3,q4,B⟩:=wU h;cases q3;obtain⟨b,xs,h1,h2,h3,h4,h5⟩:=S.own i pa ds U;refine⟨.ref b,h1,.inl ⟨rfl,xs,SqL.of h2⟩,S,?_⟩;rw[ee];intro u H1 t1 G;have hr:=G.2;rw[if_pos I] at hr;obtain⟨a',ys,q5,e1,W,e3,e4,r⟩:=hr;rw[hd] at W;cases W;subst e1;have q0:=h5.length;have L:=r.length;refine⟨b,a',xs,ys,rfl,rfl,G.1 _ _ h2,e4,?_,λ_=>?_⟩;rw[lA] at q4;have:=aBg;omega;exact nA S G.1 t1 U q2 h1 (((mZ S G.1 U h1 h2).weak λc z=>z.imp id pY).append ((fW (r.weak λb z=>.inr z)).weak λc z=>z.imp id aCq)) B|_=>rw[hd] at h;exact h.elim
theorem aIx{i:Nat}{ck c:E}{x:Str}{p p2:Ht}{ix v:AE}(M:Mc X P Γ n)(hx:fD Γ i x=true)(hk:PE X ix (WE X P n RT Y old Z ck))(he:PE X v (WE X P n RT Y old Z c))(q0:bH ix=true):PS X (.Assign [.Subscript (.Name x p) ix p2] v pos) (wS X RT Y old Z (ex P (call P n) Z (.setIx i ck c))):=by
 refine cM (aEt he (aKb (iY M hx) hk aEH (by intro _;cases ix <;> first|rfl|cases q0)) (by cases v <;> rfl) (by cases v <;> rfl)) λD ZV H t ⟨S,h⟩=>?_;have h:=OE.from S (h);refine wE.one S h λv u H1 G t1 S1 U=>?_;obtain⟨kv,ek,G⟩:=RE.calmEq (OE.from S G);cases hd:kv.d with
 | int k=>
  rw[hd] at G;obtain⟨pa,ds,ds',q1,q2,L,q4,B⟩:=wU G;obtain⟨b,xs,h1,h2,h3,h4,h5⟩:=S.own i pa ds q1;cases W:ixN ds.length k with
  | none=>rw[W] at L;cases L|some j=>rw[W] at L;cases L;refine⟨.ref b,h1,S1,?_⟩;rw[ek];intro uk H2 t2 I;refine⟨b,xs,k,j,rfl,(I.rv S1).int hd,I.1 _ _ (U.1 _ _ h2),by rw[<-h5.length,<-rD];exact W,λ_=>?_⟩;refine nA S (U.1.trans I.1) t2 q1 q2 h1 (((mZ S (U.1.trans I.1) q1 h1 h2).weak λc z=>z.imp id pY).set j (aBh ((U.rv S).grow I.1))) B
 | _=>rw[hd] at G;exact G.elim
theorem zV{k:Option Int}(h:jT Z i k=.ok (v,Z')):∃pa ds j d,Z[i]? = some (.own pa ds)/\ixN ds.length (k.getD (-1))=some j/\ds[j]? = some d/\v=Vl.sub ⟨.non,false,pa,[]⟩ d/\Z'=Z.set i (.own pa (ds.eraseIdx j)):=by
 unfold jT at h;cases q:jS Z i with
 | none=>rw[q] at h;cases h|some G=>
  obtain⟨pa,ds⟩:=G;rw[q] at h;cases k with
  | none=>
   have h:(match ixN ds.length (-1) with|some j=>(match ds[j]? with|some d=>R.ok (Vl.sub ⟨.non,false,pa,[]⟩ d,Z.set i (.own pa (ds.eraseIdx j)))|none=>.bad)|none=>.bad)=R.ok (v,Z'):=h;cases B:ixN ds.length (-1) with
   | none=>rw[B] at h;cases h|some j=>
    rw[B] at h;have h:(match ds[j]? with|some d=>R.ok (Vl.sub ⟨.non,false,pa,[]⟩ d,Z.set i (.own pa (ds.eraseIdx j)))|none=>.bad)=R.ok (v,Z'):=h;cases hd:ds[j]? with
    | none=>rw[hd] at h;cases h|some d=>rw[hd] at h;cases h;exact⟨pa,ds,j,d,sA q,B,hd,rfl,rfl⟩
  | some k=>
   have h:(match ixN ds.length k with|some j=>(match ds[j]? with|some d=>R.ok (Vl.sub ⟨.non,false,pa,[]⟩ d,Z.set i (.own pa (ds.eraseIdx j)))|none=>.bad)|none=>.bad)=R.ok (v,Z'):=h;cases B:ixN ds.length k with
   | none=>rw[B] at h;cases h|some j=>
    rw[B] at h;have h:(match ds[j]? with|some d=>R.ok (Vl.sub ⟨.non,false,pa,[]⟩ d,Z.set i (.own pa (ds.eraseIdx j)))|none=>.bad)=R.ok (v,Z'):=h;cases hd:ds[j]? with
    | none=>rw[hd] at h;cases h|some d=>rw[hd] at h;cases h;exact⟨pa,ds,j,d,sA q,B,hd,rfl,rfl⟩
theorem aFR{ds:List D}{ZV:L2.St}{xs:List V}(S:Sx X.K RT Y old Z ZV H)(s1:aW H H1)(t1:Tk X.K H1)(U:Z[i]? = some (.own pa ds))(h1:ZV[i]? = some (some (.ref b)))(h2:H b=some (.lst xs))(hd:ds[j]? = some d) :
 ∃y,xs[j]? = some y/\Kp RT H (upd H1 b (.lst (xs.eraseIdx j)))/\Sx X.K RT Y old (Z.set i (.own pa (ds.eraseIdx j))) ZV (upd H1 b (.lst (xs.eraseIdx j))) /\
  Rep X.K (upd H1 b (.lst (xs.eraseIdx j))) (λa=>RT a\/exB Y old (Vl.sub ⟨.non,false,pa,[]⟩ d).pa a) (Vl.sub ⟨.non,false,pa,[]⟩ d).d y:=by
 have I:=S.grow s1 t1;obtain⟨b',q0,g1,g2,g3,g4,L⟩:=I.own i pa ds U;rw[h1] at g1;cases g1;rw[s1 _ _ h2] at g2;cases g2;obtain⟨y,hy,ry⟩:=L.get hd;refine⟨y,hy,Kp.upd s1 g3,I.mut U h1 (L.eraseIdx j),?_⟩;have B:Rep X.K (upd H1 b (.lst (xs.eraseIdx j))) (λa=>RT a\/exB Y old pa a) d y:=ry.keep λc o e W _=>by rw[aP λz=>by subst z;rw[s1 _ _ h2] at e;cases e;exact W xs rfl (.inl g3)];exact e
 unfold Vl.sub;by_cases G:noL d=true;rw[if_pos G];exact Rep.free d y G B;rw[if_neg G];exact B
def aQz(X:Cx)(P:Pg)(n:Nat)(RT Y old:Addr->Prop)(Z:Sg)(i:Nat)(k:Option E):TE:=λZV H Q=>Sx X.K RT Y old Z ZV H/\RE (λ_=>False) (qX (k.map λe=>(ev P (call P n) Z e).calm)) λk=>RE (λ_=>False) (jT Z i k) λr=>∀u H',Kp RT H H'->Sx X.K RT Y old r.2 ZV H'->Rep X.K H' (λa=>RT a\/exB Y old r.1.pa a) r.1.d u->Q u H'
theorem aLC(h:ixN m k=some j):j<m/\H0 k m=some j:=by rw[rD] at h;obtain⟨h1,h2,_⟩:=vT h;exact⟨h2,h1⟩
theorem aLD(M:Mc X P Γ n)(hc:oH Γ i "pop" e=some [a])(ha:PE X a (WE X P n RT Y old Z c))(hp:bH a=true):PE X e (aQz X P n RT Y old Z i (some c)):=by
 obtain⟨x,p,ap,cp,rfl,hx,hl⟩:=pZ hc;refine(aBQ CT PySem.F.slot_list_pop PySem.F.type_list_pop aEJ (iY M hx) (eQ ha gG (aB hp)) rfl (by rw[aB hp];rfl) hl (aB hp) rfl).imp λZV H Q t ⟨S,h⟩=>?_;have h:=RE.bind' (show RE (λ_=>False) ((ev P (call P n) Z c).calm >>= λv=>(match v.d with|.int k=>R.iff (aT k) (R.ok (some k))|_=>.bad)) _ from h);obtain⟨kv,ek,h⟩:=RE.calmEq h;cases B:kv.d with
 | int k=>rw[B] at h;obtain⟨hs,h⟩:=h.iff;obtain⟨⟨v,Z'⟩,ep,h⟩:=(show RE (λ_=>False) (jT Z i (some k)) _ from h).eqc (uR _ _ _);obtain⟨pa,ds,j,d,I,hj,hd,U,W⟩:=zV ep;obtain⟨b,xs,h1,h2,h3,h4,h5⟩:=S.own i pa ds I;refine⟨.ref b,h1,.inl ⟨rfl,xs,SqL.of h2⟩,S,?_⟩;rw[ek];intro u H1 t1 G;obtain⟨y,hy,kp,L,ry⟩:=aFR S G.1 t1 I h1 h2 hd;have hs:=eK hs;obtain⟨g1,g2⟩:=aLC hj;refine⟨b,xs,k,j,y,rfl,by rw[(G.rv S).int B],G.1 _ _ h2,by omega,by omega,by rw[<-h5.length];exact g2,hy,λ_=>?_⟩;subst U W;exact h y _ kp L ry|_=>rw[B] at h;exact h.elim
theorem aIy{k:Option E}{f:E->R Vl}:∀x,(k.map λe=>(f e).calm)=some x->∀z,x≠.exc z:=λx q=>by
 cases k with
 | none=>cases q|some e=>cases q;exact aFQ _
theorem RE.never{α:Type}{x:R α}{p:α->Prop}{w w':D->Prop}(h:RE w x p)(n:∀z,x≠.exc z):RE w' x p:=by
 cases x with
 | ok a=>exact h|exc e=>exact absurd rfl (n e)|bad=>exact h
theorem Sx.move{K:Fg}{ZV:L2.St}{H:Hp}(S:Sx K RT Y old Z ZV H){i j:Nat}{pa:Bool}{ds:List D}{a:Addr}(e:Z[j]? = some (.own pa ds))(q3:i≠j)(U:ZV[j]? = some (some (.ref a))):Sx K RT Y old ((Z.set j .x).set i (.own pa ds)) (ZV.set i (some (.ref a))) H where
 sh:=λk B d q=>by
  rcases set_some q with⟨_,z,_⟩|⟨G,q⟩
  cases z;rcases set_some q with⟨_,z,_⟩|⟨L,q⟩
  cases z;obtain⟨v,g1,g2⟩:=S.sh k B d q;exact⟨v,by rw[Au G];exact g1,g2⟩
 own:=λk B dd q=>by
  rcases set_some q with⟨rfl,z,I⟩|⟨G,q⟩
  cases z;obtain⟨b,xs,g1,g2,g3⟩:=S.own j pa ds e;rw[U] at g1;cases g1;rw[AF] at I;exact⟨a,xs,AK (by rw[<-S.len];exact I),g2,g3⟩;rcases set_some q with⟨_,z,_⟩|⟨L,q⟩
  cases z;obtain⟨b,xs,g1,g2⟩:=S.own k B dd q;exact⟨b,xs,by rw[Au G];exact g1,g2⟩
 trk:=S.trk
 yo:=S.yo
 tk:=S.tk
 rt:=S.rt
 inj:=λk k' B q4 dd q0 b q1 q2 v1 v2=>by
  have get:∀{k:Nat} {B:Bool} {dd:List D},((Z.set j .x).set i (.own pa ds))[k]? = some (.own B dd)->(ZV.set i (some (.ref a)))[k]? = some (some (.ref b))->(k=i/\b=a)\/(k≠i/\k≠j/\Z[k]? = some (.own B dd)/\ZV[k]? = some (some (.ref b))):=λ{k B dd} q v=>by
   rcases set_some q with⟨rfl,z,I⟩|⟨G,q⟩
   rw[AF] at I;rw[AK (by rw[<-S.len];exact I)] at v;cases v;exact .inl ⟨rfl,rfl⟩;rcases set_some q with⟨_,z,_⟩|⟨L,q⟩
   cases z;rw[Au G] at v;exact .inr ⟨BQ G,BQ L,q,v⟩
  rcases get q1 v1 with⟨e1,b1⟩|⟨G,m1,o1,w1⟩
  rcases get q2 v2 with⟨e2,_⟩|⟨L,m2,W,w2⟩
  rw[e1,e2];subst b1;exact absurd (S.inj k' j _ _ _ _ b W e w2 U) m2;rcases get q2 v2 with⟨e2,b2⟩|⟨L,m2,W,w2⟩
  subst b2;exact absurd (S.inj k j _ _ _ _ b o1 e w1 U) m1;exact S.inj k k' _ _ _ _ b o1 W w1 w2
 len:=by rw[AF,AF,AF];exact S.len
theorem aOq(M:Mc X P Γ n)(hx:cV Γ i x=true)(I:fD Γ j y=true):PS X (.Assign [.Name x p] (.Name y p2) pos) (wS X RT Y old Z (ex P (call P n) Z (.mov i j))):=by
 obtain⟨h1,h2,L⟩:=gW hx;refine cM (vQ M.nd (by rw[M.N];exact eq_of_beq h1) (M.loc h2) (iY M I) rfl (M.st x h2)) λD ZV H t ⟨S,h⟩=>?_;have h:OE X.K (XW X) RT Y old H (match Z[j]? with
  | some (.own pa ds)=>if i=j then .bad else .next ((Z.set j .x).set i (.own pa ds))|some (.sh pa d)=>.next (Z.set i (.sh (pa&&!noL d) d))|_=>.bad) D:=h
 cases e:Z[j]? with
 | none=>rw[e] at h;exact h.elim|some sl=>
  rw[e] at h;cases sl with
  | x=>exact h.elim|own pa ds=>by_cases B:i=j;have h:OE X.K (XW X) RT Y old H (if i=j then .bad else .next ((Z.set j .x).set i (.own pa ds))) D:=h;rw[if_pos B] at h;exact h.elim;have h:OE X.K (XW X) RT Y old H (if i=j then .bad else .next ((Z.set j .x).set i (.own pa ds))) D:=h;rw[if_neg B] at h;obtain⟨a,xs,g1,g2⟩:=S.own j pa ds e;exact⟨.ref a,g1,λ_=>(h) RT _ H (Kp.refl RT H) bC (S.move e B g1)⟩|sh pa d=>
   obtain⟨v,g1,g2⟩:=S.sh j pa d e;refine⟨v,g1,λ_=>(h) RT _ H (Kp.refl RT H) bC (S.setSh ?_)⟩;cases G:noL d with
   | true=>exact Rep.free d v G g2|false=>rw[EL,Fe];exact g2
theorem aOr(M:Mc X P Γ n)(hx:tO Γ t tg=true)(hi:PI X tg iter (wI X P n RT Y old Z it))(hb:∀RT Z,PSs X body (wS X RT Y old Z (exs P (call P n) Z b)))(hs:∀x,Cg iter X.env x=pure x) :
 PS X (.For tg iter body [] pos) (wS X RT Y old Z (ex P (call P n) Z (.for t it b))):=by
 refine cM (aKe M.own M.calm hi (aIu M hx) (wQ hb) hs) λD0 ZV H t0 ⟨S,h⟩=>?_;have h:=OE.tkE h;revert h;generalize tkE X.K D0=D;intro h
 let f:Sg->Vl->O:=λZ x=>O.from Z (cR Z x t) λZ'=>exs P (call P n) Z' b
 refine⟨S,(OE.from S (h)).mono λxs hx J H1 t1 s1 ok=>?_⟩;refine⟨λi m q4 Hc=>m=xs.1.length-i/\i<=xs.1.length/\∃B L,Kp (rtF RT Z ZV xs.2) H1 Hc/\(∀b,B b->rtF RT Z ZV xs.2 b\/H1 b=none)/\Sx X.K B Y old L q4 Hc/\OE X.K (XW X) B Y old Hc (dX f (xs.1.drop i) L) D,
  ⟨_,rfl,B7 _,rtF RT Z ZV xs.2,freeze Z xs.2,Kp.refl _ _,bC,((S.grow s1 t1).frz xs.2),OE.mono (Kp.same s1) (λb z=>.inl z.1) hx⟩,?_⟩
 rintro i m q4 Hc ⟨hm,hi,B,L,kp,q3,Sc,G⟩;have q5:=ok.ok (rtF RT Z ZV xs.2) (λ_ z=>z) i Hc kp;by_cases q0:i<xs.1.length;refine .inr ⟨q5.1 q0,λZ' H'=>xs.1.length-(i+1)=xs.1.length-(i+1)/\i+1<=xs.1.length/\∃B L,Kp (rtF RT Z ZV xs.2) H1 H'/\(∀b,B b->rtF RT Z ZV xs.2 b\/H1 b=none)/\Sx X.K B Y old L Z' H'/\OE X.K (XW X) B Y old H' (dX f (xs.1.drop (i+1)) L) D,
  λZ' H' hN=>⟨_,by omega,hN⟩,λx H' hy=>?_⟩
 obtain⟨sm,q7,rv⟩:=q5.2.2 x H' hy xs.1[i] (Ae q0);rw[D5 q0] at G;have rep:Rep X.K H' (λa=>B a\/exB Y old xs.1[i].pa a) xs.1[i].d x:=rv.weak λa z=>by rcases z with z|z;rcases q3 a z with q|q;exact .inl (.inl ⟨q.1,λw=>q.2 (w.mono (ok.sub _ (AI q0)))⟩);exact .inr ⟨q,Sc.tk a (Sc.rt a z).ne⟩;exact .inl (.inr z)
 have G:OE X.K (XW X) B Y old Hc (match f L xs.1[i] with
  | .next Z'=>dX f (xs.1.drop (i+1)) Z'|.cnt Z'=>dX f (xs.1.drop (i+1)) Z'|.brk Z'=>.next Z'|o=>o) D:=G
 cases U:cR L xs.1[i] t with
 | exc e=>exact absurd U (oP _ _ _ _)|bad=>rw[show f L xs.1[i]=.bad by show O.from L (cR L xs.1[i] t) _=_;rw[U];rfl] at G;exact G.elim|ok Z2=>
  rw[show f L xs.1[i]=exs P (call P n) Z2 b by show O.from L (cR L xs.1[i] t) _=_;rw[U];rfl] at G;refine aFI (Sc.grow sm (q7 Sc.tk)) (ok.nofr _ (AI q0)) rep U λq8 S2 _=>⟨B,Z2,S2,?_⟩
  have kS:Kp B Hc H':=Kp.same sm;have q2:∀{Z':Sg} {W:Addr->Prop} {q1:L2.St} {I:Hp},Kp B H' I->(∀b,W b->B b\/H' b=none)->Sx X.K W Y old Z' q1 I->OE X.K (XW X) B Y old Hc (dX f (xs.1.drop (i+1)) Z') D ->
   (xs.1.length-(i+1)=xs.1.length-(i+1)/\i+1<=xs.1.length/\∃B L,Kp (rtF RT Z ZV xs.2) H1 I/\(∀b,B b->rtF RT Z ZV xs.2 b\/H1 b=none)/\Sx X.K B Y old L q1 I/\OE X.K (XW X) B Y old I (dX f (xs.1.drop (i+1)) L) D):=λ{Z' W q1 I} k2 s2 S3 h3=>by exact⟨rfl,q0,W,Z',kp.chain q3 (kS.chain bC k2),gC kp q3 (gC kS bC s2),S3,OE.mono (kS.chain bC k2) (gC kS bC s2) h3⟩
  cases q:exs P (call P n) Z2 b with
  | next Z'=>rw[q] at G;exact λW q1 I k2 s2 S3=>q2 k2 s2 S3 G|cnt Z'=>rw[q] at G;exact λW q1 I k2 s2 S3=>q2 k2 s2 S3 G|brk Z'=>rw[q] at G;exact eB.mono kS bC (G)|ret v=>rw[q] at G;exact OE.mono kS bC G|exc e Z'=>rw[q] at G;exact OE.mono kS bC G|bad=>rw[q] at G;exact G.elim
 have q6:i=xs.1.length:=by omega
 subst q6;rw[HK] at G;exact .inl ⟨q5.2.1 (Al _),(G) B q4 Hc (Kp.refl _ _) bC Sc⟩
theorem aOs(M:Mc X P Γ n)(hc:∀RT Z,PT X e (WT X P n RT Y old Z c))(hb:∀RT Z,PSs X body (wS X RT Y old Z (exs P (call P n) Z b))):PS X (.While e body [] pos) (wS X RT Y old Z (ex P (call P n) Z (.whl c b))):=by
 refine cM (aEu M.own (tc:=λZV H Q=>∃RT Z,WT X P n RT Y old Z c ZV H Q) (λpins s ZV H Q I ⟨RT,Z,hw⟩=>hc RT Z pins s ZV H Q I hw) (wQ hb)) λD0 ZV H t0 ⟨S,h⟩=>?_;have h:=OE.tkE h;revert h;generalize tkE X.K D0=D;intro h;refine⟨λm q1 W=>∃B L,Sx X.K B Y old L q1 W/\OE X.K (XW X) B Y old W (iL (λZ=>tst P (call P n) Z c) (λZ=>exs P (call P n) Z b) m L) D,⟨aBS,RT,Z,S,h⟩,?_⟩;rintro m q1 W ⟨B,L,Sc,ho⟩;cases m with
 | zero=>exact ho.elim|succ m=>
  have ho:=OE.from Sc (show OE X.K (XW X) B Y old W (O.from L (tst P (call P n) L c) λk=>if k=true then (match exs P (call P n) L b with
   | .next Z'=>iL (λZ=>tst P (call P n) Z c) (λZ=>exs P (call P n) Z b) m Z'|.cnt Z'=>iL (λZ=>tst P (call P n) Z c) (λZ=>exs P (call P n) Z b) m Z'|.brk Z'=>.next Z'|o=>o) else .next L) D from ho)
  refine⟨B,L,Sc,ho.mono λk G H1 t1 s1=>?_⟩;have U:Kp B W H1:=Kp.same s1;cases k with
  | false=>rw[if_neg bN] at G;exact aKw ((show eB X.K B Y old W L D.nx from G) B q1 H1 U bC (Sc.grow s1 t1))|true=>
   rw[if_pos rfl] at G;refine aNh ⟨λq2 H'=>∃B L,Sx X.K B Y old L q2 H'/\OE X.K (XW X) B Y old H' (iL (λZ=>tst P (call P n) Z c) (λZ=>exs P (call P n) Z b) m L) D,λZ' H' hN=>⟨m,Bx m,hN⟩,B,L,(Sc.grow s1 t1),?_⟩;cases q:exs P (call P n) L b with
   | next Z'=>rw[q] at G;exact λq0 q2 q3 k2 s2 S3=>⟨q0,Z',S3,OE.mono (U.chain bC k2) (gC U bC s2) G⟩
   | cnt Z'=>rw[q] at G;exact λq0 q2 q3 k2 s2 S3=>⟨q0,Z',S3,OE.mono (U.chain bC k2) (gC U bC s2) G⟩
   | brk Z'=>rw[q] at G;exact eB.mono U bC (show eB X.K B Y old W Z' D.nx from G)|ret v=>rw[q] at G;exact OE.mono U bC G|exc e Z'=>rw[q] at G;exact OE.mono U bC G|bad=>rw[q] at G;exact G.elim
theorem Sx.kill{K:Fg}{ZV:L2.St}{H:Hp}(S:Sx K RT Y old Z ZV H)(j:Nat)(v:Option V):Sx K RT Y old (Z.set j .x) (ZV.set j v) H where
 sh:=λk G d q=>by
  rcases set_some q with⟨_,z,_⟩|⟨B,q⟩
  cases z;obtain⟨v,g1,g2⟩:=S.sh k G d q;exact⟨v,by rw[Au B];exact g1,g2⟩
 own:=λk G dd q=>by
  rcases set_some q with⟨_,z,_⟩|⟨B,q⟩
  cases z;obtain⟨b,xs,g1,g2⟩:=S.own k G dd q;exact⟨b,xs,by rw[Au B];exact g1,g2⟩
 trk:=S.trk
 yo:=S.yo
 tk:=S.tk
 rt:=S.rt
 inj:=λk k' G q3 dd q0 b I L U W=>by
  rcases set_some I with⟨_,z,_⟩|⟨B,I⟩
  cases z;rcases set_some L with⟨_,z,_⟩|⟨n2,L⟩
  cases z;rw[Au B] at U;rw[Au n2] at W;exact S.inj k k' _ _ _ _ b I L U W
 len:=by rw[AF,AF];exact S.len
theorem aLE(M:Mc X P Γ n)
 (hb:∀{B:Cx},Mc B P Γ n->∀RT Z,PSs B body (wS B RT Y old Z (exs P (call P n) Z b))):PS X (.Try body (h0::hs) [] [] pos) (wS X RT Y old Z (ex P (call P n) Z (.tryN b))):=by
 refine cM (aIe (tb:=λD ZV H=>Sx X.K RT Y old Z ZV H/\OE X.K (λ_ _ _=>False) RT Y old H (exs P (call P n) Z b) D) λpins E own=>
  mY (hb (M.inTry own) RT Z) λD ZV H t ⟨S,h⟩=>⟨S,(show OE X.K (XW (X.inTry pins E)) RT Y old H (exs P (call P n) Z b) D from OE.weak h λZV H x z=>z.elim).tkE⟩) λD ZV H t ⟨S,h⟩=>⟨S,?_⟩
 replace h:OE X.K (XW X) RT Y old H (match exs P (call P n) Z b with
  | .exc _ _=>.bad|o=>o) D:=h
 cases q:exs P (call P n) Z b with
 | next Z'=>rw[q] at h;exact eB.tkE h|brk Z'=>rw[q] at h;exact eB.tkE h|cnt Z'=>rw[q] at h;exact eB.tkE h|ret v=>rw[q] at h;exact λu G k t r _=>(show aJF X.K RT Y old H v D.rt from h) u G k t r|bad=>rw[q] at h;exact h|exc x Z'=>rw[q] at h;exact h.elim
theorem aLF(M:Mc X P Γ n)(hg:cQ Γ c=true)(ho:cF c=true)(hc:c∈Γ.cls)(hy:cV Γ i y=true)(hn:cV Γ j nm=true)(hl:Γ.sc.lookup nm=some .local)(W:i≠j)(q2:Γ.fn=true)
 (hb:∀{X':Cx},Mc X' P Γ n->∀RT Z,PSs X' body (wS X' RT Y old Z (exs P (call P n) Z b))) :
 PS X (.Try body [.ExceptHandler (some (.Name c np)) (some nm) [.Assign [.Name y yp] (.Name nm np2) ap] hp] [] [] pos) (wS X RT Y old Z (ex P (call P n) Z (.tryA b c i j))):=by
 obtain⟨y1,y2,y3⟩:=gW hy;obtain⟨n1,n2,n3⟩:=gW hn;obtain⟨C,bd,ey⟩:=M.md.cls c hc;refine cM (aId (tb:=λW0 D ZV H=>Sx X.K RT Y old Z ZV H/\OE X.K (clW X.K W0) RT Y old H (exs P (call P n) Z b) D) (M.gl hg) bd (aX ho) ey (M.stk q2) M.nd (by rw[M.N];exact eq_of_beq y1) (by rw[M.N];exact eq_of_beq n1) (M.loc y2) (by rw[M.sc];exact hl) (M.st y y2) (aX n3) (kQ n3) W λpins E W0 own rs=>
  mY (hb (M.inTry own) RT Z) λD ZV H t ⟨S,h⟩=>⟨S,(OE.weak h λZV H x z=>clW.xw rs z).tkE⟩) λD ZV H t ⟨S,h⟩=>⟨S,?_⟩
 replace h:OE X.K (XW X) RT Y old H (match exs P (call P n) Z b with
  | .exc x Z'=>aDo P c i j x Z'|o=>o) D:=h
 cases q:exs P (call P n) Z b with
 | next Z'=>rw[q] at h;exact eB.tkE h|brk Z'=>rw[q] at h;exact eB.tkE h|cnt Z'=>rw[q] at h;exact eB.tkE h|ret v=>rw[q] at h;exact λu H2 k t r _=>(h) u H2 k t r|bad=>rw[q] at h;exact h|exc x Z'=>
  rw[q] at h;replace h:OE X.K (XW X) RT Y old H (aDo P c i j x Z') D:=h;have es:∀x:Hp.D,(((Z'.set j .x).set i (.sh true x)).set j .x).set j .x=(Z'.set i (.sh true x)).set j .x:=λx=>by rw[JF,List.set_comm _ _ W.symm,JF]
  have hX:∀{k:Str} {ds:List Hp.D},isX [.own c] P (.err k ds)=some true->∃B,Cq X.K AG k=some (some (.ref B))/\lV X.K B=true/\rE X.K B C=some true:=λ{k ds} i2=>by
   have i2:(match P.above.lookup k with|some ab=>some ([Cl.own c].any λa=>ab.contains a)|none=>none)=some true:=i2;split at i2;rename_i ab q1;obtain⟨B,E⟩:=M.md.exc k ab q1;obtain⟨Cb,g3,_,L⟩:=E.ow c hc;rw[bd] at g3;cases g3;have b2:ab.contains (.own c)=true:=by simpa using Aq i2
   rw[b2] at L;exact⟨B,E.ns,E.ex,L⟩;cases i2
  unfold aDo at h;split at h;rename_i k m;split at h;rename_i i2;obtain⟨B,n1,x1,L⟩:=hX i2;intro G q0 H' kp sub S' cls ⟨C',dp,e1,e2,e3⟩;have e:C'=B:=by have:=n1.symm.trans e2;simpa using this.symm
  subst e e1;refine⟨C',rfl,x1,L,λa I tk=>h G _ _ (kp.chain sub (Kp.same (aW.new I))) sub ?_⟩;have U:=((((S'.grow (aW.new I) tk).kill j (some (.ref a))).setSh (i:=i) (pa:=true) (d:=.err k [.int m]) ⟨a,C',rfl,some dp,bE,e2,λdx z=>⟨_,by cases z;exact(aW.new I _ _ e3)⟩,λn z=>⟨dp,rfl,by cases z;exact(aW.new I _ _ e3)⟩⟩).kill j (some .non)).kill j none;rw[es] at U;exact U;exact h.elim;rename_i k;split at h;rename_i i2;obtain⟨B,n1,x1,L⟩:=hX i2;intro G q0 H' kp sub S' cls ⟨C',e1,e2⟩;have e:C'=B:=by have:=n1.symm.trans e2;simpa using this.symm
  subst e e1;refine⟨C',rfl,x1,L,λa I tk=>h G _ _ (kp.chain sub (Kp.same (aW.new I))) sub ?_⟩;have U:=((((S'.grow (aW.new I) tk).kill j (some (.ref a))).setSh (i:=i) (pa:=true) (d:=.err k []) ⟨a,C',rfl,none,bE,e2,(λdx z=>by cases z),λn z=>by cases z⟩).kill j (some .non)).kill j none;rw[es] at U;exact U;exact h.elim;exact h.elim
end
section
variable {X:Cx} {RT Y old:Addr->Prop} {Z:Sg}
theorem RE.eqF{α:Type}{x:R α}{p:α->Prop}(h:RE (λ_=>False) x p):∃a,x=.ok a/\p a:=by
 cases x with
 | ok a=>exact⟨a,rfl,h⟩|exc e=>exact h.elim|bad=>exact h.elim
theorem aFS(M:Mc X P Γ n){i j k:Nat}{c:E}{e a b:AE}{W:Const}{kk:Nat}{q p2:Ht}(hc:oH Γ i "append" e=some [.Subscript a (.Constant W kk q) p2])(U:eqC (.int k) W=true)(hj:oH Γ j "pop" a=some [b])(hb:PE X b (WE X P n RT Y old Z c))(hp:bH b=true)(q0:i≠j):PS X (.Expr e pos) (wS X RT Y old Z (ex P (call P n) Z (.appPop i j c k))):=by
 obtain⟨x,p',ap,cp,rfl,hx,hl⟩:=pZ hc;have q5:W=.int k:=by cases W <;> simp_all [eqC]
 subst q5;refine cM (pV (aBQ CT Fj Fk tZ (iY M hx) (eQ (aJs aEG (aLD M hj hb hp) aEl (rJ rfl)) gG (aB rfl)) rfl (by rfl) hl (aB rfl) rfl)) λD ZV H t ⟨S,h⟩=>?_;have h:=(OE.from S (show OE X.K (XW X) RT Y old H (O.from Z (qX ((some c).map λe=>(ev P (call P n) Z e).calm)) λm=>O.from Z (jT Z j m) λ(v,Z')=>O.from Z' (aBT v k) λw=>put Z' i w λds=>some (ds++[w.d])) D from h)).never (w':=λ_=>False) (aIw _ aIy);obtain⟨m,ek,h⟩:=RE.eqF h;obtain⟨⟨v,Z'⟩,ep,h⟩:=RE.eqF ((OE.from S h).never (uR _ _ _));obtain⟨w4,q9,mj,d,q1,hm,hd,e1,e2⟩:=zV ep;have h:=h;unfold aBT at h;cases hv:v.d with
 | tup I=>
  simp only[hv] at h;cases U:I[k]? with
  | none=>simp only[U] at h;exact h.elim|some d0=>
   simp only[U] at h;have h:OE X.K (XW X) RT Y old H (put Z' i (v.sub d0) λds=>some (ds++[(v.sub d0).d])) D:=h;obtain⟨pa,ds,ds',B,q2,q3,q4,G⟩:=wU h;cases q3;obtain⟨b',xs,g1,g2,g3,g4,g5⟩:=S.own i pa ds (by rw[e2,Au (BQ q0)] at B;exact B);refine⟨.ref b',g1,.inl ⟨rfl,xs,SqL.of g2⟩,S,?_⟩;rw[ek];show RE (λ_=>False) (jT Z j m) _;rw[ep];intro u H1 kp L ru;rw[hv] at ru;obtain⟨a',ys,rfl,hT,rr⟩:=ru;obtain⟨y,hy,ry⟩:=rr.get U;obtain⟨b2,q7,k1,k2,k3,k4,k5⟩:=L.own i pa ds B;rw[g1] at k1;cases k1;have q8:=k5.length;have q6:v.al=[]:=by rw[e1];unfold Vl.sub;split <;> rfl
   have w3:=(Ax.mp hy).1;refine .inr (.inl ⟨a',ys,k,y,rfl,rfl,hT,?_,b',q7,y,rfl,rfl,k2,?_,λ_=>?_⟩);unfold atI L2.ixN;rw[if_pos (by omega),if_pos (by omega)];simpa using hy;rw[lA] at q4;have:=aBg;omega;exact nA L (aW.refl H1) L.tk B q2 g1 (((mZ L (aW.refl H1) B g1 k2).weak λc z=>z.imp id pY).append (.cons (aBh (Rv.sub (ds:=I) (xs:=ys) (j:=k) (ry.weak λc z=>by rw[q6] at z;exact z.imp (·.1) id))) .nil)) (G.mono kp bC)
 | _=>simp only[hv] at h;exact h.elim
end
theorem aFT(h:tO Γ (.t is) tg=true):∃es k p,tg=.Tuple es k p:=by
 cases tg with
 | Tuple es k p=>exact⟨es,k,p,rfl⟩|_=>cases h
theorem aDO(h:tO Γ (.n i) tg=true):∃x p,tg=.Name x p/\cV Γ i x=true:=by
 cases tg with
 | Name x p=>exact⟨x,p,rfl,h⟩|_=>cases h
theorem aDP(B:isC c=true):∃k caps t it cond elt,c=.comp k caps t it cond elt:=by cases c <;> first|exact⟨_,_,_,_,_,_,rfl⟩|cases B
theorem m1{f:AE->Bool}(h:(match oH Γ i m c with|some [a]=>f a|_=>false)=true):∃a,oH Γ i m c=some [a]/\f a=true:=by split at h;rename_i a q;exact⟨a,q,h⟩;cases h
abbrev QS(P:Pg)(n:Nat)(Y old:Addr->Prop)(c:S):Prop:=∀{X:Cx} {Γ:Ct},Mc X P Γ n->∀{st:Cj},iD Γ c st=true->∀(RT:Addr->Prop) (Z:Sg),PS X st (wS X RT Y old Z (ex P (call P n) Z c))
abbrev QSs(P:Pg)(n:Nat)(Y old:Addr->Prop)(c:Ss):Prop:=∀{X:Cx} {Γ:Ct},Mc X P Γ n->∀{st:List Cj},chkSs Γ c st=true->∀(RT:Addr->Prop) (Z:Sg),PSs X st (wS X RT Y old Z (exs P (call P n) Z c))
theorem aOt:QS P n Y old (.set t e):=λ{X Γ} M {st} h RT Z=>by
 unfold iD at h;obtain⟨⟨tg,v⟩,⟨p,rfl⟩,g⟩:=aJ h;clear h;obtain⟨h1,h2,h3,U⟩:=aFO g;clear g;have h5:=eq_of_beq U;clear U;cases t with
 | n i=>
  obtain⟨x,p,I,hx⟩:=aDO h1;subst I;cases W:rC v with
  | false=>exact aLA M hx (sE e M h2 RT Y old Z) W|true=>obtain⟨k,caps,t,it,cond,elt,rfl⟩:=aDP (h5.symm.trans W);obtain⟨el,tg,q0,q1,scope,L,e2,O,g1,g2,g3,g4,g5⟩:=aCn h2;subst e2;refine aDN M hx (O.scope M) O.ndc O.tk O.cm (sI it M g3 RT Y old Z) (λC s₀ H₀ ex=>?_) (oJ (mE g3));have B:=O.mc M C s₀ H₀ ex;exact⟨aIu B g2,λRT Y old G=>aCm (sTs cond B g1 g4 RT Y old G),λpl E W0 own rs RT Y old G=>aFL rs (sE elt (B.inTry own) g5 RT Y old G)⟩
 | t is=>obtain⟨es,k,p,I⟩:=aFT h1;subst I;refine aLB M h1 (sE e M h2 RT Y old Z) ?_;have:(false||!aAP v)=true:=h3;simpa using this
theorem aOu:QS P n Y old (.mov i j):=λ{X Γ} M {st} h RT Z=>by unfold iD at h;obtain⟨⟨tg,v⟩,⟨p,rfl⟩,g⟩:=aJ h;clear h;obtain⟨x,⟨I,B⟩,g⟩:=aJ g;obtain⟨y,⟨L,G⟩,g⟩:=aJ g;subst B G;obtain⟨h1,h2⟩:=eO g;exact aOq M h1 h2
theorem aIz:QS P n Y old (.setIx i k e):=λ{X Γ} M {st} h RT Z=>by unfold iD at h;obtain⟨⟨tg,v⟩,⟨p,rfl⟩,g⟩:=aJ h;clear h;obtain⟨⟨o,ix⟩,⟨L,B⟩,g⟩:=aJ g;obtain⟨x,⟨U,G⟩,g⟩:=aJ g;subst B G;obtain⟨h1,h2,I⟩:=gW g;exact aIx M h1 (sE k M h2 RT Y old Z) (sE e M I RT Y old Z) (aS h2)
theorem aOv:QS P n Y old (.app i e):=λ{X Γ} M {st} h RT Z=>by unfold iD at h;obtain⟨c,⟨p,rfl⟩,g⟩:=aJ h;obtain⟨a,h1,h2⟩:=m1 g;exact aOo M h1 (sE e M h2 RT Y old Z) (aS h2)
theorem aOw:QS P n Y old (.ext i e):=λ{X Γ} M {st} h RT Z=>by unfold iD at h;obtain⟨c,⟨p,rfl⟩,g⟩:=aJ h;obtain⟨a,h1,h2⟩:=m1 g;exact aOp M h1 (sE e M h2 RT Y old Z) (aS h2)
theorem aFU:QS P n Y old (.appPop i j c k):=λ{X Γ} M {st} h RT Z=>by unfold iD at h;obtain⟨s,⟨p,rfl⟩,g⟩:=aJ h;obtain⟨a,h1,h2⟩:=m1 g;obtain⟨⟨u1,u2⟩,⟨p2,rfl⟩,g2⟩:=aJ h2;obtain⟨L,B⟩:=eO g2;obtain⟨kc,⟨kk,q,I⟩,W⟩:=aJ L;subst I;obtain⟨b,U,B⟩:=m1 B;obtain⟨B,G⟩:=eO B;exact aFS M h1 W U (sE c M B RT Y old Z) (aS B) (by simpa using G)
theorem aOx:QS P n Y old (.ret e):=λ{X Γ} M {st} h RT Z=>by unfold iD at h;obtain⟨r,⟨p,rfl⟩,g⟩:=aJ h;clear h;obtain⟨v,B,g⟩:=aFd g;subst B;exact aOn (sE e M g RT Y old Z)
theorem aLG:QS P n Y old (.retv i):=λ{X Γ} M {st} h RT Z=>by unfold iD at h;obtain⟨r,⟨p,rfl⟩,g⟩:=aJ h;clear h;obtain⟨v,B,g⟩:=aFd g;subst B;obtain⟨x,⟨I,G⟩,g⟩:=aJ g;subst G;exact aLz M g
theorem aLH:QS P n Y old .retN:=λ{X Γ} M {st} h RT Z=>by
 obtain⟨r,⟨p,rfl⟩,g⟩:=aJ h;cases r with
 | none=>exact aLy|some _=>cases g
theorem aOy(G:QSs P n Y old a)(hb:QSs P n Y old b):QS P n Y old (.iff c a b):=λ{X Γ} M {st} h RT Z=>by unfold iD at h;obtain⟨⟨t,x,y⟩,⟨p,rfl⟩,g⟩:=aJ h;obtain⟨h1,h2,B⟩:=gW g;exact aQy (sT c M h1 RT Y old Z) (G M h2) (hb M B)
theorem aOz(hb:QSs P n Y old b):QS P n Y old (.for t it b):=λ{X Γ} M {st} h RT Z=>by unfold iD at h;obtain⟨⟨tg,B,body⟩,⟨p,rfl⟩,g⟩:=aJ h;obtain⟨h1,h2,G⟩:=gW g;exact aOr M h1 (sI it M h2 RT Y old Z) (hb M G) (oJ (mE h2))
theorem aOA(hb:QSs P n Y old b):QS P n Y old (.whl c b):=λ{X Γ} M {st} h RT Z=>by unfold iD at h;obtain⟨⟨t,body⟩,⟨p,rfl⟩,g⟩:=aJ h;obtain⟨h1,h2⟩:=eO g;exact aOs M (λRT Z=>sT c M h1 RT Y old Z) (hb M h2)
theorem aOB:QS P n Y old .brk:=λ{X Γ} M {st} h RT Z=>by unfold iD at h;obtain⟨_,⟨p,rfl⟩,_⟩:=aJ h;exact aOk
theorem aOC:QS P n Y old .cnt:=λ{X Γ} M {st} h RT Z=>by unfold iD at h;obtain⟨_,⟨p,rfl⟩,_⟩:=aJ h;exact aOl
theorem aLI:QS P n Y old .pass:=λ{X Γ} M {st} h RT Z=>by unfold iD at h;obtain⟨_,⟨p,rfl⟩,_⟩:=aJ h;exact aLw
theorem aQA:QS P n Y old (.ex e):=λ{X Γ} M {st} h RT Z=>by unfold iD at h;obtain⟨v,⟨p,rfl⟩,g⟩:=aJ h;obtain⟨h1,h2⟩:=eO g;exact aQx (sE e M h1 RT Y old Z) (by simpa using h2)
theorem aOD:QS P n Y old (.rse c k (.k e .z)):=λ{X Γ} M {st} h RT Z=>by
 unfold iD at h;obtain⟨⟨x,a⟩,⟨np,L,p,rfl⟩,g⟩:=aJ h;simp only[bA] at g;obtain⟨⟨⟨⟨g1,g2⟩,g3⟩,G⟩,B⟩:=g;have I:=eq_of_beq g1;subst I;cases k with
 | false=>exact aJH M g2 g3 (by simpa using G) (sE e M B RT Y old Z) (aS B)|true=>exact aLx M g2 g3 (by simpa using G) (sE e M B RT Y old Z) (aS B)
theorem aLJ:QS P n Y old (.rse c false .z):=λ{X Γ} M {st} h RT Z=>by
 unfold iD at h;obtain⟨⟨x,a⟩,⟨np,W,p,rfl⟩,g⟩:=aJ h;simp only[bA] at g;obtain⟨⟨⟨⟨g1,g2⟩,g3⟩,I⟩,L⟩:=g;have G:=eq_of_beq g1;subst G;obtain⟨k,⟨l,q,rfl⟩,U⟩:=aJ L;cases k with
 | str s=>
  have B:bG Γ (.c (.str s)) (.Constant (.str s) l q)=true:=by unfold bG;show((s==s)||_)=true;rw[beq_self_eq_true];rfl
  exact aJH M g2 g3 (by simpa using I) (sE (.c (.str s)) M B RT Y old Z) (aS B)
 | _=>cases U
theorem aOE(hb:QSs P n Y old b):QS P n Y old (.tryA b c i j):=λ{X Γ} M {st} h RT Z=>by unfold iD at h;obtain⟨⟨body,x,nm,y⟩,⟨np,yp,q0,ap,hp,p,rfl⟩,g⟩:=aJ h;clear h;simp only[bA] at g;obtain⟨⟨⟨⟨⟨⟨⟨⟨⟨⟨h1,h2⟩,L⟩,U⟩,W⟩,h6⟩,h7⟩,h8⟩,h9⟩,B⟩,G⟩:=g;have e:=eq_of_beq h1;subst e;exact aLF M h2 L (FU.mp U) W h6 (eq_of_beq h7) (by simpa using h9) B λI RT Z=>hb I G RT Z
theorem aLK(hb:QSs P n Y old b):QS P n Y old (.tryN b):=λ{X Γ} M {st} h RT Z=>by obtain⟨r,⟨hd,hs,p,rfl⟩,g⟩:=aJ h;exact aLE M λB RT Z=>hb B g RT Z
theorem aLL:QS P n Y old .off:=λ{X Γ} M {st} h RT Z=>aOm
theorem aJI(z:∀Γ st,iD Γ c st=false):QS P n Y old c:=by intro X Γ M st h RT Z;rw[z] at h;cases h
theorem aOF:QSs P n Y old .z:=λ{X Γ} M {st} h RT Z=>by
 cases st with
 | nil=>exact aOj|cons _ _=>exact nf h
theorem aLM(B:QS P n Y old c)(hs:QSs P n Y old cs):QSs P n Y old (.k c cs):=λ{X Γ} M {st} h RT Z=>by
 cases st with
 | nil=>exact nf h|cons x xs=>obtain⟨h1,h2⟩:=eO h;exact aLv (B M h1) (hs M h2)
mutual
theorem sS:(c:S)->QS P n Y old c
 | .set _ _=>aOt|.mov _ _=>aOu|.setIx _ _ _=>aIz|.app _ _=>aOv|.ext _ _=>aOw|.ret _=>aOx|.retv _=>aLG|.retN=>aLH|.iff _ a b=>aOy (sSs a) (sSs b)|.for _ _ b=>aOz (sSs b)|.whl _ b=>aOA (sSs b)|.brk=>aOB|.cnt=>aOC|.pass=>aLI|.ex _=>aQA|.rse _ _ (.k _ .z)=>aOD|.rse _ false .z=>aLJ|.rse _ true .z=>aJI λ_ _=>rfl|.rse _ _ (.k _ (.k _ _))=>aJI λ_ _=>rfl|.tryA b _ _ _=>aOE (sSs b)|.tryN b=>aLK (sSs b)|.appPop _ _ _ _=>aFU|.off=>aLL
theorem sSs:(c:Ss)->QSs P n Y old c
 | .z=>aOF|.k c cs=>aLM (sS c) (sSs cs)
end
structure Tx where
 x:Str
 qual:Str
 st:Cj
 N:List Str
def aCr(Γ:Ct)(F:Fn)(t:Tx):Bool:=
 t.N.length==F.ns&&decide (F.np<=F.ns)&&decide t.N.Nodup&&(bK t.st).kind==.function&&!(bK t.st).isCoroutine&&!(bK t.st).isGenerator &&
 ((t.N.take F.np).all λx=>(bK t.st).names.lookup x==some .local||(bK t.st).names.lookup x==some .cell)&&((bK t.st).names.all λp=>p.2 != .free) &&
 chkSs { Γ with N:=t.N,sc:=(bK t.st).names,fn:=true } F.body (iT t.st)
def oQ(Γ:Ct):List Fn->List Tx->Bool
 | [],[]=>true|F::Fs,t::ts=>aCr Γ F t&&oQ Γ Fs ts|_,_=>false
theorem jC:∀{B:List Fn} {ts:List Tx},oQ Γ B ts=true->∀{f:Nat} {t:Tx},ts[f]? = some t->∃F,B[f]? = some F/\aCr Γ F t=true
 | [],[],_,_,_,e=>by simp at e|[],_::_,h,_,_,_=>by cases h|_::_,[],h,_,_,_=>by cases h|F::B,t::ts,h,0,t',e=>by
  obtain⟨h1,h2⟩:=eO (h);have I:t=t':=by simpa using e
  subst I;exact⟨F,rfl,h1⟩
 | F::B,t::ts,h,f+1,t',e=>by obtain⟨h1,h2⟩:=eO (h);obtain⟨G,L,U⟩:=jC h2 (by simpa using e);exact⟨G,by simpa using L,U⟩
section
variable {prog:AB} {w:AV} {K:Fg} {mg:Str->Option Value} {base:Heap} {P:Pg} {Γ:Ct} {txs:List Tx}
structure Top (prog:AB) (w:AV) (K:Fg) (mg:Str->Option Value) (P:Pg) (Γ:Ct) (txs:List Tx):Prop where
 fn:∀(f:Nat) (t:Tx),txs[f]? = some t->∃fa fd,mg t.x=some (.ref fa)/\Fun K t.x t.qual t.st fa fd/\∀F,P.fns[f]? = some F->jP K fd (t.N.take F.np) []
 fns:∀(f:Nat) (x:Str),Γ.fns[f]? = some x->∃t,txs[f]? = some t/\t.x=x
 blt:∀x∈bltNames,mg x=none
 cns:∀(x:Str) (d:D),Γ.cns.lookup x=some d->∃u v,mg x=some u/\bV v u/\∀H ex,Rep K H ex d v
 tab:∀(i:Nat) (x:Str),Γ.tbs[i]? = some x->∃a t,mg x=some (.ref a)/\P.tabs[i]? = some t/\uE prog w K a t
 exc:∀(c:Str) (ab:List Cl),P.above.lookup c=some ab->∃C,uG K mg Γ.cls c ab C
 rsd:∀c∈Γ.rsd,∃C,mg c=some (.ref C)/\Cq K AG c=some (some (.ref C))/\DC K C bmV "ValueError.__new__" = true
 pls:∀c∈Γ.pls,aCi K mg c
 cls:∀x∈Γ.cls,∃C2,mg x=some (.ref C2)/\lV K C2=true
 chk:oQ Γ P.fns txs=true
theorem aCs{k f:Nat}{F:Fn}(G:P.fns[f]? = some F){vs:List V}{H:Hp}{Q:VK}{E:XK}(h:spF K P (k+1) f vs H Q E):vs.length=F.np:=by obtain⟨ds,Y,_,r,B⟩:=h;have B:RE (xE K H E) (qY P (call P k) f ds) _:=B;unfold qY at B;rw[G] at B;have B:RE (xE K H E) (if ds.length=F.np then _ else R.bad) _:=B;split at B;rename_i I;rw[<-r.length];exact I;exact B.elim
theorem aFV{ds:List D}{vs:List V}{Y:Addr->Prop}(B:∀a,Y a->Od K H a)(t:Tk K H)(r:Reps K H Y ds vs):Sx K (λ_=>False) Y (λb=>Od K H b) ((ds.map λd=>Sl.sh true d)++Af m Sl.x) (vs.map some++Af m none) H:=by
 have len:=r.length;have get:∀{i:Nat} {s:Sl},((ds.map λd=>Sl.sh true d)++Af m Sl.x)[i]? = some s->s=.x\/∃d,s=.sh true d/\ds[i]? = some d:=λ{i s} e=>by by_cases hi:i<ds.length;rw[AQ (by simpa using hi),A3,Ae hi] at e;cases e;exact .inr ⟨ds[i],rfl,Ae hi⟩;rw[AD (by simpa using hi),BO] at e;split at e;cases e;exact .inl rfl;cases e
 exact {
  sh:=λi pa d e=>by
   rcases get e with z|⟨d',z,q⟩
   cases z;cases z;obtain⟨v,G,rv⟩:=r.get q;refine⟨v,?_,rv.weak λa z=>?_⟩;rw[AQ (by simpa using ((Ax.mp G).1)),A3,G];rfl;rcases z with z|z|⟨z,_⟩
   exact z.elim;exact z;cases z
  own:=λi pa ds' e=>by
   rcases get e with z|⟨d',z,q⟩
   cases z;cases z
  trk:=λa z=>by rcases z with z|z|z;exact z.elim;exact B a z;exact z
  yo:=B
  tk:=t
  rt:=λ_ z=>z.elim
  inj:=λi j pa pa' I L a e=>by
   rcases get e with z|⟨d',z,q⟩
   cases z;cases z
  len:=by rw[lA,lA,lM,lM,A9,A9,len] }
theorem aCt{t:Tx}{F:Fn}(q8:∀(f:Nat) (x:Str),Γ.fns[f]? = some x->∃fa fd ps,mg x=some (.ref fa)/\EE K (.ref fa)=true/\jP K fd ps []/\vS prog w K mg base (CX1 prog w) k fa fd ps (spF K P k f))
 (U:∀x∈bltNames,mg x=none) (q0:∀(x:Str) (d:D),Γ.cns.lookup x=some d->∃u v,mg x=some u/\bV v u/\∀H ex,Rep K H ex d v) (q5:∀(i:Nat) (x:Str),Γ.tbs[i]? = some x->∃a t,mg x=some (.ref a)/\P.tabs[i]? = some t/\uE prog w K a t) (q1:∀(c:Str) (ab:List Cl),P.above.lookup c=some ab->∃C,uG K mg Γ.cls c ab C) (q4:∀c∈Γ.rsd,∃C,mg c=some (.ref C)/\Cq K AG c=some (some (.ref C))/\DC K C bmV "ValueError.__new__" = true) (q3:∀c∈Γ.pls,aCi K mg c) (W:∀x∈Γ.cls,∃C2,mg x=some (.ref C2)/\lV K C2=true) (h2:Fun K t.x t.qual t.st fa fd) (hF:P.fns[f]? = some F) (hc:aCr Γ F t=true) :
 vS prog w K mg base (CX1 prog w) (k+1) fa fd (t.N.take F.np) (spF K P (k+1) f):=by
 unfold aCr at hc;simp only[bA,beq_iff_eq,AA,Ch,AO,B9,bne_iff_ne,ne_eq] at hc;obtain⟨⟨⟨⟨⟨⟨⟨⟨c1,c2⟩,c3⟩,c4⟩,c5⟩,c6⟩,c7⟩,c8⟩,c9⟩:=hc;have lt:(t.N.take F.np).length=F.np:=by rw[A8];omega
 have sc:pW t.N (t.N.take F.np) (bK t.st):=⟨c4,c5,c6,c3,by rw[lt],c7,c8⟩
 obtain⟨oc,od,kV,doc,pm,an,cdv,ct,osl,rfl,lk,q7⟩:=h2.ex;refine aNa lk q7 sc (λvs H Q E h=>by rw[lt];exact aCs hF h) λA outer s H vs Q E hr h=>?_;have G:=aCs hF h;obtain⟨ds,Y,hY,r,B⟩:=h;have M:Mc (tH (CX1 prog w) prog w K mg base t.N t.qual (bK t.st) fa cdv A outer s H E) P { Γ with N:=t.N,sc:=(bK t.st).names,fn:=true } k:={
  md:=⟨q8,U,q0,q5,q1,q4,q3,W⟩
  N:=rfl
  nd:=c3
  sc:=rfl
  calm:=rfl
  room:=hr
  own:=K8
  st:=λ_ _=>.inl rfl
  fk:=c4
  stk:=λ_=>rfl }
 have B:RE (xE K H E) (qY P (call P k) f ds) _:=B;unfold qY at B;rw[hF] at B;have B:RE (xE K H E) (if ds.length=F.np then (match exs P (call P k) ((ds.map λd=>Sl.sh true d)++Af (F.ns-F.np) Sl.x) F.body with
  | .ret v=>R.ok (v.d,v.fr,v.pa)|.next _=>R.ok (.non,false,false)|.exc x _=>R.exc x|_=>R.bad) else R.bad) λr=>∀u H',Tk K H'->aW H H'->Rr K H H' Y r u->Q u H':=B
 rw[if_pos (by rw[r.length];exact G)] at B;refine⟨_,mY (t':=λD ZV H'=>Tk K H'->wS _ (λ_=>False) Y (λb=>Od K H b) ((ds.map λd=>Sl.sh true d)++Af (F.ns-F.np) Sl.x) (exs P (call P k) ((ds.map λd=>Sl.sh true d)++Af (F.ns-F.np) Sl.x) F.body) D ZV H') (sSs F.body M c9 (λ_=>False) ((ds.map λd=>Sl.sh true d)++Af (F.ns-F.np) Sl.x)) (λD ZV H' tk hw=>⟨(hw tk).1,OE.tkE (hw tk).2⟩),λtk=>⟨?_,?_⟩⟩;have e:L2.start t.N vs=vs.map some++Af (F.ns-F.np) none:=by unfold L2.start;rw[G,c1]
 rw[e];exact aFV hY tk r;have same:∀{H':Hp},Kp (λ_=>False) H H'->aW H H':=λk b o e=>k b o e id;cases q:exs P (call P k) ((ds.map λd=>Sl.sh true d)++Af (F.ns-F.np) Sl.x) F.body with
 | next Z'=>rw[q] at B;exact λq6 L H' kp sub S'=>B .non H' S'.tk (same kp) (aKw rfl)|ret v=>
  rw[q] at B;refine λu H' kp q9 rt=>B u H' q9 (same kp) ?_;unfold Rtv at rt;cases q2:v.fr with
  | true=>rw[q2] at rt;obtain⟨a,xs,ds',e1,e2,e3,e4,rr⟩:=rt;exact aNh ⟨a,xs,ds',e1,e2,⟨ES λz=>e3 λy=>absurd y z,ES λz=>e3 λ_=>z⟩,e4,rr⟩|false=>rw[q2] at rt;exact aKw rt
 | brk Z'=>rw[q] at B;exact B.elim|cnt Z'=>rw[q] at B;exact B.elim|exc e Z'=>
  rw[q] at B;intro q6 L H' kp sub S';cases e with
  | err c fs=>exact λcls hn pins s1 a I fl=>aAQ pins L H' s1 a cls I fl (B cls H' hn S'.tk (same kp))|_=>exact B.elim
 | bad=>rw[q] at B;exact B.elim
theorem aFW(T:Top prog w K mg P Γ txs):∀(k f:Nat) (x:Str),Γ.fns[f]? = some x->∃fa fd ps,mg x=some (.ref fa)/\EE K (.ref fa)=true/\jP K fd ps []/\vS prog w K mg base (CX1 prog w) k fa fd ps (spF K P k f)
 | 0,f,x,B=>by
  obtain⟨t,G,rfl⟩:=T.fns f x B;obtain⟨fa,fd,h1,h2,L⟩:=T.fn f t G;obtain⟨F,I,_⟩:=jC T.chk G;have no:∀vs H Q E,¬ spF K P 0 f vs H Q E:=λvs H Q E h=>by obtain⟨ds,Y,_,r,W⟩:=h;exact W
  exact⟨fa,fd,_,h1,h2.kp,L F I,λvs H Q E h=>absurd h (no vs H Q E),λA outer s H args us vs Q E _ _ _ _ h=>absurd h (no vs H Q E)⟩
 | k+1,f,x,B=>by obtain⟨t,G,rfl⟩:=T.fns f x B;obtain⟨fa,fd,h1,h2,L⟩:=T.fn f t G;obtain⟨F,I,U⟩:=jC T.chk G;exact⟨fa,fd,_,h1,h2.kp,L F I,aCt (λf x B=>aFW T k f x B) T.blt T.cns T.tab T.exc T.rsd T.pls T.cls h2 I U⟩
theorem aLN(T:Top prog w K mg P Γ txs){t:Tx}{F:Fn}(L:txs[f]? = some t)(G:P.fns[f]? = some F)(h2:Fun K t.x t.qual t.st fa fd)(k:Nat):vS prog w K mg base (CX1 prog w) (k+1) fa fd (t.N.take F.np) (spF K P (k+1) f):=by obtain⟨U,B,I⟩:=jC T.chk L;rw[G] at B;cases B;exact aCt (aFW T k) T.blt T.cns T.tab T.exc T.rsd T.pls T.cls h2 G I
theorem aLO{ns:List Int}(U:aHL H)(G:SqL K H a (ns.map V.int))(h:∃fr pa,call P k f [.lst (ns.map D.int)]=.ok (.bl true,fr,pa)) :
 spF K P k f [.ref a] H (λv _=>v=.bl true) λ_ _ _=>False:=by
 obtain⟨fr,pa,e⟩:=h;have L:∀(ns:List Int),Reps K H (λ_=>False) (ns.map D.int) (ns.map V.int):=by
  intro ns
  induction ns with
  | nil=>exact .nil|cons i ns I=>exact .cons rfl I
 refine⟨[.lst (ns.map D.int)],λ_=>False,λ_ z=>z.elim,.cons ⟨a,_,rfl,G,⟨id,λ⟨_,_,z⟩=>z.elim⟩,L ns⟩ .nil,?_⟩;rw[e];intro u H' _ _ rr;unfold Rr at rr;cases fr with
 | true=>rw[if_pos rfl] at rr;obtain⟨_,_,_,_,B,_⟩:=rr;cases B|false=>rw[if_neg bN] at rr;exact rr
theorem aDQ(h:CX1 prog w out H s (λ_ _ _=>False) e s'):False:=by obtain⟨_,_,_,_,_,_,_,_,_,z⟩:=h;exact z
def sB(K:Fg)(C:Addr)(cs:List (Addr×Bool))(ve:Bool):Bool:=
 lV K C&&(Jq K C).isSome&&(PySem.W.subIn K (.ref C) (.type "BaseException")==some true)&&(CO K (.ref C) "__getattribute__" == some (some (.builtin "BaseException.__getattribute__"))) &&
 (CO K (.ref C) "__getattr__" == some none)&&(CO K (.ref C) "__class__" == some (some (.builtin "object.__class__")))&&(Jr K C (.type "object")==some true)&&(Dx K (.ref C) (.type "ValueError")==some ve) &&
 cs.all λp=>(Dx K (.ref C) (.ref p.1)==some p.2)&&(rE K C p.1==some p.2)
def zW(mg:Str->Option Value):List Str->List Addr->Prop
 | [],[]=>True|x::xs,a::as=>mg x=some (.ref a)/\zW mg xs as|_,_=>False
theorem uS{f:Str->Bool}:∀{xs:List Str} {as:List Addr},zW mg xs as->∀x∈xs,∃a,mg x=some (.ref a)/\(a,f x)∈as.zip (xs.map f)
 | [],_,_,x,hx=>by cases hx|y::ys,[],h,_,_=>h.elim|y::ys,a::as,h,x,hx=>by rcases As.mp hx with rfl|hx;exact⟨a,h.1,Ar⟩;obtain⟨b,h1,h2⟩:=uS h.2 x hx;exact⟨b,h1,Aj _ h2⟩
theorem aFX{cls:List Str}{ab:List Cl}{as:List Addr}(hm:mg c=some (.ref C))(hn:Cq K AG c=some (some (.ref C)))
 (h:sB K C (as.zip (cls.map λx=>ab.contains (.own x))) (ab.contains .tValueError)=true) (ha:zW mg cls as):uG K mg cls c ab C:=by unfold sB at h;simp only[bA,beq_iff_eq,AO] at h;obtain⟨⟨⟨⟨⟨⟨⟨⟨h1,h2⟩,B⟩,G⟩,I⟩,L⟩,U⟩,W⟩,h9⟩:=h;refine⟨hm,hn,h1,⟨h2,B,G,I,L,U⟩,W,λx hx=>?_⟩;obtain⟨a,q1,q2⟩:=uS ha x hx;obtain⟨g1,g2⟩:=h9 _ q2;exact⟨a,q1,g1,g2⟩
noncomputable def aBi(K:Fg)(C f:Addr):Bool:=
 (CO K (.ref C) "__setattr__" == some (some (.builtin "object.__setattr__")))&&(Jr K C (.type "object")==some true)&&(CO K (.ref C) "place" == some none)&&(CO K (.ref C) "__init__" == some (some (.ref f))) &&
 (match Jq K C with
 | some cd=>cd.hasDict&&(match cd.mro with|.ref C'::bm=>C'==C&&IJ K bmV bm|_=>false)|none=>false)&&Hk K C
theorem aLP(h:aBi K C f=true)(xc:XC K C):PlC K C f/\PlR K C:=by unfold aBi at h;simp only[bA,beq_iff_eq] at h;obtain⟨⟨⟨⟨⟨h1,h2⟩,G⟩,L⟩,B⟩,U⟩:=h;refine⟨⟨h1,h2,G,L,?_⟩,⟨xc,U,G⟩⟩;split at B;rename_i cd W;obtain⟨g1,g2⟩:=(bA _ _).mp B;split at g2;rename_i C' bm hm;obtain⟨g3,I⟩:=(bA _ _).mp g2;have e:=eq_of_beq g3;subst e;exact⟨cd,bm,W,g1,hm,I⟩;cases g2;cases B
end
end Hp
end
namespace Hp
open PySem PySem.Spec PyProof.Rows L2
def ER(w:AV)(K:Fg)(e:E5)(p:Str×D):Prop:=e.hash=Kx w p.1/\(∃tk,e.key=.str p.1 tk)/\∃v,bV v e.val/\∀(H:Hp) (ex:Addr->Prop),Rep K H ex p.2 v
theorem uT{K:Fg}{ex:Addr->Prop}:∀xs:List Str,Reps K H ex (xs.map D.str) (xs.map V.str)
 | []=>rfl|x::xs=>⟨.str x,xs.map V.str,rfl,rfl,uT xs⟩
theorem aFY{K:Fg}{B:Array Value}(h:K.lookup b=some ⟨.type "tuple",od,.seq B n,sl⟩)(xs:List Str)(I:B.size<=1000)(G:bJ (xs.map V.str) B.toList) :
 ∀(H:Hp) (ex:Addr->Prop),Rep K H ex (.tup (xs.map D.str)) (.ref b):=λH ex=>
 ⟨b,xs.map V.str,rfl,.inr ⟨_,B,n,h,rfl,rfl,AJ I (by decide),G⟩,uT xs⟩
theorem aFZ{prog:AB}{w:AV}{K:Fg}:∀{es:List E5} {t:List (Str×D)},Fc (ER w K) es t->∃vs:List (Key×Value),(∀e∈es,∃k:Key,(bX prog w).is k e.key=true/\e.hash=(bX prog w).hash k) /\
 Pairs (bX prog w) es vs/\vs.map (·.1)=t.map (λp=>(BP p.1:Key)) /\
 ∀k:Str,(t.lookup k=none/\FG vs (BP k:Key)=none)\/∃d u v,t.lookup k=some d/\FG vs (BP k:Key)=some u/\bV v u/\∀(H:Hp) (ex:Addr->Prop),Rep K H ex d v
 | _,_,.nil=>⟨[],λe G=>absurd G (by simp),.nil,rfl,λk=>.inl ⟨rfl,rfl⟩⟩
 | e::es,p::t,.cons ⟨h1,⟨tk,h2⟩,v,h3,h4⟩ r=>by
  obtain⟨vs,g1,g2,g3,L⟩:=aFZ r;refine⟨(BP p.1,e.val)::vs,λI G=>?_,.cons (by rw[h2];exact kM p.1 tk) rfl g2,by rw[mC,mC,g3],λk=>?_⟩;rcases As.mp G with rfl|G;exact⟨BP p.1,(by rw[h2];exact kM p.1 tk),h1⟩;exact g1 I G;by_cases B:k=p.1;subst B;refine .inr ⟨p.2,e.val,v,?_,?_,h3,h4⟩;obtain⟨a,b⟩:=p;simp[En];simp[FG];have U:(p::t).lookup k=t.lookup k:=by obtain⟨a,b⟩:=p;have:=beq_eq_false_iff_ne.mpr B;simp[En,this]
  have W:FG ((BP p.1,e.val)::vs) (BP k:Key)=FG vs (BP k:Key):=by unfold FG;have:decide ((BP p.1:Key)=BP k)=false:=Az λz=>B (HR z).symm;rw[List.find?_cons];simp only[this]
  rw[U,W];exact L k
theorem aLQ{K:Fg}{es:Array E5}{t:List (Str×D)}(hs:(a==DY)=false)(h:K.lookup a=some ⟨.type "dict",none,.dict es ep,#[]⟩)(hp:Fc (ER w K) es.toList t)(G:(t.map (·.1)).Nodup):uE prog w K a t:=by
 obtain⟨vs,g1,g2,g3,I⟩:=aFZ hp;refine⟨hs,vs,λU X=>⟨_,es,ep,X a _ h,⟨rfl,rfl,rfl⟩,rfl,λe L=>g1 e (by simpa using L),g2,?_⟩,I⟩;rw[g3];have e:t.map (λp=>(BP p.1:Key))=(t.map (·.1)).map BP:=by rw[A4];rfl
 rw[e];unfold List.Nodup at G ⊢;rw[List.pairwise_map];exact G.imp λB z=>B (HR z)
end Hp
namespace Hh
open PySem PySem.W PySem.Calls PyProof.Rows
def go(st:Gs->IX->Option (Gs×IX))(ok:IX->Bool)(n:Nat):Gs->IX->Option Gs:=
 @Nat.rec (λ_=>Gs->IX->Option Gs) (λ_ _=>none) (λ_ ih s t=>match K9 t with
  | true=>some s|false=>match ok t with
   | false=>none|true=>match st s t with
    | some (s',t')=>ih s' t'|none=>none) n
theorem pC{tb:String->Option Builtin}:∀(n:Nat) (s B:Gs) (t:IX),go (KA (JG tb) p w) (JH n₀ ann) n s t=some B->topRun tb p w n₀ ann n s.abs t=some B.abs
 | 0,_,_,_,h=>by cases h|n+1,s,B,t,h=>by
  have h:(match K9 t with
   | true=>some s|false=>match JH n₀ ann t with
    | false=>none|true=>match KA (JG tb) p w s t with
     | some (B,t')=>go (KA (JG tb) p w) (JH n₀ ann) n B t'|none=>none)=some B:=h
  unfold topRun;cases I:K9 t with
  | true=>rw[I] at h;cases h;rfl|false=>
   rw[I] at h;cases G:JH n₀ ann t with
   | false=>rw[G] at h;cases h|true=>
    rw[G] at h;cases hs:KA (JG tb) p w s t with
    | none=>rw[hs] at h;cases h|some r=>obtain⟨L,U⟩:=r;rw[hs] at h;rw[stepT_spec hs];exact pC n _ _ _ h
noncomputable def bt(l:List Obj)(n:Nat):Nat->Nat->BT:=
 @Nat.rec (λ_=>Nat->Nat->BT) (λ_ _=>.nil) (λ_ ih a b=>match l[b]? with
  | some o=>.node o (ih (2*a) (a+b)) (ih (2*a) (2*a+b))|none=>.nil) n
noncomputable def aGa{α:Type}(p q:AB)(loose:List Str)(Xt:Ad->Bool)(Yf:Ad->α)(h0:Heap)(s:Ad):=
 ((J0 (FP p.main.body) h0 s.heap&&IY p s.heap&&Ke s&&Kf h0 s.heap),openSeen q loose (FP p.main.body) Xt true s,Yf s)
theorem aIA{p q:AB}{G:List Str}{W:Ad->Bool}{α:Type}{Yf:Ad->α}{Ya:AV->α}{N B:Nat}{U:Option Value}{I:Kw->BT}{L:Life}(e:opening p=plainProg p.main.scope.names)(hN:Nat.ble 600 N=true)(f:∀s,Js p s=some s)
 (hb:∀P,absHeap (I P) B L=Ca P) (hz:∀P:Kw,((Ca P).isNs AG,(Ca P).objs.size,(Ca P).nsMap AG "__annotations__")=(true,B,U))
 (h:∀(w:AV) (os:FH),(go (KA (JG HL) p w) (JH B U) N ⟨I w.params,B,L,IZ [],GM,HM,os⟩ (KB p)).map (λs=>aGa p q G W Yf (Ca w.params) s.abs)=some (true,Kg q G,Ya w)):KJ p q G W Yf Ya N:=λw=>by
 obtain⟨⟨hh,gs,d,k,os⟩,e1,e2⟩:=Bb.mp (boot_open e hN f w);simp only[Cu] at e2;obtain⟨rfl,rfl,rfl,rfl⟩:=e2;obtain⟨s,g1,g2⟩:=Bb.mp (h w os);have r:=pC N _ _ _ g1;have r:topRun HL p w B U N ⟨Ca w.params,IZ [],GM,HM,os⟩ (KB p)=some s.abs:=by rw[<-hb];exact r
 have z:=hz w.params;simp only[Cu] at z;obtain⟨z1,z2,z3⟩:=z;unfold aGa at g2;simp only[Cu] at g2;obtain⟨l1,l2,l3⟩:=g2;have t:KC HL p w N ⟨Ca w.params,IZ [],GM,HM,os⟩=some s.abs:=by unfold KC;dsimp only;rw[z1,z2,z3,r];show(match J0 (FP p.main.body) (Ca w.params) s.abs.heap&&IY p s.abs.heap&&Ke s.abs&&Kf (Ca w.params) s.abs.heap with|true=>_|false=>_)=_;rw[l1]
 unfold openEnds;rw[e1];show(KC HL p w N _).map _=_;rw[t];exact congrArg some (KH l2 l3)
def T0(P:Kw):BT:=bt (Ca P).objs.toList 5 1 0
theorem aLR:∀P,absHeap (T0 P) 11 {}=Ca P:=λP=>by kernel_rfl
theorem aIB:∀P:Kw,((Ca P).isNs AG,(Ca P).objs.size,(Ca P).nsMap AG "__annotations__")=(true,11,some (.ref 6)):=λP=>by kernel_rfl
abbrev aOG:=@PySem.W.Fast.tw10156331382660048174
abbrev qOk:=@PySem.W.Fast.tw6613529449190102663
abbrev aQB:=@PySem.W.Fast.tw11892475500146522536
abbrev aQC:=@PySem.W.Fast.tw14364793385576792824
abbrev aOH:=@PySem.W.Fast.tw4187177175401517315
abbrev aOI:=@PySem.W.Fast.tw5923862056798008813
def aOJ{α:Type}(p q:AB)(loose:List Str)(Yf:Ad->α)(N:Nat)(w:AV)(os:FH):=
 (go (aOG (aQB aQC) p w) (qOk 11 (some (.ref 6))) N ⟨T0 w.params,11,{},IZ [],GM,HM,os⟩ (KB p)).map λs=>((J0 (aOI p.main.body) (Ca w.params) s.abs.heap&&IY p s.abs.heap&&Ke s.abs&&Kf (Ca w.params) s.abs.heap),aOH q loose (aOI p.main.body) (λ_=>true) true s.abs,Yf s.abs)
theorem aLS{p q:AB}{B:List Str}{α:Type}{I:Ad->α}{G:AV->α}{N:Nat}(e:opening p=plainProg p.main.scope.names)(L:Nat.ble 600 N=true)(f:∀s,Js p s=some s)
 (h:∀w os,aOJ p q B I N w os=some (true,Kg q B,G w)):KJ p q B (λ_=>true) I G N:=by refine aIA e L f aLR aIB λw os=>?_;unfold aGa;rw[G5,GN,G6,G7,GO,GP];exact h w os
end Hh
namespace Hh
open PySem PySem.W PySem.Calls PyProof.Rows L2 Hp
def fT(h:Heap):Ai:=(Ap h.objs.size).filterMap λa=>(h.get? a).map λo=>(a,o)
theorem sC{α:Type}(f:Nat->Option α)(a:Nat):∀n,((Ap n).filterMap λi=>(f i).map λo=>(i,o)).lookup a=if a<n then f a else none
 | 0=>rfl|n+1=>by
  rw[Ij,Dq,List.lookup_append,sC f a n];by_cases h:a<n;rw[if_pos h,if_pos (B4 h)];cases q:f a with
  | some o=>rfl|none=>
   cases B:f n with
   | none=>simp[B]|some o=>simp[B,En,(beq_eq_false_iff_ne.mpr (Aw h))]
  rw[if_neg h];by_cases e:a=n;subst e;cases q:f a with
  | none=>simp[q]|some o=>simp[q]
  rw[if_neg (by omega)];cases B:f n with
  | none=>simp[B]|some o=>simp[B,En,(beq_eq_false_iff_ne.mpr e)]
theorem cJ(h:Heap)(a:Addr):(fT h).lookup a=h.get? a:=by
 unfold fT;rw[sC];by_cases q:a<h.objs.size;rw[if_pos q];rw[if_neg q];cases e:h.get? a with
 | none=>rfl|some o=>exact absurd (Ag e) q
theorem aCu{h h':Heap}(k:∀b o,h.get? b=some o->h'.get? b=some o):(fT h).In h':=λa o e=>k a o (by rw[<-cJ];exact e)
def iF(h:Heap)(x:Str):Option (Option Value):=match h.get? AG with
 | some ⟨_,_,.dict es _,_⟩=>(match es.toList.find? (λe=>match e.key with|.str y _=>Hs y x|_=>false) with
  | some e=>some (some e.val)|none=>if es.toList.any (·.refKey) then none else some none)
 | _=>none
theorem aGb(v:Value)(x:Str):v.isStr x=(match v with|.str y _=>Hs y x|_=>false):=by
 cases v with
 | str y t=>show(y==x)=Hs y x;rw[Dg,beq_iff_eq,JI]|_=>rfl
theorem dU(h:Heap)(x:Str):nsIn (fT h) AG x=iF h x:=by unfold nsIn iF;rw[cJ];simp only[aGb];rfl
noncomputable def nB(h:Heap)(cd:Value):Option Str:=match cd with
 | .ref c=>(match h.get? c with
  | some ⟨_,_,.fields vs,_⟩=>(match vs.toList with|_::.str n _::_=>some n|_=>none)
  | _=>none)
 | _=>none
theorem uU(e:nB h cd=some q):codeIn (fT h) cd q=true:=by unfold nB at e;unfold codeIn;split at e;rename_i c;simp only[cJ];split at e;rename_i vs _ B;rw[B];split at e;rename_i a n t r G;cases e;simp only[G,beq_self_eq_true];cases e;cases e;cases e
abbrev Pin:=Str×Str×Gp×FuncBody×DA×Addr×List (Str×Addr)×Value×Addr×Option Str
def aBj(h:Heap)(x:Str):Option Pin:=match iF h x with
 | some (some (.ref a))=>(match h.get? a with
  | some ⟨_,_,.func fd,_⟩=>some (fd.name,fd.qualname,fd.params,fd.body,fd.scope,fd.globals,fd.closure,fd.defaults,fd.builtins,nB h fd.code)|_=>none)
 | _=>none
def cO(s:Cj):Str:=match s with|.FunctionDef x _ _ _ _ _ _ _ _ _=>x|_=>⟨#[]⟩
def aGc(st:Cj):Pin:=(cO st,cO st,fK st,.stmts (iT st),bK st,AG,[],.none,Fz,some (cO st))
theorem aIC{h:Heap}{st:Cj}(e:aBj h (cO st)=some (aGc st)):∃fa fd,nsIn (fT h) AG (cO st)=some (some (.ref fa))/\Fun (fT h) (cO st) (cO st) st fa fd:=by unfold aBj at e;split at e;rename_i a I;split at e;rename_i c d fd sl B;obtain⟨n,qn,ps,b,sc,g,W,df,L,doc,pm,an,cd,ct,U⟩:=fd;unfold aGc at e;simp only[Ci,Cu] at e;obtain⟨rfl,rfl,rfl,rfl,rfl,rfl,rfl,rfl,rfl,G⟩:=e;refine⟨a,_,by rw[dU];exact I,⟨⟨c,d,L,doc,pm,an,cd,ct,sl,rfl,by rw[cJ];exact B,uU G⟩,?_⟩⟩;unfold keepIn;simp only[cJ,B];cases e;cases e
theorem sD{α:Type}{x:Str}{u:α}:∀{ps:List Str} {us:List α},ps.Nodup->ps.length=us.length->(x,u)∈ps.zip us->(ps.zip us).lookup x=some u
 | [],_,_,_,h=>by simp at h|p::ps,[],_,h,_=>by simp at h|p::ps,v::us,hn,hl,h=>by rw[Bf] at h ⊢;obtain⟨h1,h2⟩:=Ck.mp hn;rcases As.mp h with h|h;cases h;simp[En];have hx:=(DG h).1;have:(x==p)=false:=beq_eq_false_iff_ne.mpr λz=>h1 (z▸hx);simp only[En,this];exact sD h2 (by simpa using hl) h
theorem aGd{α:Type}(L:List (Str×α)):∀{ps:List Str} {us:List α},ps.length=us.length->(∀p∈ps.zip us,L.lookup p.1=some p.2)->(ps.filterMap λn=>(L.lookup n).map (n,·))=ps.zip us
 | [],_,_,_=>by simp|p::ps,[],h,_=>by simp at h|p::ps,v::us,hl,h=>by rw[Bf,Cp,h (p,v) (by simp),aGd L (by simpa using hl) λq B=>h q (by rw[Bf];exact Aj _ B)];rfl
theorem aGe{α:Type}(L:List (Str×α)):∀{ps:List Str} {us:List α},ps.length=us.length->(∀p∈ps.zip us,L.lookup p.1=some p.2)->(ps.filter λn=>(L.lookup n).isNone)=[]
 | [],_,_,_=>by simp|p::ps,[],h,_=>by simp at h|p::ps,v::us,hl,h=>by rw[List.filter_cons,h (p,v) (by simp),aGe L (by simpa using hl) λq B=>h q (by rw[Bf];exact Aj _ B)];rfl
def fF(a:Gp)(ps:List Str):Bool:=match a with|⟨[],as,none,[],[],none,[]⟩=>decide (as.map (·.arg)=ps)&&decide ps.Nodup|_=>false
theorem mF{x q:Str}{a:Gp}{b:List Cj}{sc:DA}{kV doc pm:Value}{an:Option Addr}{cdv ct:Value}{ps:List Str}{us:List Value}(h:fF a ps=true)(B:us.length=ps.length) :
 Iz (fnOf x q a b sc .none kV doc pm an cdv ct) ⟨us,[]⟩=pure (ps.zip us):=by
 unfold fF at h;split at h;rename_i as;obtain⟨h1,h2⟩:=Bool.and_eq_true_iff.mp h;have h2:=of_decide_eq_true h2;unfold Iz;have G:∀s:Value,s=.none->(Jz s)=pure none:=λs e=>by subst e;rfl
 simp only[mN,DH,(of_decide_eq_true h1),G,Gj,pure_bind,B,AU,decide_false,E8,Fp,lN,List.drop_nil,FF,BZ,(aGe (ps.zip us) B.symm (λp hp=>sD h2 B.symm hp)),Ee,Dl,GB,C9,(aGd (ps.zip us) B.symm (λp hp=>sD h2 B.symm hp)),if_false,bF];cases h
def zX(s:Cj):Bool:=match s with|.FunctionDef _ _ _ _ _ _ _ _ _ _=>true|_=>false
def aGf:D->Value->Bool
 | .int i,.int j _=>decide (i=j)|.str a,.str b _=>Hs a b|.non,.none=>true|.bl a,.bool b=>a==b|_,_=>false
def aBk(h:Heap)(c:Str×D):Bool:=match iF h c.1 with|some (some u)=>aGf c.2 u|_=>false
def nC:Value->Option Str
 | .str x _=>some x|_=>none
abbrev aGg:=Int×Option Str×Option (Value×List (Option Str))
noncomputable def qD(h:Heap)(e:E5):aGg:=(e.hash,nC e.key,match e.val with
 | .ref b=>(match h.get? b with
  | some ⟨c,_,.seq its _,_⟩=>some (c,its.toList.map nC)|_=>none)
 | _=>none)
def wV(h:Heap)(x:Str):Option (Bool×Value×Option Addr×Array (Option Value)×List aGg):=match iF h x with
 | some (some (.ref a))=>(match h.get? a with
  | some ⟨c,d,.dict es _,sl⟩=>some (a==DY,c,d,sl,es.toList.map (qD h))|_=>none)
 | _=>none
def wW(w:AV)(p:Str×List Str):aGg:=(Kx w p.1,some p.1,some (.type "tuple",p.2.map some))
def aBl(w:AV)(t:List (Str×List Str)):Option (Bool×Value×Option Addr×Array (Option Value)×List aGg):=some (false,.type "dict",none,#[],t.map (wW w))
def aDR(t:List (Str×List Str)):List (Str×D):=t.map λp=>(p.1,.tup (p.2.map D.str))
theorem aCv:∀{us:List Value} {xs:List Str},us.map nC=xs.map some->bJ (xs.map V.str) us
 | [],[],_=>.nil|[],_::_,h=>by cases h|_::_,[],h=>by cases h|u::us,x::xs,h=>by rw[mC] at h;obtain⟨h1,h2⟩:=Jt h;refine .cons ?_ (aCv h2);unfold nC at h1;split at h1;cases h1;exact⟨_,rfl⟩;cases h1
theorem aLT{p:Str×List Str}(q:qD h e=wW w p)(hl:p.2.length<=1000):ER w (fT h) e (p.1,.tup (p.2.map D.str)):=by unfold qD wW at q;simp only[Cu] at q;obtain⟨q1,G,B⟩:=q;refine⟨q1,?_,?_⟩;unfold nC at G;split at G;rename_i y tk I;exact⟨tk,by rw[I];exact congrArg (λz=>Hv z tk) (Aq G)⟩;cases G;split at B;rename_i b I;split at B;rename_i c d q0 n sl ho;have B:=Aq B;simp only[Cu] at B;obtain⟨W,L⟩:=B;subst W;have U:=congrArg EU L;rw[lM,lM] at U;exact⟨.ref b,by rw[I];rfl,aFY (by rw[cJ];exact ho) p.2 (by rw[<-Bj,U];exact hl) (aCv L)⟩;cases B;cases B
theorem uV:∀{es:List E5} {t:List (Str×List Str)},es.map (qD h)=t.map (wW w)->(∀p∈t,p.2.length<=1000)->Fc (ER w (fT h)) es (aDR t)
 | [],[],_,_=>.nil|[],_::_,q,_=>by cases q|_::_,[],q,_=>by cases q|e::es,p::t,q,hl=>by rw[mC] at q;obtain⟨h1,h2⟩:=Jt q;exact .cons (aLT h1 (hl p (Ar ..))) (uV h2 λB hp=>hl B (Aj _ hp))
def aCw(t:List (Str×List Str)):Bool:=(t.all λp=>decide (p.2.length<=1000))&&decide (t.map (·.1)).Nodup
theorem aGh(e:wV h x=aBl w t)(ok:aCw t=true):∃a,nsIn (fT h) AG x=some (some (.ref a))/\uE prog w (fT h) a (aDR t):=by unfold aCw at ok;rw[bA,AO] at ok;unfold wV aBl at e;split at e;rename_i a I;split at e;rename_i c d es ep sl L;have e:=Aq e;simp only[Cu] at e;obtain⟨B,rfl,rfl,rfl,G⟩:=e;refine⟨a,(dU h x).trans I,aLQ B (by rw[cJ];exact L) (uV G λp hp=>of_decide_eq_true (ok.1 p hp)) ?_⟩;unfold aDR;rw[A4];exact of_decide_eq_true ok.2;cases e;cases e
def nD(h:Heap):List Str->Option (List Addr)
 | []=>some []|x::xs=>match iF h x,nD h xs with|some (some (.ref a)),some as=>some (a::as)|_,_=>none
def aCx(h:Heap)(above:List (Str×List Cl))(cls:List Str):Bool:=match nD h cls with
 | some as=>(as.all λa=>lV (fT h) a)&&above.all λca=>match iF h ca.1 with|some (some (.ref C))=>sB (fT h) C (as.zip (cls.map λx=>ca.2.contains (.own x))) (ca.2.contains .tValueError)|_=>false
 | none=>false
def aID(h:Heap)(cs:List Str):Bool:=cs.all λc=>match iF h c with|some (some (.ref C))=>excIn (fT h) C bmV "ValueError.__new__"|_=>false
def sF(p:AB)(i:Nat):Cj:=match p.main.body.getD i (.Pass ⟨0,0,0,0⟩) with|.ClassDef _ _ _ (st::_) _ _ _ _ _ _ _=>st|st=>st
def aBm(st:Cj)(q:Str):Pin:=(cO st,q,fK st,.stmts (iT st),bK st,AG,[],.none,Fz,some q)
def wX(h:Heap)(x:Str):Option (Bool×Pin):=match iF h x with
 | some (some (.ref C))=>(match CL (fT h) (.ref C) "__init__" with
  | some (some (.ref f))=>(match h.get? f with
   | some ⟨c,_,.func fd,_⟩=>some ((c==.type "function")&&sB (fT h) C [] true&&aBi (fT h) C f,(fd.name,fd.qualname,fd.params,fd.body,fd.scope,fd.globals,fd.closure,fd.defaults,fd.builtins,nB h fd.code))|_=>none)
  | _=>none)
 | _=>none
theorem aGi{B h:Heap}{mg:Str->Option Value}(X:(fT B).In h)(G:h.Ns AG mg){x q n1 n2:Str}{st:Cj}(e:wX B x=some (true,aBm st q))(hn:cO st = "__init__")(hi:lY st n1 n2=true)(ha:fF (fK st) [n1,n2]=true):aCi (fT B) mg x:=by
 unfold wX at e;split at e;rename_i C U;split at e;rename_i f hf;split at e;rename_i c d fd sl ho;obtain⟨n,qn,ps,b,sc,g,W,df,kd,doc,pm,an,cd,ct,bn⟩:=fd;unfold aBm at e;simp only[Ci,Cu,bA] at e;obtain⟨⟨⟨e1,L⟩,e3⟩,e4,rfl,rfl,rfl,rfl,rfl,rfl,rfl,rfl,hc⟩:=e;unfold sB at L;simp only[bA,beq_iff_eq] at L;obtain⟨⟨⟨⟨⟨⟨⟨⟨k1,k2⟩,k3⟩,k4⟩,k5⟩,k6⟩,k7⟩,_⟩,_⟩:=L;obtain⟨p1,p2⟩:=aLP e3 ⟨k2,k3,k4,k5,k6,k7⟩;have I:=(dU B x).trans U;have F:Fun (fT B) "__init__" qn st f _:=⟨⟨c,d,kd,doc,pm,an,cd,ct,sl,rfl,by rw[cJ,ho,e4,hn],uU hc⟩,by unfold keepIn;simp only[cJ,ho]⟩
 exact⟨C,f,qn,st,_,n1,n2,mg_of X G I,I,k1,p1,p2,F,hi,F.binds λkV doc pm an cdv ct us hl=>mF ha hl,_,(cJ B f).trans ho,eq_of_beq e1⟩;cases e;cases e;cases e
structure Sn where
 cns:List (Str×D)
 tbs:List (Str×List (Str×List Str))
 above:List (Str×List Cl)
 cls:List Str
 rsd:List Str
 pls:List (Str×Nat×Str×Str×Str)
abbrev aJJ:=List (Option Pin)×List (Option (Option Value))×Bool×List (Option (Bool×Value×Option Addr×Array (Option Value)×List aGg))×Bool×Bool×List (Option (Bool×Pin))
def kX(p:AB)(n:Sn)(h:Heap):aJJ:=
 ((p.main.body.filter zX).map (λst=>aBj h (cO st)),bltNames.map (iF h),n.cns.all (aBk h),n.tbs.map (λq=>wV h q.1),aCx h n.above n.cls,aID h n.rsd,n.pls.map λq=>wX h q.1)
def oR(p:AB)(n:Sn)(w:AV):aJJ:=
 ((p.main.body.filter zX).map (λst=>some (aGc st)),bltNames.map (λ_=>some none),true,n.tbs.map (λq=>aBl w q.2),true,true,n.pls.map λq=>some (true,aBm (sF p q.2.1) q.2.2.1))
def zY(p:AB)(i:Nat):Cj:=p.main.body.getD i (.Pass ⟨0,0,0,0⟩)
def pR(p:AB)(c:Nat×List Str):Tx:=⟨cO (zY p c.1),cO (zY p c.1),zY p c.1,c.2⟩
theorem aLU{p:AB}(h:zX (zY p i)=true):zY p i∈p.main.body:=by
 unfold zY at h ⊢;rw[Am] at h ⊢;cases e:p.main.body[i]? with
 | none=>rw[e] at h;cases h|some s=>exact mG e
theorem aIE{c:Str×D}(e:aBk h c=true):∃u v,nsIn (fT h) AG c.1=some (some u)/\bV v u/\∀H ex,Rep (fT h) H ex c.2 v:=by unfold aBk at e;split at e;rename_i u B;obtain⟨x,d⟩:=c;have e:aGf d u=true:=e;unfold aGf at e;split at e;cases of_decide_eq_true e;exact⟨_,.int _,(dU _ _).trans B,⟨_,rfl⟩,λ_ _=>rfl⟩;cases JI.mp e;exact⟨_,.str _,(dU _ _).trans B,⟨_,rfl⟩,λ_ _=>rfl⟩;exact⟨_,.non,(dU _ _).trans B,rfl,λ_ _=>rfl⟩;cases eq_of_beq e;exact⟨_,.bl _,(dU _ _).trans B,rfl,λ_ _=>rfl⟩;cases e;cases e
theorem aCy{B h:Heap}{mg:Str->Option Value}(X:(fT B).In h)(G:h.Ns AG mg):∀{xs:List Str} {as:List Addr},nD B xs=some as->zW mg xs as
 | [],as,e=>by cases e;trivial|x::xs,as,e=>by unfold nD at e;split at e;rename_i a I L U;cases e;exact⟨mg_of X G ((dU B x).trans L),aCy X G U⟩;cases e
theorem uW{mg:Str->Option Value}:∀{xs:List Str} {as:List Addr},zW mg xs as->∀x∈xs,∃a,mg x=some (.ref a)/\a∈as
 | [],_,_,x,hx=>by cases hx|y::ys,[],h,_,_=>h.elim|y::ys,a::as,h,x,hx=>by rcases As.mp hx with rfl|hx;exact⟨a,h.1,Ar⟩;obtain⟨b,h1,h2⟩:=uW h.2 x hx;exact⟨b,h1,Aj _ h2⟩
theorem aLV{prog p:AB}{w:AV}{I h:Heap}{mg:Str->Option Value}{P:Pg}{Γ:Ct}{ix:List (Nat×List Str)}{n:Sn}(S:kX p n I=oR p n w)(k:∀b o,I.get? b=some o->h.get? b=some o)(G:h.Ns AG mg)
 (hi:(ix.all λc=>zX (zY p c.1))=true) (h1:Γ.fns=(ix.map (pR p)).map (·.x)) (h2:Γ.cns=n.cns) (h3:Γ.tbs=n.tbs.map (·.1)) (h4:P.tabs=n.tbs.map λq=>aDR q.2) (h5:(n.tbs.all λq=>aCw q.2)=true) (h6:P.above=n.above) (h7:Γ.cls=n.cls) (h8:Γ.rsd=n.rsd) (h9:Γ.pls=n.pls.map (·.1)) (q0:(n.pls.all λq=>(cO (sF p q.2.1) == "__init__")&&lY (sF p q.2.1) q.2.2.2.1 q.2.2.2.2&&fF (fK (sF p q.2.1)) [q.2.2.2.1,q.2.2.2.2])=true)
 (hb:((P.fns.zip (ix.map (pR p))).all λq=>fF (fK q.2.st) (q.2.N.take q.1.np))=true) (chk:oQ Γ P.fns (ix.map (pR p))=true) :
 Top prog w (fT I) mg P Γ (ix.map (pR p)):=by
 unfold kX oR at S;simp only[Cu] at S;obtain⟨s1,s2,s3,s4,L,s6,s7⟩:=S;have X:=aCu k;unfold aCx at L;split at L;rename_i as hr;have ma:=aCy X G hr;rw[bA,AO,AO] at L;obtain⟨s8,L⟩:=L;exact {
  fn:=λf t ht=>by rw[A3] at ht;obtain⟨c,B,rfl⟩:=Bb.mp ht;have hd:=AO.mp hi c (mG B);obtain⟨fa,fd,g1,g2⟩:=aIC (DU.mp s1 _ (BK.mpr ⟨aLU hd,hd⟩));refine⟨fa,fd,mg_of X G g1,g2,λF hF=>g2.binds λkV doc pm an cdv ct us hl=>mF (AO.mp hb (F,pR p c) (mG (i:=f) ?_)) hl⟩;rw[D6];exact⟨hF,by rw[A3,B];rfl⟩
  fns:=λf x hx=>by rw[h1,A3] at hx;obtain⟨t,ht,rfl⟩:=Bb.mp hx;exact⟨t,ht,rfl⟩
  blt:=λx hx=>mg_none_of X G ((dU I x).trans (DU.mp s2 x hx))
  cns:=λx d hx=>by rw[h2] at hx;obtain⟨u,v,g1,g2⟩:=aIE (AO.mp s3 _ (B0 hx));exact⟨u,v,mg_of X G g1,g2⟩
  tab:=λi x hx=>by rw[h3,A3] at hx;obtain⟨q,W,rfl⟩:=Bb.mp hx;have hm:=mG W;obtain⟨a,g1,g2⟩:=aGh (DU.mp s4 q hm) (AO.mp h5 q hm);exact⟨a,aDR q.2,mg_of X G g1,by rw[h4,A3,W];rfl,g2⟩
  exc:=λc ab B=>by rw[h6] at B;have z:=L (c,ab) (B0 B);split at z;rename_i C U;refine⟨C,aFX (as:=as) (mg_of X G ((dU I c).trans U)) ((dU I c).trans U) ?_ ?_⟩;rw[h7];exact z;rw[h7];exact ma;cases z
  rsd:=λc B=>by have z:=AO.mp s6 c (by rw[<-h8];exact B);split at z;rename_i C U;exact⟨C,mg_of X G ((dU I c).trans U),(dU I c).trans U,z⟩;cases z
  pls:=λc B=>by rw[h9] at B;obtain⟨q,W,rfl⟩:=A0.mp B;have z:=AO.mp q0 q W;simp only[bA,beq_iff_eq] at z;exact aGi X G (DU.mp s7 q W) z.1.1 z.1.2 z.2
  cls:=λx hx=>by obtain⟨a,g1,g2⟩:=uW ma x (by rw[<-h7];exact hx);exact⟨a,g1,s8 a g2⟩
  chk:=chk }
 cases L
theorem aGj{l:Ik}{XP:(Str->Option Value)->Heap->Prop}{YP:AV->Heap->Prop}{d:DefRec}{sp:Ai->Sp}(hn:l.most=some n)(q0:n<=sizeLine)(U:d.params.defaults=[])(hr:lH k FB)
 (F:∀(w:AV) (mg:Str->Option Value) (fa:Addr) (h:Heap),YP w h->h.Ns AG mg->mg d.name=some (.ref fa)->∃K:Ai,K.In h/\∃fd:E9,(∀(s:Ad) (u:Value),J4 s fd ⟨[u],[]⟩ [(x,u)])/\∀base:Heap,K.In base->base.Ns AG mg->vS l.prog w K mg base (CX1 l.prog w) k fa fd [x] (sp K))
 (q1:∀(K:Ai) (H:Hp) (a:Addr) (ns:List Int),ns.length<=n->aHL H->SqL K H a (ns.map V.int)->sp K [.ref a] H (λv _=>v=.bl true) λ_ _ _=>False):PySem.W.WalkO q loose XP YP l.row.toRowW d [] (λf vs=>IG f vs):=by refine Att.attach_call hn U λw s₀ q2 mg mb fa o pm cd doc a vs ns G Y ho hd q3 W L I B hg=>?_;obtain⟨K,KX,fd,hb,hF⟩:=F w mg fa _ Y G.T.g W;exact aEK KX G.T.g G.T.b G.T.builtins G.T.nolimit hg L I (AJ B q0) hr hF hb (λH hO hS=>q1 K H a ns B hO hS) λ_ _ _ z=>aDQ z
def lst(p:AB):Cj:=p.main.body.getLastD (.Pass ⟨0,0,0,0⟩)
def uX(p:AB):AB:={ p with main:={ p.main with body:=[lst p] } }
def wY(p:AB):List Str:=(p.main.scope.names.map (·.1)).filter λx=>!(Hs x (cO (lst p)))
def aLW(s:Cj):Ht:=match s with|.FunctionDef _ _ _ _ _ _ _ _ _ p=>p|_=>⟨0,0,0,0⟩
def mH(p:AB):DefRec:=⟨cO (lst p),fK (lst p),iT (lst p),bK (lst p),aLW (lst p)⟩
theorem aLX{l:Ik}{P:Pg}{n:Sn}{ix:List (Nat×List Str)}{k f N:Nat}{x:Str}{sl:List Str}(q0:l.row.wellSaid=true)(W:KJ l.prog (uX l.prog) (wY l.prog) (λ_=>true) (λs=>kX l.prog n s.heap) (λw=>oR l.prog n w) N)
 (U:defOf (uX l.prog) l.name=some (mH l.prog,[])) (hp:l.prog.theDef l.name=some ((mH l.prog).params,(mH l.prog).body,(mH l.prog).scope)) (hk:kwWritten? (mH l.prog).params.kwonlyargs (mH l.prog).params.kw_defaults=some []) (q5:(!l.writes||([]:WRecords).isEmpty)=true)
 (ok:(chainsOk (uX l.prog)&&opensWell l.prog&&(frees l.row.toRowW&&l.row.within.isEmpty))=true) (hb:l.prog.bare) (hw:l.row.toRowW.promised) (hn:l.most=some 63) (q2:(mH l.prog).params.defaults=[])
 (hi:(ix.all λc=>zX (zY l.prog c.1))=true) (L:((P.fns.zip (ix.map (pR l.prog))).all λq=>fF (fK q.2.st) (q.2.N.take q.1.np))=true) (chk:oQ ⟨[],[],(ix.map (pR l.prog)).map (·.x),n.cns,n.cls,true,n.tbs.map (·.1),n.rsd,n.pls.map (·.1)⟩ P.fns (ix.map (pR l.prog))=true)
 (h4:P.tabs=n.tbs.map λq=>aDR q.2) (h5:(n.tbs.all λq=>aCw q.2)=true) (h6:P.above=n.above) (q1:(n.pls.all λq=>(cO (sF l.prog q.2.1) == "__init__")&&lY (sF l.prog q.2.1) q.2.2.2.1 q.2.2.2.2&&fF (fK (sF l.prog q.2.1)) [q.2.2.2.1,q.2.2.2.2])=true) (hr:lH (k+1) FB) (hx:(ix.map (pR l.prog))[f]? = some ⟨cO (lst l.prog),cO (lst l.prog),lst l.prog,x::sl⟩) (q4:(P.fns[f]?).map (·.np)=some 1)
 (pure:∀ns:List Int,ns.length<=63->∃fr pa,Hp.call P (k+1) f [.lst (ns.map D.int)]=.ok (.bl true,fr,pa)):l.row.Holds:=by refine holds_open (YP:=λw h=>∃B,kX l.prog n B=oR l.prog n w/\∀b o,B.get? b=some o->h.get? b=some o) W (λw s e=>⟨s.heap,e,λ_ _ z=>z⟩) (λw h h' ⟨B,e,k⟩ k'=>⟨B,e,λb o z=>k' b o (k b o z)⟩) (λ_ _=>trivial) (λ_ _ _ _ _=>trivial) U hp hk (λ_ _=>recFacts_nil rfl) q5 q0 ok hb hw ?_;obtain⟨F,hF,I⟩:=Bb.mp q4;refine aGj (x:=x) hn (by decide) q2 hr (λw mg fa h ⟨B,e,kk⟩ G q3=>?_) λK H a ns hl hO hS=>aLO hO hS (pure ns hl);have T:=aLV (prog:=l.prog) (Γ:=⟨[],[],(ix.map (pR l.prog)).map (·.x),n.cns,n.cls,true,n.tbs.map (·.1),n.rsd,n.pls.map (·.1)⟩) e kk G hi rfl rfl rfl h4 h5 h6 rfl rfl rfl q1 L chk;obtain⟨q6,fd,g1,g2,g3⟩:=T.fn f _ hx;cases(q3.symm.trans g1);refine⟨fT B,aCu kk,fd,λs u=>?_,λbase _ _=>?_⟩;obtain⟨oc,od,kV,doc,pm,an,cdv,ct,osl,rfl,lk,q7⟩:=g2.ex;refine .of_eq ((mF (ps:=[x]) ?_ rfl).trans rfl);have:=AO.mp L (F,_) (mG (D6.mpr ⟨hF,hx⟩));rw[I] at this;exact this;have:=aLN (base:=base) T hx hF g2 k;rw[I] at this;exact this
end Hh
namespace Hp
open PySem (Str Operator CmpOp)
@[simp] theorem aH {α B:Type} (a:α) (f:α->R B):((R.ok a:R α) >>= f)=f a:=id rfl
@[simp] theorem nE {α:Type} (x:R α):R.iff true x=x:=id rfl
@[simp] theorem aRp {α:Type} (x:α):R.of (some x)=.ok x:=id rfl
@[simp] theorem dD {α:Type} (a:α) (f:α->O):O.from Z (.ok a) f=f a:=id rfl
@[simp] theorem aLY (f:Sg->O):(O.next Z).on f=f Z:=id rfl
@[simp] theorem aGk (v:Vl) (f:Sg->O):(O.ret v).on f=.ret v:=id rfl
@[simp] theorem aA (d:D):ev P W Z (.c d)=.ok (.cl d):=id rfl
@[simp] theorem zZ (i:Nat):ev P W Z (.v i)=cT Z i:=id rfl
@[simp] theorem aOK (o:Operator) (a b:E):ev P W Z (.op o a b)=(ev P W Z a >>= λx=>ev P W Z b >>= λy=>opD o x y):=id rfl
@[simp] theorem aQD (a:E):ev P W Z (.neg a)=(ev P W Z a >>= λx=>match x.d with|.int i=>.ok (.cl (.int (-i)))|_=>.bad):=id rfl
@[simp] theorem aOL (a:E):ev P W Z (.nt a)=(ev P W Z a >>= λx=>iJ x >>= λk=>.ok (.cl (.bl (!k)))):=id rfl
@[simp] theorem aOM (a b:E):ev P W Z (.an a b)=(ev P W Z a >>= λx=>match x.d with|.bl true=>ev P W Z b|.bl false=>.ok (.cl (.bl false))|_=>.bad):=id rfl
@[simp] theorem aLZ (a b:E):ev P W Z (.orr a b)=(ev P W Z a >>= λx=>match x.d with|.bl true=>.ok (.cl (.bl true))|.bl false=>ev P W Z b|_=>.bad):=id rfl
@[simp] theorem aMa (t a b:E):ev P W Z (.ife t a b)=(tst P W Z t >>= λx=>if x then ev P W Z a else ev P W Z b):=id rfl
@[simp] theorem aMb (o:CmpOp) (a b:E):ev P W Z (.cmp o a b)=(ev P W Z a >>= λx=>ev P W Z b >>= λy=>match cZ o x.d y.d with|some k=>.ok (.cl (.bl k))|none=>.bad):=id rfl
@[simp] theorem aPo (o o':CmpOp) (a b c:E):ev P W Z (.cmp2 o o' a b c)=(ev P W Z a >>= λx=>ev P W Z b >>= λy=>match cZ o x.d y.d with
 | some true=>ev P W Z c >>= λz=>(match cZ o' y.d z.d with|some k=>.ok (.cl (.bl k))|none=>.bad)
 | some false=>.ok (.cl (.bl false))|none=>.bad):=id rfl
@[simp] theorem sG (a b:E):ev P W Z (.idx a b)=(ev P W Z a >>= λx=>ev P W Z b >>= λy=>eA x y):=id rfl
@[simp] theorem wZ (es:Es):ev P W Z (.tup es)=(evs P W Z es >>= λvs=>.ok (aBR vs)):=id rfl
@[simp] theorem xA (es:Es):ev P W Z (.lst es)=(evs P W Z es >>= λvs=>.ok (yM vs)):=id rfl
@[simp] theorem eH (f:Nat) (es:Es):ev P W Z (.call f es)=(evs P W Z es >>= λvs=>W f (vs.map (·.d)) >>= λr=>.ok (iU vs r)):=id rfl
@[simp] theorem aGl (b:Bi) (es:Es):ev P W Z (.bi b es)=(evs P W Z es >>= λvs=>biD b vs):=id rfl
@[simp] theorem aQE (a:E) (cs:List Cl):ev P W Z (.isi a cs)=(ev P W Z a >>= λx=>match isI cs P x.d with|some k=>.ok (.cl (.bl k))|none=>.bad):=id rfl
@[simp] theorem xB (a:E) (h:E):ev P W Z (.sli a .z (.k h .z))=(ev P W Z a >>= λx=>ev P W Z h >>= λh=>match h.d with|.int h=>.iff (aT h) (fA x none (some h))|_=>.bad):=by
 show(ev P W Z a >>= λx=>evs P W Z .z >>= λl=>evs P W Z (.k h .z) >>= λh=>_)=_;cases ev P W Z a with
 | ok x=>show((ev P W Z h >>= λx=>evs P W Z .z >>= λxs=>R.ok (x::xs)) >>= λh=>_)=_;cases ev P W Z h <;> rfl|exc e=>rfl|bad=>rfl
@[simp] theorem bT {α:Type} (a:α):(R.ok a).calm=R.ok a:=id rfl
theorem kY(k:Nat)(caps:List Nat)(t:T)(it:It)(cond:Es)(elt:E):ev P W Z (.comp k caps t it cond elt)=(walk P W Z it >>= λxs=>.iff (decide (xs.1.length<=lim)) (
 jR (λx=>cR (Af k .x++caps.map λi=>((freeze Z xs.2)[i]?).getD .x) x t >>= λB=>(tsts P W B cond).calm >>= λk=>if k then (ev P W B elt >>= λy=>.ok (some y)) else .ok none) xs.1 >>= λvs=>
 .ok (dW k caps xs.2 vs))):=rfl
@[simp] theorem aME (a:E):ev P W Z (.numset a)=(ev P W Z a >>= λx=>match x.d with
 | .lst ds=>(match gI ds with|some B=>.iff (decide (ds.length<=1000)) (.ok (.cl (.int (aAL B).length)))|none=>.bad)
 | _=>.bad):=id rfl
@[simp] theorem dE:evs P W Z .z=.ok []:=id rfl
@[simp] theorem aF (e:E) (es:Es):evs P W Z (.k e es)=(ev P W Z e >>= λx=>evs P W Z es >>= λxs=>.ok (x::xs)):=id rfl
@[simp] theorem sH (a:E):tst P W Z (.nt a)=(tst P W Z a >>= λx=>.ok (!x)):=id rfl
@[simp] theorem aMc (a b:E):tst P W Z (.an a b)=(tst P W Z a >>= λx=>if x then tst P W Z b else .ok false):=id rfl
@[simp] theorem aCz (a b:E):tst P W Z (.orr a b)=(tst P W Z a >>= λx=>if x then .ok true else tst P W Z b):=id rfl
@[simp] theorem aRl (d:D):tst P W Z (.c d)=iJ (.cl d):=id rfl
@[simp] theorem aRm (i:Nat):tst P W Z (.v i)=(cT Z i >>= λx=>iJ x):=id rfl
@[simp] theorem aCA (o:CmpOp) (a b:E):tst P W Z (.cmp o a b)=(ev P W Z a >>= λx=>ev P W Z b >>= λy=>match cZ o x.d y.d with|some k=>.ok k|none=>.bad):=id rfl
@[simp] theorem nF (o o':CmpOp) (a b c:E):tst P W Z (.cmp2 o o' a b c)=(ev P W Z a >>= λx=>ev P W Z b >>= λy=>match cZ o x.d y.d with
 | some true=>ev P W Z c >>= λz=>(match cZ o' y.d z.d with|some k=>.ok k|none=>.bad)
 | some false=>.ok false|none=>.bad):=id rfl
@[simp] theorem eG (f:Nat) (es:Es):tst P W Z (.call f es)=(evs P W Z es >>= λvs=>W f (vs.map (·.d)) >>= λr=>iJ (iU vs r)):=id rfl
@[simp] theorem aPp (a:E) (cs:List Cl):tst P W Z (.isi a cs)=(ev P W Z a >>= λx=>match isI cs P x.d with|some k=>.ok k|none=>.bad):=id rfl
@[simp] theorem aPq (a b:E):tst P W Z (.idx a b)=(ev P W Z a >>= λx=>ev P W Z b >>= λy=>eA x y >>= λz=>iJ z):=id rfl
@[simp] theorem aAa:tsts P W Z .z=.ok true:=id rfl
@[simp] theorem uY (e:E) (es:Es):tsts P W Z (.k e es)=(tst P W Z e >>= λx=>if x then tsts P W Z es else .ok false):=id rfl
@[simp] theorem aAb (a b:E):walk P W Z (.rng a b)=(ev P W Z a >>= λx=>ev P W Z b >>= λy=>match x.d,y.d with|.int i,.int j=>.iff (aT i&&aT j) (.ok ((iB i j).map .cl,[]))|_,_=>.bad):=id rfl
@[simp] theorem bZ (e:E):walk P W Z (.seq e)=(ev P W Z e >>= λx=>match x.d with
 | .lst ds=>.ok (items x ds,x.al)|.tup ds=>.ok (items x ds,x.al)|.str a=>.iff (decide (a.length<=lim)) (.ok (a.cps.toList.map λn=>.cl (.str ⟨#[n]⟩),[]))|_=>.bad):=id rfl
@[simp] theorem iM (a b:E):walk P W Z (.zip a b)=(ev P W Z a >>= λx=>ev P W Z b >>= λy=>match yN x.d,yN y.d with
 | some as,some bs=>.ok (items ⟨.non,false,x.pa||y.pa,x.al++y.al⟩ (fQ as bs),x.al++y.al)|_,_=>.bad):=id rfl
@[simp] theorem kE (t:T) (e:E):ex P W Z (.set t e)=O.from Z (ev P W Z e) λv=>O.from Z (cR (freeze Z v.al) v t) .next:=id rfl
@[simp] theorem aMd (i:Nat) (e:E):ex P W Z (.app i e)=O.from Z (ev P W Z e).calm λv=>put Z i v λds=>some (ds++[v.d]):=id rfl
@[simp] theorem aGm (i:Nat) (e:E):ex P W Z (.ext i e)=O.from Z (ev P W Z e).calm λv=>match yO v with|some (v',ds')=>put Z i v' λds=>some (ds++ds')|none=>.bad:=id rfl
@[simp] theorem aAc (i:Nat) (k e:E):ex P W Z (.setIx i k e)=O.from Z (ev P W Z e) λv=>O.from Z (ev P W Z k).calm λB=>match B.d with
 | .int k=>put Z i v λds=>(match ixN ds.length k with|some j=>some (ds.set j v.d)|none=>none)
 | _=>.bad:=id rfl
@[simp] theorem xC (e:E):ex P W Z (.ret e)=O.from Z (ev P W Z e) .ret:=id rfl
@[simp] theorem gM (c:E) (a b:Ss):ex P W Z (.iff c a b)=O.from Z (tst P W Z c) λk=>if k then exs P W Z a else exs P W Z b:=id rfl
theorem xD(t:T)(it:It)(b:Ss):ex P W Z (.for t it b)=O.from Z (walk P W Z it) λxs=>dX (λZ x=>O.from Z (cR Z x t) λZ'=>exs P W Z' b) xs.1 (freeze Z xs.2):=rfl
@[simp] theorem aQF (i j:Nat):ex P W Z (.mov i j)=(match Z[j]? with
 | some (.own pa ds)=>if i=j then .bad else .next ((Z.set j .x).set i (.own pa ds))|some (.sh pa d)=>.next (Z.set i (.sh (pa&&!noL d) d))|_=>.bad):=id rfl
@[simp] theorem aPr (i:Nat):ex P W Z (.retv i)=(match Z[i]? with|some (.own pa ds)=>.ret ⟨.lst ds,true,pa,[]⟩|_=>O.from Z (cT Z i) .ret):=id rfl
@[simp] theorem aCB:exs P W Z .z=.next Z:=id rfl
@[simp] theorem cN (s:S) (ss:Ss):exs P W Z (.k s ss)=(ex P W Z s).on λZ'=>exs P W Z' ss:=id rfl
theorem aG{P:Pg}{F:Fn}{ds:List D}(B:P.fns[f]? = some F)(G:ds.length=F.np){v:Vl}
 (h:exs P W ((ds.map λd=>Sl.sh true d)++Af (F.ns-F.np) Sl.x) F.body=.ret v):qY P W f ds=.ok (v.d,v.fr,v.pa):=by unfold qY;rw[B];simp only[G,if_true,h]
theorem aAd{f:Sg->Vl->O}:∀(xs:List Vl) (I:Nat->Sg->Prop) (Z:Sg),I 0 Z->(∀(i:Nat) (h:i<xs.length) (Z:Sg),I i Z->∃Z',f Z xs[i]=.next Z'/\I (i+1) Z')->∃Z',dX f xs Z=.next Z'/\I xs.length Z'
 | [],I,Z,h0,_=>⟨Z,rfl,h0⟩
 | x::xs,I,Z,h0,hs=>by
  obtain⟨G,B,h1⟩:=hs 0 (by simp) Z h0;obtain⟨L,U,h2⟩:=aAd xs (λi=>I (i+1)) G h1 λi h Z W=>by have:=hs (i+1) (by simpa using h) Z W;simpa using this
  refine⟨L,?_,by simpa using h2⟩;have B:f Z x=.next G:=by simpa using B
  unfold dX;rw[B];exact U
theorem compGo_map{f:Vl->R (Option Vl)}{g:Vl->Vl}:∀{xs:List Vl},(∀x∈xs,f x=.ok (some (g x)))->jR f xs=.ok (xs.map g)
 | [],_=>rfl|x::xs,h=>by show(f x >>= λy=>jR f xs >>= λB=>(match y with|some y=>R.ok (y::B)|none=>R.ok B))=_;rw[(h x Ar),(compGo_map λy G=>h y (Aj _ G))];rfl
theorem aMe(n:Nat):(iB 0 (n:Int)).map Vl.cl=(Ap n).map λ(k:Nat)=>Vl.cl (.int (k:Int)):=by unfold iB;simp
theorem nG{caps:List Nat}{xs:List Vl}(g:Vl->Vl)(U:walk P W Z it=.ok (xs,al))(L:xs.length<=lim)
 (hb:∀x∈xs,∃B,cR (Af k .x++caps.map λi=>((freeze Z al)[i]?).getD .x) x t=.ok B/\ev P W B elt=.ok (g x)):ev P W Z (.comp k caps t it .z elt)=.ok (dW k caps al (xs.map g)):=by
 rw[kY,U,aH,compGo_map λx hx=>by
  obtain⟨B,G,I⟩:=hb x hx;rw[G];show(ev P W B elt >>= λy=>R.ok (some y))=_;rw[I];rfl]
 show R.iff (decide (xs.length<=lim)) (R.ok (dW k caps al (List.map g xs)))=_;rw[Ao L,nE]
theorem dF{xs:List Vl}(I:Nat->Sg->Prop)(hw:walk P W Z it=.ok (xs,al))(U:I 0 (freeze Z al))
 (hs:∀(i:Nat) (h:i<xs.length) (Z:Sg),I i Z->∃B Z',cR Z xs[i] t=.ok B/\exs P W B b=.next Z'/\I (i+1) Z'):∃Z',ex P W Z (.for t it b)=.next Z'/\I xs.length Z':=by rw[xD,hw];refine aAd xs I _ U λi h Z hI=>?_;obtain⟨B,Z',G,L,h'⟩:=hs i h Z hI;refine⟨Z',?_,h'⟩;rw[G];exact L
theorem aIF:aT 0=true:=by decide
theorem kZ{n:Nat}(B:n<=1000000):aT (n:Int)=true:=by unfold aT;rw[bA,AA,AA];exact⟨E4 (by decide) (GQ n),Int.lt_of_le_of_lt (b:=1000000) (by omega) (by decide)⟩
theorem cC{P:Pg}{W:Caller}{Z:Sg}{a:E}{v:Vl}{n:Nat}(h:ev P W Z a=.ok v)(hd:v.d=.int n)(B:n<=1000000):walk P W Z (.rng (.c (.int 0)) a)=.ok ((Ap n).map λ(k:Nat)=>Vl.cl (.int (k:Int)),[]):=by rw[aAb,h,aA,aH,aH,hd,<-aMe];show R.iff (aT 0&&aT (n:Int)) _=_;rw[aIF,kZ B];rfl
theorem uZ{vs:List Vl}(h:noLs (vs.map (·.d))=true):dW k caps al vs=⟨.lst (vs.map (·.d)),true,false,[]⟩:=by unfold dW;rw[if_pos h]
end Hp
namespace HpS
open Hp PySem
def box(b:Str×Int):D:=.tup [.str b.1,.int b.2]
def aE(bs:List (Str×Int)):List D:=bs.map box
def aL(is:List Int):D:=.tup (is.map D.int)
structure aIG (bs:List (Str×Int)):Prop where
 few:bs.length<=5
 one:∀b∈bs,1<=b.2/\b.2<=7
 room:(bs.map λb=>b.2+1).foldl (·*·) 1<=24
def jO(bs:List (Str×Int)):Int:=(bs.map λb=>b.2+1).foldl (·*·) 1
theorem nH:∀is:List Int,noLs (is.map D.int)=true
 | []=>rfl|i::is=>by simp[noLs,noL,nH is]
@[simp] theorem aM (is:List Int):noL (aL is)=true:=by simp[aL,noL,nH]
@[simp] theorem nI (b:Str×Int):noL (box b)=true:=by simp[box,noL,noLs]
theorem kF:∀ss:List (List Int),noLs (ss.map aL)=true
 | []=>rfl|s::ss=>by simp[noLs,kF ss]
theorem aAe(bs:List (Str×Int)):items v (aE bs)=bs.map λb=>Vl.cl (box b):=by simp[items,aE,Vl.sub]
theorem xF:∀(xs:List Int) (a:Int),1<=a->(∀x∈xs,1<=x)->a<=xs.foldl (·*·) a
 | [],a,_,_=>Int.le_refl _|x::xs,a,ha,h=>by
  have h1:a<=a*x:=by have:=Int.mul_le_mul_of_nonneg_left (h x Ar) (show 0<=a by omega);omega
  exact E4 h1 (xF xs (a*x) (by omega) λy B=>h y (Aj _ B))
theorem xG(bs:List (Str×Int))(h:∀b∈bs,1<=b.2)(i:Nat):1<=jO (bs.take i)/\jO (bs.take i)<=jO bs:=by
 have pos:∀(l:List (Str×Int)),(∀b∈l,1<=b.2)->∀x∈l.map (λb=>b.2+1),1<=x:=λl B x hx=>by obtain⟨b,hb,rfl⟩:=A0.mp hx;have:=B b hb;omega
 have h1:1<=jO (bs.take i):=xF _ 1 (by omega) (pos _ λb hb=>h b (D1 hb));refine⟨h1,?_⟩;have:jO bs=((bs.drop i).map λb=>b.2+1).foldl (·*·) (jO (bs.take i)):=by
  unfold jO
  conv=>lhs;rw[((FV i bs).symm),A7,Ds]
 rw[this];exact xF _ _ h1 (pos _ λb hb=>h b (List.mem_of_mem_drop hb))
theorem aDS{bs:List (Str×Int)}(h:i<bs.length):jO (bs.take (i+1))=jO (bs.take i)*(bs[i].2+1):=by rw[BS h];unfold jO;rw[A7,Ds];rfl
noncomputable def aCC:Fn:=⟨1,6,
 (.k (.set (.n 1) (.lst (.k (.tup .z) .z)))
 (.k (.for (.t [2,3]) (.seq (.v 0))
  (.k (.set (.n 4) (.lst .z))
  (.k (.for (.n 5) (.seq (.v 1))
   (.k (.ext 4 (.comp 1 [5] (.n 0) (.rng (.c (.int 0)) (.op .Add (.v 3) (.c (.int 1)))) .z (.op .Add (.v 1) (.tup (.k (.v 0) .z)))))
   .z))
  (.k (.mov 1 4)
  .z))))
 (.k (.retv 1)
 .z)))⟩
def eR(b:List Int)(top:Int):List (List Int):=(Ap (top+1).toNat).map λ(h:Nat)=>b++[(h:Int)]
def kG(found:List (List Int))(top:Int):List (List Int):=found.flatMap λb=>eR b top
def standsL(bs:List (Str×Int)):List (List Int):=bs.foldl (λfound b=>kG found b.2) [[]]
theorem fX{bs:List (Str×Int)}(h:i<bs.length):standsL (bs.take (i+1))=kG (standsL (bs.take i)) bs[i].2:=by rw[BS h];unfold standsL;rw[Ds];rfl
theorem aBn(found:List (List Int))(top:Int):(kG found top).length=found.length*(top+1).toNat:=by
 induction found with
 | nil=>simp[kG]|cons b r B=>unfold kG at B ⊢;rw[Fb,lA,B,lC,J7];simp[eR];omega
theorem aBo{bs:List (Str×Int)}(h:aIG bs):∀i,i<=bs.length->((standsL (bs.take i)).length:Int)=jO (bs.take i)/\∀s∈standsL (bs.take i),s.length=i
 | 0,_=>by simp[standsL,jO]|i+1,hi=>by obtain⟨h1,h2⟩:=aBo h i (by omega);obtain⟨g2,g3⟩:=h.one bs[i] (AI (by omega));rw[fX (by omega),aDS (by omega),aBn];refine⟨?_,λs hs=>?_⟩;rw[Ib,h1,BV (by omega)];obtain⟨b,hb,hs⟩:=Fr.mp hs;obtain⟨k,_,rfl⟩:=A0.mp hs;rw[lA,h2 b hb];rfl
theorem aGn{bs:List (Str×Int)}(h:aIG bs)(i:Nat)(hi:i<=bs.length):(standsL (bs.take i)).length<=24:=by have h1:=(aBo h i hi).1;have h2:=(xG bs (λb hb=>(h.one b hb).1) i).2;have B:jO bs<=24:=h.room;omega
theorem pK{found:List (List Int)}(h:j<found.length):(found.take (j+1)).flatMap (λb=>eR b top)=(found.take j).flatMap (λb=>eR b top)++eR found[j] top:=by rw[BS h,Gy];simp
theorem xH{found:List (List Int)}(j:Nat):((found.take j).flatMap λb=>eR b top).length<=(kG found top).length:=by
 unfold kG
 conv=>rhs;rw[((FV j found).symm),Gy,lA]
 omega
theorem xI(ss:List (List Int)):items v (ss.map aL)=ss.map λs=>Vl.cl (aL s):=by simp[items,Vl.sub]
theorem aGo(n:Nat){b:List Int}(W:1<=top)(G:top<=7)(hb:b.length<=10) :
 ev P (call P n) [s0,s1,s2,.sh false (.int top),s4,.sh false (aL b)] (.comp 1 [5] (.n 0) (.rng (.c (.int 0)) (.op .Add (.v 3) (.c (.int 1)))) .z (.op .Add (.v 1) (.tup (.k (.v 0) .z))))=.ok ⟨.lst ((eR b top).map aL),true,false,[]⟩:=by
 have I:walk P (call P n) [s0,s1,s2,.sh false (.int top),s4,.sh false (aL b)] (.rng (.c (.int 0)) (.op .Add (.v 3) (.c (.int 1))))=.ok ((Ap (top+1).toNat).map λ(k:Nat)=>Vl.cl (.int (k:Int)),[]):=by refine cC (v:=.cl (.int (top+1))) ?_ ?_ (by omega);simp[cT,Sl.val,opD,Vl.cl];show D.int (top+1)=D.int ((top+1).toNat:Int);rw[BV (by omega)]
 rw[nG (λv=>match v.d with|.int k=>.cl (aL (b++[k]))|_=>.cl .non) I];have e:(((Ap (top+1).toNat).map λ(k:Nat)=>Vl.cl (.int (k:Int))).map λv=>(match v.d with|.int k=>Vl.cl (aL (b++[k]))|_=>Vl.cl .non)).map (·.d)=(eR b top).map aL:=by simp[eR,Vl.cl]
 rw[uZ (by rw[e];exact kF _),e];simp only[lM,Bm];unfold lim;omega;intro y L;obtain⟨k,U,rfl⟩:=A0.mp L;have B:b.length+1<=lim:=by unfold lim;omega
 refine⟨[.sh false (.int k),.sh false (aL b)],?_,?_⟩;simp[cR,Vl.cl,Vl.slot,freeze];simp[cT,Sl.val,Vl.cl,opD,aBR,dP,bY,aL,B]
theorem vA{P:Pg}(hF:P.fns[f]? = some aCC)(n:Nat)(h:aIG bs):call P (n+1) f [.lst (aE bs)]=.ok (.lst ((standsL bs).map aL),true,false):=by
 obtain⟨Z',e,hI⟩:=dF (P:=P) (W:=call P n) (Z:=[.sh true (.lst (aE bs)),.own false [.tup []],.x,.x,.x,.x]) (t:=.t [2,3]) (it:=.seq (.v 0))
  (b:=.k (.set (.n 4) (.lst .z)) (.k (.for (.n 5) (.seq (.v 1)) (.k (.ext 4 (.comp 1 [5] (.n 0) (.rng (.c (.int 0)) (.op .Add (.v 3) (.c (.int 1)))) .z (.op .Add (.v 1) (.tup (.k (.v 0) .z))))) .z)) (.k (.mov 1 4) .z)))
  (xs:=bs.map λb=>Vl.cl (box b)) (al:=[])
  (λi Z=>∃s2 s3 s4 G,Z=[.sh true (.lst (aE bs)),.own false ((standsL (bs.take i)).map aL),s2,s3,s4,G])
  (by simp[cT,Sl.val,aAe]) ⟨_,_,_,_,rfl⟩ (λi hi Z L=>by
   obtain⟨s2,s3,s4,G,rfl⟩:=L;have B:i<bs.length:=by simpa using hi
   obtain⟨g2,g3⟩:=h.one bs[i] (AI B);have U:=aGn h (i+1) B;rw[fX B] at U;obtain⟨_,q0⟩:=aBo h i (by omega);have q4:=h.few;obtain⟨Z2,e2,hJ⟩:=dF (P:=P) (Z:=[.sh true (.lst (aE bs)),.own false ((standsL (bs.take i)).map aL),.sh false (.str bs[i].1),.sh false (.int bs[i].2),.own false [],G]) (t:=.n 5) (it:=.seq (.v 1))
    (b:=.k (.ext 4 (.comp 1 [5] (.n 0) (.rng (.c (.int 0)) (.op .Add (.v 3) (.c (.int 1)))) .z (.op .Add (.v 1) (.tup (.k (.v 0) .z))))) .z)
    (xs:=(standsL (bs.take i)).map λs=>Vl.cl (aL s)) (al:=[1])
    (λj Z=>∃G,Z=[.sh true (.lst (aE bs)),.sh false (.lst ((standsL (bs.take i)).map aL)),.sh false (.str bs[i].1),.sh false (.int bs[i].2),.own false ((((standsL (bs.take i)).take j).flatMap λb=>eR b bs[i].2).map aL),G])
    (by simp[cT,Sl.val,xI]) ⟨_,by simp[freeze,Sl.freeze];rfl⟩ (λj hj Z L=>by
     obtain⟨G,rfl⟩:=L;have I:j<(standsL (bs.take i)).length:=by simpa using hj
     have q2:=xH (found:=standsL (bs.take i)) (top:=bs[i].2) (j+1);rw[pK I,lA] at q2;have q1:((((standsL (bs.take i)).take j).flatMap λb=>eR b bs[i].2).map aL++(eR (standsL (bs.take i))[j] bs[i].2).map aL).length<=lim:=by rw[lA,lM,lM];unfold lim;omega
     refine⟨[.sh true (.lst (aE bs)),.sh false (.lst ((standsL (bs.take i)).map aL)),.sh false (.str bs[i].1),.sh false (.int bs[i].2),.own false ((((standsL (bs.take i)).take j).flatMap λb=>eR b bs[i].2).map aL),.sh false (aL (standsL (bs.take i))[j])],
      [.sh true (.lst (aE bs)),.sh false (.lst ((standsL (bs.take i)).map aL)),.sh false (.str bs[i].1),.sh false (.int bs[i].2),.own false ((((standsL (bs.take i)).take (j+1)).flatMap λb=>eR b bs[i].2).map aL),.sh false (aL (standsL (bs.take i))[j])],?_,?_,⟨_,rfl⟩⟩
     simp[cR,Vl.cl,Vl.slot];rw[cN,aGm,(aGo n g2 g3 (by rw[q0 _ (AI I)];omega)),bT,dD];simp only[yO,kF,if_true];unfold put;simp only[freeze,jS,gS,gZ];rw[if_pos q1];simp[pK I])
   obtain⟨q3,rfl⟩:=hJ;refine⟨[.sh true (.lst (aE bs)),.own false ((standsL (bs.take i)).map aL),.sh false (.str bs[i].1),.sh false (.int bs[i].2),s4,G],[.sh true (.lst (aE bs)),.own false ((standsL (bs.take (i+1))).map aL),.sh false (.str bs[i].1),.sh false (.int bs[i].2),.x,q3],?_,?_,⟨_,_,_,_,rfl⟩⟩;simp[cR,box,Vl.cl,Vl.sub,noL,Vl.slot];have et:(standsL (bs.take i)).take ((standsL (bs.take i)).map λs=>Vl.cl (aL s)).length=standsL (bs.take i):=by simp
   rw[et] at e2;simp[yM,dP,bY,cR,freeze,Vl.slot,e2,fX B,kG])
 obtain⟨s2,s3,s4,G,rfl⟩:=hI;have et:bs.take (bs.map λb=>Vl.cl (box b)).length=bs:=by simp
 rw[et] at e;refine aG hF rfl (v:=⟨.lst ((standsL bs).map aL),true,false,[]⟩) ?_;simp[aCC,yM,aBR,dP,bY,cR,freeze,Vl.slot,e]
end HpS
namespace Hp
open PySem (Str)
@[simp] theorem aPs (d:D):(⟨d,false,false,[]⟩:Vl)=.cl d:=id rfl
@[simp] theorem iG (d:D):(Vl.cl d).d=d:=id rfl
@[simp] theorem aRn (d:D):(Vl.cl d).fr=false:=id rfl
@[simp] theorem aON (d:D):(Vl.cl d).pa=false:=id rfl
@[simp] theorem aAf (d:D):(Vl.cl d).al=[]:=id rfl
@[simp] theorem nJ (d:D):(Vl.cl d).slot=.sh false d:=by cases d <;> rfl
@[simp] theorem aIH (ds:List D) (pa:Bool) (al:List Nat):(⟨.lst ds,true,pa,al⟩:Vl).slot=.own pa ds:=id rfl
@[simp] theorem dM (i:Nat) (d:D):Sl.val i (.sh false d)=.ok (.cl d):=id rfl
@[simp] theorem aCD (i:Nat) (pa:Bool) (k:Int):Sl.val i (.sh pa (.int k))=.ok (.cl (.int k)):=by cases pa <;> rfl
@[simp] theorem aPt (i:Nat) (pa:Bool) (k:Str):Sl.val i (.sh pa (.str k))=.ok (.cl (.str k)):=by cases pa <;> rfl
@[simp] theorem aQG (i:Nat) (pa:Bool) (k:Bool):Sl.val i (.sh pa (.bl k))=.ok (.cl (.bl k)):=by cases pa <;> rfl
@[simp] theorem aPu (i:Nat) (pa:Bool):Sl.val i (.sh pa .non)=.ok (.cl .non):=by cases pa <;> rfl
@[simp] theorem aII (i:Nat) (ds:List D):Sl.val i (.sh true (.lst ds))=.ok ⟨.lst ds,false,true,[]⟩:=id rfl
theorem hZ(i:Nat)(pa:Bool)(h:noL d=true):Sl.val i (.sh pa d)=.ok (.cl d):=by unfold Sl.val;simp[h]
@[simp] theorem aCE (i:Nat) (pa:Bool) (ds:List D):Sl.val i (.own pa ds)=.ok ⟨.lst ds,false,pa,[i]⟩:=id rfl
@[simp] theorem aCF (Z:Sg) (v:Vl) (i:Nat):cR Z v (.n i)=.ok (Z.set i v.slot):=id rfl
@[simp] theorem jD (Z:Sg):freeze Z []=Z:=id rfl
@[simp] theorem aGp (b:Bool):iJ (.cl (.bl b))=.ok b:=id rfl
@[simp] theorem aBp (args:List Vl) (d:D):iU args (d,false,false)=.cl d:=id rfl
@[simp] theorem aQH (args:List Vl) (d:D):iU args (d,true,false)=⟨d,true,false,[]⟩:=id rfl
@[simp] theorem aMf (a b:D):cZ .Eq a b=eqD a b:=id rfl
@[simp] theorem aGq (a b:D):cZ .NotEq a b=(eqD a b).map (!·):=id rfl
@[simp] theorem aQI (a b:Int):cZ .Lt (.int a) (.int b)=some (decide (a<b)):=id rfl
@[simp] theorem aQJ (a b:Int):cZ .Gt (.int a) (.int b)=some (decide (b<a)):=id rfl
@[simp] theorem aGr (a b:Int):cZ .LtE (.int a) (.int b)=some (decide (a<=b)):=id rfl
@[simp] theorem aCG (a b:Int):eqD (.int a) (.int b)=some (a==b):=id rfl
@[simp] theorem aIJ (a b:Str):eqD (.str a) (.str b)=some (a==b):=id rfl
@[simp] theorem aQK (a b:Bool):eqD (.bl a) (.bl b)=some (a==b):=id rfl
@[simp] theorem aPv (P:Pg) (k:Int):isI [.tInt] P (.int k)=some true:=id rfl
@[simp] theorem aOO (P:Pg) (k:Int):isI [.tBool] P (.int k)=some false:=id rfl
@[simp] theorem aPw (P:Pg) (k:Str):isI [.tStr] P (.str k)=some true:=id rfl
@[simp] theorem aPx (P:Pg) (k:List D):isI [.tTuple] P (.tup k)=some true:=id rfl
@[simp] theorem aPy (P:Pg) (k:List D):isI [.tList] P (.lst k)=some true:=id rfl
@[simp] theorem aQL (P:Pg) (k:Bool):isI [.tBool] P (.bl k)=some true:=id rfl
@[simp] theorem add_int (i j:Int):opD .Add (.cl (.int i)) (.cl (.int j))=.ok (.cl (.int (i+j))):=id rfl
@[simp] theorem sub_int (i j:Int):opD .Sub (.cl (.int i)) (.cl (.int j))=.ok (.cl (.int (i-j))):=id rfl
theorem mul_int(h:iI i j=true):opD .Mult (.cl (.int i)) (.cl (.int j))=.ok (.cl (.int (i*j))):=by show R.iff (iI i j) _=_;rw[h];rfl
theorem qF(h:yK j=true):opD .FloorDiv (.cl (.int i)) (.cl (.int j))=.ok (.cl (.int (i / j))):=by show R.iff (yK j) _=_;rw[h];rfl
theorem aCH(h:0<j):opD .Mod (.cl (.int i)) (.cl (.int j))=.ok (.cl (.int (i % j))):=by show R.iff (decide (0<j)) _=_;rw[Ao h];rfl
@[simp] theorem lB (ds:List D) (fr pa:Bool) (al:List Nat):biD .len [⟨.lst ds,fr,pa,al⟩]=.ok (.cl (.int ds.length)):=id rfl
@[simp] theorem lD (ds:List D):biD .len [.cl (.tup ds)]=.ok (.cl (.int ds.length)):=id rfl
@[simp] theorem aOP (ds:List D):biD .len [.cl (.lst ds)]=.ok (.cl (.int ds.length)):=id rfl
end Hp
namespace HpS
open Hp PySem
theorem cs(h:ex P W Z s=.next Z')(r:exs P W Z' ss=o):exs P W Z (.k s ss)=o:=by rw[cN,h,aLY,r]
theorem aR(h:ev P W Z e=.ok (.cl d)):ex P W Z (.set (.n i) e)=.next (Z.set i (.sh false d)):=by rw[kE,h,dD,aAf,jD,aCF,dD,nJ]
theorem aY(h:ev P W Z e=.ok v):exs P W Z (.k (.ret e) ss)=.ret v:=by rw[cN,xC,h];rfl
theorem bQ(h:tst P W Z c=.ok false):ex P W Z (.iff c a .z)=.next Z:=by rw[gM,h];rfl
theorem dY(h:tst P W Z c=.ok true)(r:exs P W Z a=.ret v):exs P W Z (.k (.iff c a b) ss)=.ret v:=by rw[cN,gM,h,r];rfl
theorem aZ(h:ev P W Z a=.ok x)(k:ev P W Z b=.ok y)(e:eA x y=.ok z):ev P W Z (.idx a b)=.ok z:=by rw[sG,h,aH,k,aH,e]
theorem cK(h:ev P W Z a=.ok (.cl (.str w)))(q:(w==x)=b):tst P W Z (.cmp .Eq a (.c (.str x)))=.ok b:=by rw[aCA,h,aH,aA,aH,iG,iG,aMf,aIJ,q]
theorem bL{x y z:Vl}(h1:ev P W Z a=.ok x)(h2:ev P W Z b=.ok y)(B:ev P W Z c=.ok z)(G:W f [x.d,y.d,z.d]=.ok (d,false,false)):ev P W Z (.call f (.k a (.k b (.k c .z))))=.ok (.cl d):=by
 have e:evs P W Z (.k a (.k b (.k c .z)))=.ok [x,y,z]:=by rw[aF,h1,aF,h2,aF,B];rfl
 rw[eH,e,aH,show [x,y,z].map (·.d)=[x.d,y.d,z.d] from rfl,G];rfl
theorem v0_(h:noL d=true):ev P W (.sh true d::r) (.v 0)=.ok (.cl d):=hZ 0 true h
theorem v1_(h:noL d=true):ev P W (s::.sh true d::r) (.v 1)=.ok (.cl d):=hZ 1 true h
theorem v2_(h:noL d=true):ev P W (s::t::.sh true d::r) (.v 2)=.ok (.cl d):=hZ 2 true h
theorem vB(h:tst P W Z t=.ok k)(r:(if k then ev P W Z a else ev P W Z b)=.ok v):ev P W Z (.ife t a b)=.ok v:=by rw[aMa,h,aH,r]
theorem aMg(h:ev P W Z a=.ok (.cl (.bl k))):ev P W Z (.nt a)=.ok (.cl (.bl !k)):=by rw[aOL,h];rfl
theorem aIK(h1:ev P W Z a=.ok (.cl (.bl x)))(h2:ev P W Z b=.ok (.cl (.bl y))):ev P W Z (.an a b)=.ok (.cl (.bl (x&&y))):=by rw[aOM,h1];cases x;rfl;exact h2
theorem aOQ(h1:ev P W Z a=.ok (.cl (.bl x)))(h2:ev P W Z b=.ok (.cl (.bl y))):ev P W Z (.orr a b)=.ok (.cl (.bl (x||y))):=by rw[aLZ,h1];cases x;exact h2;rfl
theorem dG(h:ev P W Z a=.ok x)(k:ev P W Z b=.ok y)(e:opD o x y=.ok z):ev P W Z (.op o a b)=.ok z:=by rw[aOK,h,aH,k,aH,e]
theorem sJ{x y:Vl}(h:ev P W Z a=.ok x)(g:ev P W Z b=.ok y)(e:cZ o x.d y.d=some k):ev P W Z (.cmp o a b)=.ok (.cl (.bl k)):=by rw[aMb,h,aH,g,aH,e]
theorem dI(h:ev P W Z a=.ok x)(e:biD b [x]=.ok z):ev P W Z (.bi b (.k a .z))=.ok z:=by
 have h2:evs P W Z (.k a .z)=.ok [x]:=by rw[aF,h];rfl
 rw[aGl,h2,aH,e]
end HpS
namespace Hp
open PySem (Str)
theorem bW{α:Type}{g:α->D}(B:∀t,noL (g t)=true):∀ts:List α,noLs (ts.map g)=true
 | []=>rfl|t::ts=>by rw[mC,noLs,B t,bW B ts];rfl
theorem kH{α:Type}{F:Vl->R (Option Vl)}{f:α->Vl}{g:α->D}{p:α->Bool}:∀{ts:List α},(∀t∈ts,F (f t)=.ok (if p t then some (.cl (g t)) else none))->jR F (ts.map f)=.ok ((ts.filter p).map λt=>.cl (g t))
 | [],_=>rfl|t::ts,h=>by
  show(F (f t) >>= λy=>jR F (ts.map f) >>= λB=>(match y with|some y=>R.ok (y::B)|none=>R.ok B))=_;rw[(h t Ar),(kH λy G=>h y (Aj _ G))];cases hp:p t with
  | true=>rw[Fv hp];rfl|false=>rw[Fw (by rw[hp];exact bN)];rfl
theorem xJ{α:Type}{g:α->D}(B:∀t,noL (g t)=true){k:Nat}{caps al:List Nat}(ts:List α):dW k caps al (ts.map λt=>Vl.cl (g t))=⟨.lst (ts.map g),true,false,[]⟩:=by
 have e:(ts.map λt=>Vl.cl (g t)).map (·.d)=ts.map g:=by rw[A4];rfl
 rw[uZ (by rw[e];exact bW B ts),e]
theorem fG{P:Pg}{W:Caller}{Z:Sg}{k:Nat}{caps al:List Nat}{T:T}{it:It}{elt:E}{α:Type}{ts:List α}(f:α->Vl)(g:α->D)(ng:∀t,noL (g t)=true)(hw:walk P W Z it=.ok (ts.map f,al))(L:ts.length<=lim)
 (hb:∀t∈ts,∃B,cR (Af k .x++caps.map λi=>((freeze Z al)[i]?).getD .x) (f t) T=.ok B/\ev P W B elt=.ok (.cl (g t))):ev P W Z (.comp k caps T it .z elt)=.ok ⟨.lst (ts.map g),true,false,[]⟩:=by
 rw[kY,hw,aH,kH (p:=λ_=>true) λt U=>by
  obtain⟨B,G,I⟩:=hb t U;rw[G];show(ev P W B elt >>= λy=>R.ok (some y))=_;rw[I];rfl]
 show R.iff (decide ((ts.map f).length<=lim)) (R.ok (dW k caps al ((ts.filter λ_=>true).map λt=>Vl.cl (g t))))=_;rw[(Gz.mpr λ_ _=>rfl),(Ao (by rw[lM];exact L)),nE,xJ ng]
theorem aBq{P:Pg}{W:Caller}{Z:Sg}{k:Nat}{caps al:List Nat}{T:T}{it:It}{c elt:E}{α:Type}{ts:List α}(f:α->Vl)(g:α->D)(p:α->Bool)(ng:∀t,noL (g t)=true)(hw:walk P W Z it=.ok (ts.map f,al))(U:ts.length<=lim)
 (hb:∀t∈ts,∃B,cR (Af k .x++caps.map λi=>((freeze Z al)[i]?).getD .x) (f t) T=.ok B/\tst P W B c=.ok (p t)/\ev P W B elt=.ok (.cl (g t))):ev P W Z (.comp k caps T it (.k c .z) elt)=.ok ⟨.lst ((ts.filter p).map g),true,false,[]⟩:=by
 rw[kY,hw,aH,kH (p:=p) λt ht=>by
  obtain⟨B,G,I,L⟩:=hb t ht;rw[G];show((tsts P W B (.k c .z)).calm >>= λk=>if k then (ev P W B elt >>= λy=>R.ok (some y)) else R.ok none)=_;rw[uY,I,aH];cases hp:p t with
  | true=>rw[if_pos rfl,aAa,bT,aH,if_pos rfl,L];rfl|false=>rfl]
 show R.iff (decide ((ts.map f).length<=lim)) (R.ok (dW k caps al ((ts.filter p).map λt=>Vl.cl (g t))))=_;rw[(Ao (by rw[lM];exact U)),nE,xJ ng]
theorem cD{α:Type}{v:Vl}{g:α->D}(B:∀t,noL (g t)=true)(ts:List α):items v (ts.map g)=ts.map λt=>Vl.cl (g t):=by unfold items;rw[A4];refine B1 λt _=>?_;show Vl.sub v (g t)=_;unfold Vl.sub;rw[if_pos (B t)]
theorem jE(B:noL a=true)(hb:noL b=true):noL (.tup [a,b])=true:=by simp[noL,noLs,B,hb]
end Hp
namespace Hp
open PySem (Str Operator CmpOp)
@[simp] theorem aPz {α B:Type} (a:D) (f:α->R B):((R.exc a:R α) >>= f)=.exc a:=id rfl
@[simp] theorem aPA {α:Type} (a:D) (f:α->O):O.from Z (.exc a) f=.exc a Z:=id rfl
@[simp] theorem aRo (x:D) (f:Sg->O):(O.exc x Z).on f=.exc x Z:=id rfl
@[simp] theorem aQM (c:Str) (k:Bool) (es:Es):ex P W Z (.rse c k es)=O.from Z (evs P W Z es) λvs=>if k then aJt c vs Z else .exc (.err c []) Z:=id rfl
@[simp] theorem aMh (b:Ss) (c:Str) (i j:Nat):ex P W Z (.tryA b c i j)=(match exs P W Z b with
 | .exc x Z'=>aDo P c i j x Z'|o=>o):=id rfl
@[simp] theorem aCI (b:Ss):ex P W Z (.tryN b)=(match exs P W Z b with
 | .exc _ _=>.bad|o=>o):=id rfl
@[simp] theorem aQN (i:Nat) (c:Str):ev P W Z (.plc i c)=((aKy Z i c).calm >>= λd=>.ok (.cl d)):=id rfl
@[simp] theorem aPB (a:E):ev P W Z (.sset a)=((ev P W Z a).calm >>= λx=>match x.d with
 | .lst ds=>match tN ds with|some ns=>.ok ⟨.lst ((gJ ns).map λ(k:Nat)=>.int (k:Int)),true,false,[]⟩|none=>.bad
 | _=>.bad):=id rfl
@[simp] theorem aGs (a:E):walk P W Z (.dwn a)=((ev P W Z a).calm >>= λx=>match x.d with
 | .int i=>.iff (aT i) (.ok ((pF i).map .cl,[]))|_=>.bad):=id rfl
@[simp] theorem aDT (i j:Nat) (e:E) (k:Nat):ex P W Z (.appPop i j e k)=O.from Z (qX (some (ev P W Z e).calm)) λm=>O.from Z (jT Z j m) λ(v,Z')=>O.from Z' (aBT v k) λw=>aEM Z' i w:=id rfl
@[simp] theorem aQO (a:E) (cs:List Cl):ev P W Z (.isx a cs)=(ev P W Z a >>= λx=>match isX cs P x.d with|some k=>.ok (.cl (.bl k))|none=>.bad):=id rfl
@[simp] theorem aPC (a:E) (cs:List Cl):tst P W Z (.isx a cs)=(ev P W Z a >>= λx=>match isX cs P x.d with|some k=>.ok k|none=>.bad):=id rfl
@[simp] theorem aJK (e:E):ex P W Z (.ex e)=O.from Z (ev P W Z e) λ_=>.next Z:=id rfl
theorem gN{P:Pg}{F:Fn}{ds:List D}(B:P.fns[f]? = some F)(G:ds.length=F.np)
 (h:exs P W ((ds.map λd=>Sl.sh true d)++Af (F.ns-F.np) Sl.x) F.body=.exc x Z):qY P W f ds=.exc x:=by unfold qY;rw[B];simp only[G,if_true,h]
theorem aCJ{f:Sg->Vl->O}:∀(m:Nat) (xs:List Vl) (I:Nat->Sg->Prop) (Z:Sg),I 0 Z->(hm:m<xs.length)->(∀(i:Nat) (h:i<m) (Z:Sg),I i Z->∃Z',f Z (xs[i]'(E1 h hm))=.next Z'/\I (i+1) Z')->(∀Z,I m Z->∃Z',f Z xs[m]=.exc e Z')->∃Z',dX f xs Z=.exc e Z'
 | _,[],_,_,_,hm,_,_=>absurd hm (by simp)|0,x::xs,I,Z,h0,_,_,hx=>by obtain⟨Z',B⟩:=hx Z h0;have B:f Z x=.exc e Z':=B;exact⟨Z',by unfold dX;rw[B]⟩|m+1,x::xs,I,Z,h0,hm,hs,hx=>by obtain⟨L,B,h1⟩:=hs 0 (by omega) Z h0;have B:f Z x=.next L:=B;obtain⟨U,W⟩:=aCJ m xs (λi=>I (i+1)) L h1 (by simpa using hm) (λi h Z G=>by simpa using hs (i+1) (by omega) Z G) (λZ G=>by simpa using hx Z G);exact⟨U,by unfold dX;rw[B];exact W⟩
theorem aIL{xs:List Vl}(m:Nat)(I:Nat->Sg->Prop)(hw:walk P W Z it=.ok (xs,al))(h0:I 0 (freeze Z al))(hm:m<xs.length)
 (hs:∀(i:Nat) (h:i<m) (Z:Sg),I i Z->∃B Z',cR Z (xs[i]'(E1 h hm)) t=.ok B/\exs P W B b=.next Z'/\I (i+1) Z') (hx:∀Z,I m Z->∃B Z',cR Z xs[m] t=.ok B/\exs P W B b=.exc e Z'):∃Z',ex P W Z (.for t it b)=.exc e Z':=by rw[xD,hw];refine aCJ m xs I _ h0 hm (λi h Z U=>?_) λZ U=>?_;obtain⟨B,Z',G,L,h'⟩:=hs i h Z U;refine⟨Z',?_,h'⟩;rw[G];exact L;obtain⟨B,Z',G,L⟩:=hx Z U;refine⟨Z',?_⟩;rw[G];exact L
@[simp] theorem aPD (a l:E):ev P W Z (.sli a (.k l .z) .z)=(ev P W Z a >>= λx=>ev P W Z l >>= λl=>match l.d with|.int l=>.iff (aT l) (fA x (some l) none)|_=>.bad):=by
 show(ev P W Z a >>= λx=>evs P W Z (.k l .z) >>= λl=>evs P W Z .z >>= λh=>_)=_;cases ev P W Z a with
 | ok x=>
  show((ev P W Z l >>= λx=>evs P W Z .z >>= λxs=>R.ok (x::xs)) >>= λl=>_)=(ev P W Z l >>= λl=>_)
  cases ev P W Z l <;> rfl
 | exc e=>rfl|bad=>rfl
@[simp] theorem aPE (a l h:E):ev P W Z (.sli a (.k l .z) (.k h .z))=(ev P W Z a >>= λx=>ev P W Z l >>= λl=>ev P W Z h >>= λh=>match l.d,h.d with|.int l,.int h=>.iff (aT l&&aT h) (fA x (some l) (some h))|_,_=>.bad):=by
 show(ev P W Z a >>= λx=>evs P W Z (.k l .z) >>= λl=>evs P W Z (.k h .z) >>= λh=>_)=_;cases ev P W Z a with
 | ok x=>
  show((ev P W Z l >>= λx=>evs P W Z .z >>= λxs=>R.ok (x::xs)) >>= λl=>_)=(ev P W Z l >>= λl=>_)
  cases ev P W Z l with
  | ok l=>
   show((ev P W Z h >>= λx=>evs P W Z .z >>= λxs=>R.ok (x::xs)) >>= λh=>_)=(ev P W Z h >>= λh=>_)
   cases ev P W Z h <;> rfl
  | exc e=>rfl|bad=>rfl
 | exc e=>rfl|bad=>rfl
theorem dL:∀is:List Int,noLs (is.map D.int)=true
 | []=>rfl|i::is=>by simp[noLs,noL,dL is]
theorem fL(h:k<n):ixN n (k:Int)=some k:=by unfold ixN;rw[if_pos (GQ k),if_pos (by omega)];simp
theorem aIM{v:Vl}{is:List Int}(G:v.d=.lst (is.map D.int))(h:k<is.length):eA v (.cl (.int (k:Int)))=.ok (.cl (.int (is.getD k 0))):=by
 unfold eA;rw[G];have B:(is.map D.int).length=is.length:=by simp
 have e:(is.map D.int)[k]? = some (.int (is.getD k 0)):=by simp[h]
 simp only[iG,B,fL h,e,Vl.sub,noL,if_true]
def aCK:Fn:=⟨2,5,
 (.k (.set (.n 2) (.lst .z))
 (.k (.set (.n 3) (.op .Add (.op .Mod (.v 0) (.c (.int 2147483647))) (.c (.int 48271))))
 (.k (.for (.n 4) (.rng (.c (.int 0)) (.op .Add (.v 1) (.c (.int 1))))
  (.k (.set (.n 3) (.op .Mod (.op .Add (.op .Add (.op .Mult (.v 3) (.v 3)) (.op .Mult (.c (.int 48271)) (.v 3))) (.v 4)) (.c (.int 2147483647))))
  (.k (.app 2 (.v 3))
  .z)))
 (.k (.ret (.sli (.v 2) (.k (.c (.int 1)) .z) .z))
 .z))))⟩
def num(c:Int):Nat->Int
 | 0=>c % 2147483647+48271|k+1=>(num c k*num c k+48271*num c k+(k:Int)) % 2147483647
theorem aIN(c:Int):∀k,0<=num c k/\num c k<2147531918
 | 0=>by unfold num;omega|k+1=>by unfold num;omega
def sK(c:Int)(m:Nat):List Int:=(Ap m).map λi=>num c (i+2)
theorem iN(c:Int)(m:Nat):(sK c m).length=m:=by simp[sK]
theorem gD{P:Pg}{f:Nat}(hF:P.fns[f]? = some aCK)(n:Nat)(c:Int){m:Nat}(hm:m<=1000):call P (n+1) f [.int c,.int m]=.ok (.lst ((sK c m).map D.int),true,false):=by
 have mm:∀i:Int,opD .Mod (.cl (.int i)) (.cl (.int 2147483647))=.ok (.cl (.int (i % 2147483647))):=λi=>aCH (by decide);have hw:walk P (call P n) [.sh true (.int c),.sh true (.int m),.own false [],.sh false (.int (num c 0)),.x] (.rng (.c (.int 0)) (.op .Add (.v 1) (.c (.int 1))))=.ok ((Ap (m+1)).map λ(k:Nat)=>Vl.cl (.int (k:Int)),[]):=by refine cC (v:=.cl (.int ((m+1:Nat):Int))) ?_ rfl (by omega);simp[cT]
 obtain⟨Z',e,hI⟩:=dF (t:=.n 4) (b:=(.k (.set (.n 3) (.op .Mod (.op .Add (.op .Add (.op .Mult (.v 3) (.v 3)) (.op .Mult (.c (.int 48271)) (.v 3))) (.v 4)) (.c (.int 2147483647))))
  (.k (.app 2 (.v 3))
  .z)))
   (λk Z=>∃W,Z=[.sh true (.int c),.sh true (.int m),.own false ((Ap k).map λi=>.int (num c (i+1))),.sh false (.int (num c k)),W]) hw ⟨_,rfl⟩ (λk hk Z U=>by
    obtain⟨W,rfl⟩:=U;have q0:k<m+1:=by simpa using hk
    obtain⟨r0,r1⟩:=aIN c k;have m1:opD .Mult (.cl (.int (num c k))) (.cl (.int (num c k)))=.ok (.cl (.int (num c k*num c k))):=mul_int (by
     simp only[iI,B9,bA,AA];right;omega)
    have m2:opD .Mult (.cl (.int 48271)) (.cl (.int (num c k)))=.ok (.cl (.int (48271*num c k))):=mul_int (by
     simp only[iI,B9,bA,AA];right;omega)
    have G:k+1<=lim:=by unfold lim;omega
    have L:(Ap (k+1)).map (λi=>D.int (num c (i+1)))=(Ap k).map (λi=>D.int (num c (i+1)))++[.int (num c (k+1))]:=by rw[Ij];simp
    refine⟨[.sh true (.int c),.sh true (.int m),.own false ((Ap k).map λi=>.int (num c (i+1))),.sh false (.int (num c k)),.sh false (.int k)],
     [.sh true (.int c),.sh true (.int m),.own false ((Ap (k+1)).map λi=>.int (num c (i+1))),.sh false (.int (num c (k+1))),.sh false (.int k)],?_,?_,⟨_,rfl⟩⟩
    simp;rw[L];simp[cT,m1,m2,mm,put,jS,G,num])
 obtain⟨W,rfl⟩:=hI;have et:((Ap (m+1)).map λ(k:Nat)=>Vl.cl (.int (k:Int))).length=m+1:=by simp
 rw[et] at e;have I:noLs ((Ap (m+1)).map λi=>D.int (num c (i+1)))=true:=by
  have:(Ap (m+1)).map (λi=>D.int (num c (i+1)))=((Ap (m+1)).map λi=>num c (i+1)).map D.int:=by simp
  rw[this];exact dL _
 have B:cut ((Ap (m+1)).map λi=>D.int (num c (i+1))) (some 1) none=(sK c m).map D.int:=by
  unfold cut sIx;simp only[lM,Bm];have e1:min (1:Int).toNat (m+1)=1:=by simp
  rw[ e1,Bw (by simp),Dc];simp[sK]
 have s1:aT 1=true:=by decide
 refine aG hF rfl (v:=⟨.lst ((sK c m).map D.int),true,false,[]⟩) ?_;have e:ex P (call P n) [.sh true (.int c),.sh true (.int m),.own false [],.sh false (.int (c % 2147483647+48271)),.x] _=_:=e;simp[aCK,cT,mm,yM,dP,bY,e,s1,fA,I,B]
end Hp
namespace HpS
open Hp PySem
inductive Sm where
 | num (n:Int)|box (k:Nat)|aft (k:Nat)|two (p:Bool) (a b:Sm)
def aDU(p:Bool):Str:=if p then "plus" else "minus"
noncomputable def Sm.d:Sm->D
 | .num n=>.tup [.str "number",.int n]|.box k=>.tup [.str "box",.int k]|.aft k=>.tup [.str "after",.int k]|.two p a b=>.tup [.str (aDU p),a.d,b.d]
def Sm.sz:Sm->Nat
 | .two _ a b=>1+a.sz+b.sz|_=>1
def Sm.val(ah be:List Int):Sm->Int
 | .num n=>n|.box k=>ah.getD k 0|.aft k=>be.getD k 0|.two p a b=>if p then a.val ah be+b.val ah be else a.val ah be-b.val ah be
def Sm.wf(c:Nat)(pl:Bool):Sm->Prop
 | .num n=>0<=n/\n<=99|.box k=>k<c|.aft k=>k<c/\pl=false|.two _ a b=>a.wf c pl/\b.wf c pl
theorem Sm.noL:∀s:Sm,Hp.noL s.d=true
 | .num _=>rfl|.box _=>rfl|.aft _=>rfl|.two _ a b=>by simp[Sm.d,Hp.noL,noLs,a.noL,b.noL]
theorem cS(h:Hp.noL d=true):Vl.sub v d=.cl d:=by unfold Vl.sub;rw[if_pos h]
theorem fY(x:D)(r:List D)(h:Hp.noL x=true):eA (.cl (.tup (x::r))) (.cl (.int 0))=.ok (.cl x):=by have:ixN (x::r).length 0=some 0:=fL (by simp);unfold eA;simp only[iG,this,gZ,cS h]
theorem gO(x y:D)(r:List D)(h:Hp.noL y=true):eA (.cl (.tup (x::y::r))) (.cl (.int 1))=.ok (.cl y):=by have:ixN (x::y::r).length 1=some 1:=fL (by simp);unfold eA;simp only[iG,this,gZ,gS,cS h]
theorem aBr(x y z:D)(r:List D)(h:Hp.noL z=true):eA (.cl (.tup (x::y::z::r))) (.cl (.int 2))=.ok (.cl z):=by have:ixN (x::y::z::r).length 2=some 2:=fL (by simp);unfold eA;simp only[iG,this,gZ,gS,cS h]
theorem nK{is:List Int}(h:k<is.length):eA (.cl (aL is)) (.cl (.int (k:Int)))=.ok (.cl (.int (is.getD k 0))):=by
 unfold eA aL;have B:(is.map D.int).length=is.length:=by simp
 have e:(is.map D.int)[k]? = some (.int (is.getD k 0)):=by simp[h]
 simp only[iG,B,fL h,e,Vl.sub,Hp.noL,if_true]
noncomputable def aGt(f:Nat):Fn:=⟨3,6,
 (.k (.set (.n 3) (.idx (.v 0) (.c (.int 0))))
 (.k (.iff (.cmp .Eq (.v 3) (.c (.str "number")))
  (.k (.ret (.idx (.v 0) (.c (.int 1))))
  .z)
  .z)
 (.k (.iff (.cmp .Eq (.v 3) (.c (.str "box")))
  (.k (.ret (.idx (.v 1) (.idx (.v 0) (.c (.int 1)))))
  .z)
  .z)
 (.k (.iff (.cmp .Eq (.v 3) (.c (.str "after")))
  (.k (.ret (.idx (.v 2) (.idx (.v 0) (.c (.int 1)))))
  .z)
  .z)
 (.k (.set (.n 4) (.call f (.k (.idx (.v 0) (.c (.int 1))) (.k (.v 1) (.k (.v 2) .z)))))
 (.k (.set (.n 5) (.call f (.k (.idx (.v 0) (.c (.int 2))) (.k (.v 1) (.k (.v 2) .z)))))
 (.k (.ret (.ife (.cmp .Eq (.v 3) (.c (.str "plus"))) (.op .Add (.v 4) (.v 5)) (.op .Sub (.v 4) (.v 5))))
 .z)))))))⟩
theorem aQP:(("number" : Str) == "number")=true:=by decide +kernel
theorem aQQ:(("box" : Str) == "number")=false:=by decide +kernel
theorem aQR:(("box" : Str) == "box")=true:=by decide +kernel
theorem aQS:(("after" : Str) == "number")=false:=by decide +kernel
theorem aQT:(("after" : Str) == "box")=false:=by decide +kernel
theorem aQU:(("after" : Str) == "after")=true:=by decide +kernel
theorem aQV:∀p,(aDU p == "number")=false:=by decide +kernel
theorem aOR:∀p,(aDU p == "box")=false:=by decide +kernel
theorem aOS:∀p,(aDU p == "after")=false:=by decide +kernel
theorem aQW:∀p,(aDU p == "plus")=p:=by decide +kernel
theorem kI{P:Pg}(G:P.fns[f]? = some (aGt f)){I L:List Int}(ha:I.length=c)(hb:L.length=c)(U:Hp.noL bd=true)(B:pl=false->bd=aL L) :
 ∀(s:Sm) (n:Nat),s.wf c pl->call P (n+s.sz) f [s.d,aL I,bd]=.ok (.int (s.val I L),false,false)
 | .num k,n,w=>by exact aG G rfl (v:=.cl (.int k)) (cs (aR (aZ (v0_ rfl) rfl (fY _ _ rfl))) (dY (cK rfl aQP) (aY (aZ (v0_ rfl) rfl (gO _ _ _ rfl)))))|.box k,n,w=>by have w:k<c:=w;exact aG G rfl (v:=.cl (.int (I.getD k 0))) (cs (aR (aZ (v0_ rfl) rfl (fY _ _ rfl))) (cs (bQ (cK rfl aQQ)) (dY (cK rfl aQR) (aY (aZ (v1_ (aM _)) (aZ (v0_ rfl) rfl (gO _ _ _ rfl)) (nK (by omega)))))))|.aft k,n,w=>by obtain⟨w1,w2⟩:k<c/\pl=false:=w;have e:=B w2;subst e;exact aG G rfl (v:=.cl (.int (L.getD k 0))) (cs (aR (aZ (v0_ rfl) rfl (fY _ _ rfl))) (cs (bQ (cK rfl aQS)) (cs (bQ (cK rfl aQT)) (dY (cK rfl aQU) (aY (aZ (v2_ (aM _)) (aZ (v0_ rfl) rfl (gO _ _ _ rfl)) (nK (by omega))))))))|.two p a b,n,w=>by
  obtain⟨w1,w2⟩:a.wf c pl/\b.wf c pl:=w;have W:=kI G ha hb U B a (n+b.sz) w1;rw[show n+b.sz+a.sz=n+a.sz+b.sz by omega] at W;have e:n+Sm.sz (.two p a b)=n+a.sz+b.sz+1:=by show n+(1+a.sz+b.sz)=_;omega
  rw[e];refine aG G rfl (v:=.cl (.int (Sm.val I L (.two p a b)))) ?_;refine cs (aR (aZ (v0_ (Sm.noL _)) rfl (fY _ _ rfl))) (cs (bQ (cK rfl (aQV p))) (cs (bQ (cK rfl (aOR p))) (cs (bQ (cK rfl (aOS p))) (cs (aR (bL (aZ (v0_ (Sm.noL _)) rfl (gO _ _ _ a.noL)) (v1_ (aM _)) (v2_ U) W)) (cs (aR (bL (aZ (v0_ (Sm.noL _)) rfl (aBr _ _ _ _ b.noL)) (v1_ (aM _)) (v2_ U) (kI G ha hb U B b (n+a.sz) w2))) (aY (vB (cK rfl (aQW p)) ?_)))))));cases p <;> rfl
inductive Cn where
 | yes|cmp (i:Bool) (a b:Sm)|nt (c:Cn)|two (p:Bool) (a b:Cn)
def xK(i:Bool):Str:=if i then "is" else "less"
def sL(p:Bool):Str:=if p then "both" else "either"
noncomputable def Cn.d:Cn->D
 | .yes=>.tup [.str "yes"]|.cmp i a b=>.tup [.str (xK i),a.d,b.d]|.nt c=>.tup [.str "not",c.d]|.two p a b=>.tup [.str (sL p),a.d,b.d]
def Cn.sz:Cn->Nat
 | .yes=>1|.cmp _ a b=>1+a.sz+b.sz|.nt c=>1+c.sz|.two _ a b=>1+a.sz+b.sz
def Cn.hold(ah be:List Int):Cn->Bool
 | .yes=>true|.cmp i a b=>if i then a.val ah be==b.val ah be else decide (a.val ah be<b.val ah be)|.nt c=>!c.hold ah be|.two p a b=>if p then a.hold ah be&&b.hold ah be else a.hold ah be||b.hold ah be
def Cn.wf(c:Nat)(pl:Bool):Cn->Prop
 | .yes=>True|.cmp _ a b=>a.wf c pl/\b.wf c pl|.nt x=>x.wf c pl|.two _ a b=>a.wf c pl/\b.wf c pl
theorem Cn.noL:∀s:Cn,Hp.noL s.d=true
 | .yes=>rfl|.cmp _ a b=>by simp[Cn.d,Hp.noL,noLs,a.noL,b.noL]|.nt c=>by simp[Cn.d,Hp.noL,noLs,c.noL]|.two _ a b=>by simp[Cn.d,Hp.noL,noLs,a.noL,b.noL]
noncomputable def aMi(v f:Nat):Fn:=⟨3,6,
 (.k (.set (.n 3) (.idx (.v 0) (.c (.int 0))))
 (.k (.iff (.cmp .Eq (.v 3) (.c (.str "yes")))
  (.k (.ret (.c (.bl true)))
  .z)
  .z)
 (.k (.iff (.cmp .Eq (.v 3) (.c (.str "not")))
  (.k (.ret (.nt (.call f (.k (.idx (.v 0) (.c (.int 1))) (.k (.v 1) (.k (.v 2) .z))))))
  .z)
  .z)
 (.k (.iff (.cmp .Eq (.v 3) (.c (.str "both")))
  (.k (.ret (.an (.call f (.k (.idx (.v 0) (.c (.int 1))) (.k (.v 1) (.k (.v 2) .z)))) (.call f (.k (.idx (.v 0) (.c (.int 2))) (.k (.v 1) (.k (.v 2) .z))))))
  .z)
  .z)
 (.k (.iff (.cmp .Eq (.v 3) (.c (.str "either")))
  (.k (.ret (.orr (.call f (.k (.idx (.v 0) (.c (.int 1))) (.k (.v 1) (.k (.v 2) .z)))) (.call f (.k (.idx (.v 0) (.c (.int 2))) (.k (.v 1) (.k (.v 2) .z))))))
  .z)
  .z)
 (.k (.set (.n 4) (.call v (.k (.idx (.v 0) (.c (.int 1))) (.k (.v 1) (.k (.v 2) .z)))))
 (.k (.set (.n 5) (.call v (.k (.idx (.v 0) (.c (.int 2))) (.k (.v 1) (.k (.v 2) .z)))))
 (.k (.ret (.ife (.cmp .Eq (.v 3) (.c (.str "is"))) (.cmp .Eq (.v 4) (.v 5)) (.cmp .Lt (.v 4) (.v 5))))
 .z))))))))⟩
theorem aQX:(("yes" : Str) == "yes")=true:=by decide +kernel
theorem aQY:(("not" : Str) == "yes")=false:=by decide +kernel
theorem aQZ:(("not" : Str) == "not")=true:=by decide +kernel
theorem aRa:∀p,(xK p == "yes")=false:=by decide +kernel
theorem aRb:∀p,(xK p == "not")=false:=by decide +kernel
theorem aRc:∀p,(xK p == "both")=false:=by decide +kernel
theorem aRd:∀p,(xK p == "either")=false:=by decide +kernel
theorem aRe:∀p,(xK p == "is")=p:=by decide +kernel
theorem aRf:∀p,(sL p == "yes")=false:=by decide +kernel
theorem aRg:∀p,(sL p == "not")=false:=by decide +kernel
theorem aOT:∀p,(sL p == "both")=p:=by decide +kernel
theorem aRh:∀p,(sL p == "either")=!p:=by decide +kernel
theorem Sm.sz_pos:∀s:Sm,1<=s.sz
 | .num _=>Al _|.box _=>Al _|.aft _=>Al _
 | .two _ a b=>by show 1<=1+a.sz+b.sz;omega
theorem Cn.sz_pos:∀s:Cn,1<=s.sz
 | .yes=>Al _|.cmp _ a b=>by show 1<=1+a.sz+b.sz;omega|.nt c=>by show 1<=1+c.sz;omega|.two _ a b=>by show 1<=1+a.sz+b.sz;omega
theorem nL{P:Pg}(hV:P.fns[v]? = some (aGt v))(I:P.fns[f]? = some (aMi v f)){L U:List Int}(ha:L.length=c)(hb:U.length=c)(B:Hp.noL bd=true)(G:pl=false->bd=aL U) :
 ∀(s:Cn) (n:Nat),s.wf c pl->call P (n+s.sz) f [s.d,aL L,bd]=.ok (.bl (s.hold L U),false,false)
 | .yes,n,w=>by exact aG I rfl (v:=.cl (.bl true)) (cs (aR (aZ (v0_ rfl) rfl (fY _ _ rfl))) (dY (cK rfl aQX) (aY rfl)))|.cmp i a b,n,w=>by
  obtain⟨w1,w2⟩:a.wf c pl/\b.wf c pl:=w;have W:=kI hV ha hb B G a (n+b.sz) w1;rw[show n+b.sz+a.sz=n+a.sz+b.sz by omega] at W;have e:n+Cn.sz (.cmp i a b)=n+a.sz+b.sz+1:=by show n+(1+a.sz+b.sz)=_;omega
  rw[e];refine aG I rfl (v:=.cl (.bl (Cn.hold L U (.cmp i a b)))) ?_;refine cs (aR (aZ (v0_ (Cn.noL _)) rfl (fY _ _ rfl))) (cs (bQ (cK rfl (aRa i))) (cs (bQ (cK rfl (aRb i))) (cs (bQ (cK rfl (aRc i))) (cs (bQ (cK rfl (aRd i))) (cs (aR (bL (aZ (v0_ (Cn.noL _)) rfl (gO _ _ _ a.noL)) (v1_ (aM _)) (v2_ B) W)) (cs (aR (bL (aZ (v0_ (Cn.noL _)) rfl (aBr _ _ _ _ b.noL)) (v1_ (aM _)) (v2_ B) (kI hV ha hb B G b (n+a.sz) w2))) (aY (vB (cK rfl (aRe i)) ?_))))))));cases i <;> rfl
 | .nt x,n,w=>by
  have e:n+Cn.sz (.nt x)=n+x.sz+1:=by show n+(1+x.sz)=_;omega
  rw[e];exact aG I rfl (v:=.cl (.bl (Cn.hold L U (.nt x)))) (cs (aR (aZ (v0_ (Cn.noL _)) rfl (fY _ _ rfl))) (cs (bQ (cK rfl aQY)) (dY (cK rfl aQZ) (aY (aMg (bL (aZ (v0_ (Cn.noL _)) rfl (gO _ _ _ x.noL)) (v1_ (aM _)) (v2_ B) (nL hV I ha hb B G x n w)))))))
 | .two p a b,n,w=>by
  obtain⟨w1,w2⟩:a.wf c pl/\b.wf c pl:=w;have W:=nL hV I ha hb B G a (n+b.sz) w1;have c2:=nL hV I ha hb B G b (n+a.sz) w2;rw[show n+b.sz+a.sz=n+a.sz+b.sz by omega] at W;have e:n+Cn.sz (.two p a b)=n+a.sz+b.sz+1:=by show n+(1+a.sz+b.sz)=_;omega
  rw[e];refine aG I rfl (v:=.cl (.bl (Cn.hold L U (.two p a b)))) ?_;refine cs (aR (aZ (v0_ (Cn.noL _)) rfl (fY _ _ rfl))) (cs (bQ (cK rfl (aRf p))) (cs (bQ (cK rfl (aRg p))) ?_));cases p with
  | true=>exact dY (cK rfl (aOT true)) (aY (aIK (bL (aZ (v0_ (Cn.noL _)) rfl (gO _ _ _ a.noL)) (v1_ (aM _)) (v2_ B) W) (bL (aZ (v0_ (Cn.noL _)) rfl (aBr _ _ _ _ b.noL)) (v1_ (aM _)) (v2_ B) c2)))|false=>exact cs (bQ (cK rfl (aOT false))) (dY (cK rfl (aRh false)) (aY (aOQ (bL (aZ (v0_ (Cn.noL _)) rfl (gO _ _ _ a.noL)) (v1_ (aM _)) (v2_ B) W) (bL (aZ (v0_ (Cn.noL _)) rfl (aBr _ _ _ _ b.noL)) (v1_ (aM _)) (v2_ B) c2))))
end HpS
namespace K69
open Hp
noncomputable def f0:Hp.Fn:=⟨3,6,
 (.k (.set (.n 3) (.idx (.v 0) (.i 0))) (.k (.iff (.cmp .Eq (.v 3) (.c (.str "number"))) (.o (.ret (.idx (.v 0) (.i 1)))) .z) (.k (.iff (.cmp .Eq (.v 3) (.c (.str "box"))) (.o (.ret (.idx (.v 1) (.idx (.v 0) (.i 1))))) .z) (.k (.iff (.cmp .Eq (.v 3) (.c (.str "after"))) (.o (.ret (.idx (.v 2) (.idx (.v 0) (.i 1))))) .z) (.k (.set (.n 4) (.call 0 (.q (.idx (.v 0) (.i 1)) (.v 1) (.v 2)))) (.k (.set (.n 5) (.call 0 (.q (.idx (.v 0) (.i 2)) (.v 1) (.v 2)))) (.o (.ret (.ife (.cmp .Eq (.v 3) (.c (.str "plus"))) (.op .Add (.v 4) (.v 5)) (.op .Sub (.v 4) (.v 5)))))))))))⟩
noncomputable def f1:Hp.Fn:=⟨3,6,
 (.k (.set (.n 3) (.idx (.v 0) (.i 0))) (.k (.iff (.cmp .Eq (.v 3) (.c (.str "yes"))) (.o (.ret (.c (.bl true)))) .z) (.k (.iff (.cmp .Eq (.v 3) (.c (.str "not"))) (.o (.ret (.nt (.call 1 (.q (.idx (.v 0) (.i 1)) (.v 1) (.v 2)))))) .z) (.k (.iff (.cmp .Eq (.v 3) (.c (.str "both"))) (.o (.ret (.an (.call 1 (.q (.idx (.v 0) (.i 1)) (.v 1) (.v 2))) (.call 1 (.q (.idx (.v 0) (.i 2)) (.v 1) (.v 2)))))) .z) (.k (.iff (.cmp .Eq (.v 3) (.c (.str "either"))) (.o (.ret (.orr (.call 1 (.q (.idx (.v 0) (.i 1)) (.v 1) (.v 2))) (.call 1 (.q (.idx (.v 0) (.i 2)) (.v 1) (.v 2)))))) .z) (.k (.set (.n 4) (.call 0 (.q (.idx (.v 0) (.i 1)) (.v 1) (.v 2)))) (.k (.set (.n 5) (.call 0 (.q (.idx (.v 0) (.i 2)) (.v 1) (.v 2)))) (.o (.ret (.ife (.cmp .Eq (.v 3) (.c (.str "is"))) (.cmp .Eq (.v 4) (.v 5)) (.cmp .Lt (.v 4) (.v 5))))))))))))⟩
noncomputable def f2:Hp.Fn:=⟨3,7,
 (.k (.iff (.nt (.call 1 (.q (.idx (.v 1) (.i 0)) (.v 2) (.c .non)))) (.o (.ret (.c .non))) .z) (.k (.set (.n 3) (.bi .list (.o (.v 2)))) (.k (.for (.t [4,5]) (.seq (.idx (.v 1) (.i 1))) (.k (.set (.n 6) (.call 0 (.q (.v 5) (.v 2) (.c .non)))) (.k (.iff (.nt (.cmp2 .LtE .LtE (.i 0) (.v 6) (.idx (.idx (.v 0) (.v 4)) (.i 1)))) (.o (.ret (.c .non))) .z) (.o (.setIx 3 (.v 4) (.v 6)))))) (.o (.ret (.bi .tuple (.o (.v 3))))))))⟩
noncomputable def f3:Hp.Fn:=⟨1,2,
 (.k (.iff (.orr (.nt (.isi (.v 0) [.tList])) (.nt (.cmp2 .LtE .LtE (.i 1) (.bi .len (.o (.v 0))) (.i 5)))) (.o (.rse "NoBoxes" false .z)) .z) (.k (.set (.n 1) (.comp 1 [] (.n 0) (.seq (.v 0)) .z (.call 4 (.o (.v 0))))) (.k (.iff (.cmp .Lt (.numset (.comp 2 [] (.t [0,1]) (.seq (.v 1)) .z (.v 0))) (.bi .len (.o (.v 1)))) (.o (.rse "NoBoxes" false .z)) .z) (.k (.iff (.cmp .Gt (.call 6 (.o (.v 1))) (.i 24)) (.o (.rse "TooMany" false .z)) .z) (.o (.retv 1))))))⟩
noncomputable def f4:Hp.Fn:=⟨1,1,
 (.k (.iff (.orr (.nt (.isi (.v 0) [.tTuple])) (.cmp .NotEq (.bi .len (.o (.v 0))) (.i 2))) (.o (.rse "NoBoxes" false .z)) .z) (.k (.iff (.nt (.call 5 (.o (.idx (.v 0) (.i 0))))) (.o (.rse "NoBoxes" false .z)) .z) (.k (.iff (.nt (.call 15 (.q (.idx (.v 0) (.i 1)) (.i 1) (.i 7)))) (.o (.rse "NoBoxes" false .z)) .z) (.o (.ret (.tup (.p (.idx (.v 0) (.i 0)) (.idx (.v 0) (.i 1)))))))))⟩
noncomputable def f5:Hp.Fn:=⟨1,1,
 (.k (.iff (.orr (.nt (.isi (.v 0) [.tStr])) (.nt (.cmp2 .LtE .LtE (.i 1) (.bi .len (.o (.v 0))) (.i 8)))) (.o (.ret (.c (.bl false)))) .z) (.o (.ret (.bi .all (.o (.comp 1 [] (.n 0) (.seq (.v 0)) .z (.cmp .In (.v 0) (.c (.str "abcdefghijklmnopqrstuvwxyz")))))))))⟩
noncomputable def f6:Hp.Fn:=⟨1,4,
 (.k (.set (.n 1) (.i 1)) (.k (.for (.t [2,3]) (.seq (.v 0)) (.o (.set (.n 1) (.op .Mult (.v 1) (.op .Add (.v 3) (.i 1)))))) (.o (.retv 1))))⟩
noncomputable def f7:Hp.Fn:=⟨1,6,
 (.k (.set (.n 1) (.lst (.o (.tup .z)))) (.k (.for (.t [2,3]) (.seq (.v 0)) (.k (.set (.n 4) (.lst .z)) (.k (.for (.n 5) (.seq (.v 1)) (.o (.ext 4 (.comp 1 [5] (.n 0) (.rng (.i 0) (.op .Add (.v 3) (.i 1))) .z (.op .Add (.v 1) (.tup (.o (.v 0)))))))) (.o (.mov 1 4))))) (.o (.retv 1))))⟩
noncomputable def f8:Hp.Fn:=⟨2,2,
 (.k (.iff (.orr (.nt (.isi (.v 1) [.tTuple])) (.cmp .NotEq (.bi .len (.o (.v 1))) (.bi .len (.o (.v 0))))) (.o (.ret (.c (.bl false)))) .z) (.o (.ret (.bi .all (.o (.comp 2 [] (.t [0,1]) (.zip (.v 0) (.v 1)) .z (.call 15 (.q (.v 1) (.i 0) (.idx (.v 0) (.i 1))))))))))⟩
noncomputable def f9:Hp.Fn:=⟨2,2,
 (.o (.ret (.comp 1 [1] (.n 0) (.seq (.call 7 (.o (.v 0)))) (.o (.call 1 (.q (.v 1) (.v 0) (.c .non)))) (.v 0))))⟩
noncomputable def f10:Hp.Fn:=⟨1,1,
 (.o (.ret (.sset (.comp 1 [] (.n 0) (.seq (.call 11 (.o (.v 0)))) (.o (.cmp .Eq (.idx (.v 0) (.i 0)) (.c (.str "box")))) (.idx (.v 0) (.i 1))))))⟩
noncomputable def f11:Hp.Fn:=⟨1,3,
 (.k (.set (.n 1) (.lst (.o (.v 0)))) (.k (.for (.n 2) (.seq (.sli (.v 0) (.o (.i 1)) .z)) (.o (.iff (.isi (.v 2) [.tTuple]) (.o (.ext 1 (.call 11 (.o (.v 2))))) .z))) (.o (.retv 1))))⟩
noncomputable def f12:Hp.Fn:=⟨1,4,
 (.k (.set (.n 1) (.call 10 (.o (.idx (.v 0) (.i 0))))) (.k (.for (.t [2,3]) (.seq (.idx (.v 0) (.i 1))) (.o (.ext 1 (.call 10 (.o (.v 3)))))) (.o (.ret (.sset (.v 1))))))⟩
noncomputable def f13:Hp.Fn:=⟨1,1,
 (.o (.ret (.comp 2 [] (.t [0,1]) (.seq (.idx (.v 0) (.i 1))) .z (.v 0))))⟩
noncomputable def f14:Hp.Fn:=⟨1,1,
 (.o (.ret (.an (.isi (.v 0) [.tInt]) (.nt (.isi (.v 0) [.tBool])))))⟩
noncomputable def f15:Hp.Fn:=⟨3,3,
 (.o (.ret (.an (.call 14 (.o (.v 0))) (.cmp2 .LtE .LtE (.v 1) (.v 0) (.v 2)))))⟩
noncomputable def f16:Hp.Fn:=⟨3,3,
 (.k (.ex (.call 18 (.k (.v 0) (.k (.c (.str "sum")) (.q (.v 1) (.v 2) (.i 0)))))) (.o (.retv 1)))⟩
noncomputable def f17:Hp.Fn:=⟨3,3,
 (.k (.ex (.call 18 (.k (.v 0) (.k (.c (.str "cond")) (.q (.v 1) (.v 2) (.i 0)))))) (.o (.retv 1)))⟩
noncomputable def f18:Hp.Fn:=⟨5,8,
 (.k (.iff (.cmp .Eq (.v 4) (.i 40)) (.o (.rse "TooMany" false .z)) .z) (.k (.set (.n 4) (.op .Add (.v 4) (.i 1))) (.k (.set (.n 5) (.call 19 (.q (.v 1) (.v 2) (.v 3)))) (.k (.for (.t [6,7]) (.zip (.v 5) (.sli (.v 2) (.o (.i 1)) .z)) (.o (.iff (.orr (.cmp .Eq (.v 6) (.c (.str "sum"))) (.cmp .Eq (.v 6) (.c (.str "cond")))) (.o (.set (.n 4) (.call 18 (.k (.v 0) (.k (.v 6) (.q (.v 7) (.v 3) (.v 4))))))) (.o (.ex (.call 20 (.q (.v 0) (.v 6) (.v 7)))))))) (.o (.retv 4))))))⟩
noncomputable def f19:Hp.Fn:=⟨3,5,
 (.k (.iff (.orr (.nt (.isi (.v 1) [.tTuple])) (.orr (.cmp .Eq (.bi .len (.o (.v 1))) (.i 0)) (.nt (.isi (.idx (.v 1) (.i 0)) [.tStr])))) (.o (.rse "NoCond" false .z)) .z) (.k (.set (.n 3) (.idx (.v 1) (.i 0))) (.k (.set (.n 4) (.ife (.cmp .Eq (.v 0) (.c (.str "sum"))) (.tget 0 (.v 3)) (.tget 1 (.v 3)))) (.k (.iff (.orr (.cmp .Is (.v 4) (.c .non)) (.cmp .NotEq (.bi .len (.o (.v 1))) (.op .Add (.bi .len (.o (.v 4))) (.i 1)))) (.o (.rse "NoCond" false .z)) .z) (.k (.iff (.an (.v 2) (.cmp .Eq (.v 3) (.c (.str "after")))) (.o (.rse "NoCond" false .z)) .z) (.o (.retv 4)))))))⟩
noncomputable def f20:Hp.Fn:=⟨3,4,
 (.k (.set (.n 3) (.ife (.cmp .Eq (.v 1) (.c (.str "number"))) (.i 99) (.op .Sub (.bi .len (.o (.v 0))) (.i 1)))) (.o (.iff (.nt (.call 15 (.q (.v 2) (.i 0) (.v 3)))) (.o (.rse "NoCond" false .z)) .z)))⟩
noncomputable def f21:Hp.Fn:=⟨2,2,
 (.k (.iff (.orr (.nt (.isi (.v 1) [.tList])) (.cmp .Gt (.bi .len (.o (.v 1))) (.i 8))) (.o (.rse "NoHand" false .z)) .z) (.o (.ret (.comp 1 [0,1] (.n 0) (.seq (.v 1)) .z (.call 22 (.q (.v 1) (.v 0) (.bi .len (.o (.v 2)))))))))⟩
noncomputable def f22:Hp.Fn:=⟨3,3,
 (.k (.iff (.orr (.nt (.isi (.v 1) [.tList])) (.nt (.cmp2 .LtE .LtE (.i 1) (.bi .len (.o (.v 1))) (.i 4)))) (.o (.rse "NoHand" false .z)) .z) (.o (.ret (.comp 1 [0,2] (.n 0) (.seq (.v 1)) .z (.call 23 (.q (.v 1) (.v 0) (.v 2)))))))⟩
noncomputable def f23:Hp.Fn:=⟨3,3,
 (.k (.iff (.orr (.nt (.isi (.v 1) [.tTuple])) (.cmp .NotEq (.bi .len (.o (.v 1))) (.i 3))) (.o (.rse "NoHand" false .z)) .z) (.k (.ex (.call 24 (.p (.v 0) (.idx (.v 1) (.i 0))))) (.k (.ex (.call 25 (.p (.v 0) (.idx (.v 1) (.i 1))))) (.k (.iff (.nt (.call 15 (.q (.idx (.v 1) (.i 2)) (.i 0) (.v 2)))) (.o (.rse "NoHand" false .z)) .z) (.o (.retv 1))))))⟩
noncomputable def f24:Hp.Fn:=⟨2,2,
 (.o (.tryN (.o (.ex (.call 17 (.q (.v 0) (.v 1) (.c (.bl true))))))))⟩
noncomputable def f25:Hp.Fn:=⟨2,4,
 (.k (.iff (.nt (.isi (.v 1) [.tTuple])) (.o (.rse "NoHand" false .z)) .z) (.k (.set (.n 2) (.i 0)) (.o (.for (.n 3) (.seq (.v 1)) (.k (.ex (.call 26 (.q (.v 0) (.v 3) (.v 2)))) (.o (.set (.n 2) (.op .Add (.idx (.v 3) (.i 0)) (.i 1)))))))))⟩
noncomputable def f26:Hp.Fn:=⟨3,3,
 (.k (.iff (.orr (.nt (.isi (.v 1) [.tTuple])) (.cmp .NotEq (.bi .len (.o (.v 1))) (.i 2))) (.o (.rse "NoHand" false .z)) .z) (.k (.iff (.nt (.call 15 (.q (.idx (.v 1) (.i 0)) (.v 2) (.op .Sub (.bi .len (.o (.v 0))) (.i 1))))) (.o (.rse "NoHand" false .z)) .z) (.o (.tryN (.o (.ex (.call 16 (.q (.v 0) (.idx (.v 1) (.i 1)) (.c (.bl true))))))))))⟩
noncomputable def f27:Hp.Fn:=⟨5,10,
 (.k (.set (.n 5) (.call 3 (.o (.v 0)))) (.k (.set (.n 6) (.call 29 (.q (.v 5) (.v 1) (.c (.bl true))))) (.k (.set (.n 7) (.call 31 (.p (.v 5) (.v 2)))) (.k (.set (.n 8) (.call 30 (.k (.v 5) (.q (.v 3) (.bi .len (.o (.v 7))) (.c (.bl false)))))) (.k (.set (.n 9) (.call 32 (.q (.v 5) (.v 4) (.v 7)))) (.k (.iff (.cmp .Gt (.call 34 (.p (.v 5) (.v 7))) (.i 1000)) (.o (.rse "TooMany" false .z)) .z) (.o (.ret (.tup (.k (.v 5) (.k (.v 6) (.q (.v 7) (.v 8) (.v 9)))))))))))))⟩
noncomputable def f28:Hp.Fn:=⟨2,2,
 (.o (.ret (.ife (.cmp2 .LtE .Lt (.i 0) (.v 1) (.bi .len (.o (.v 0)))) (.idx (.v 0) (.v 1)) (.lst .z))))⟩
noncomputable def f29:Hp.Fn:=⟨3,3,
 (.o (.tryN (.o (.ret (.call 17 (.q (.v 0) (.v 1) (.v 2)))))))⟩
noncomputable def f30:Hp.Fn:=⟨4,4,
 (.k (.iff (.orr (.nt (.isi (.v 1) [.tList])) (.cmp .NotEq (.bi .len (.o (.v 1))) (.v 2))) (.o (.rse "NoHouse" false .z)) .z) (.o (.ret (.comp 1 [0,3] (.n 0) (.seq (.v 1)) .z (.call 29 (.q (.v 1) (.v 0) (.v 2)))))))⟩
noncomputable def f31:Hp.Fn:=⟨2,2,
 (.k (.iff (.orr (.nt (.isi (.v 1) [.tList])) (.nt (.cmp2 .LtE .LtE (.i 1) (.bi .len (.o (.v 1))) (.i 3)))) (.o (.rse "NoHouse" false .z)) .z) (.o (.tryN (.o (.ret (.comp 1 [0] (.n 0) (.seq (.v 1)) .z (.call 21 (.p (.v 1) (.v 0)))))))))⟩
noncomputable def f32:Hp.Fn:=⟨3,3,
 (.k (.iff (.orr (.nt (.isi (.v 1) [.tList])) (.cmp .NotEq (.bi .len (.o (.v 1))) (.bi .len (.o (.v 2))))) (.o (.rse "NoHouse" false .z)) .z) (.o (.ret (.comp 2 [0] (.t [0,1]) (.zip (.v 1) (.v 2)) .z (.call 30 (.k (.v 2) (.q (.v 0) (.call 33 (.o (.v 1))) (.c (.bl true)))))))))⟩
noncomputable def f33:Hp.Fn:=⟨1,1,
 (.o (.ret (.op .Add (.bi .len (.o (.v 0))) (.i 1))))⟩
noncomputable def f34:Hp.Fn:=⟨2,4,
 (.k (.set (.n 2) (.call 6 (.o (.v 0)))) (.k (.for (.n 3) (.seq (.v 1)) (.o (.set (.n 2) (.op .Mult (.v 2) (.call 33 (.o (.v 3))))))) (.o (.retv 2))))⟩
noncomputable def f35:Hp.Fn:=⟨3,9,
 (.k (.set (.n 3) (.idx (.v 2) (.i 0))) (.k (.iff (.nt (.cmp2 .LtE .Lt (.i 0) (.v 3) (.bi .len (.o (.idx (.v 0) (.i 2)))))) (.o (.ret (.c .non))) .z) (.k (.set (.n 4) (.idx (.v 1) (.i 0))) (.k (.set (.n 5) (.idx (.v 1) (.i 1))) (.k (.set (.n 6) (.call 28 (.p (.idx (.idx (.v 0) (.i 2)) (.v 3)) (.idx (.v 5) (.v 3))))) (.k (.iff (.nt (.cmp2 .LtE .Lt (.i 0) (.idx (.v 2) (.i 1)) (.bi .len (.o (.v 6))))) (.o (.ret (.c .non))) .z) (.k (.set (.n 7) (.idx (.v 6) (.idx (.v 2) (.i 1)))) (.k (.set (.n 8) (.call 2 (.q (.idx (.v 0) (.i 0)) (.v 7) (.v 4)))) (.k (.iff (.cmp .Is (.v 8) (.c .non)) (.o (.ret (.c .non))) .z) (.o (.ret (.tup (.p (.v 8) (.op .Add (.op .Add (.sli (.v 5) .z (.o (.v 3))) (.tup (.o (.idx (.v 7) (.i 2))))) (.sli (.v 5) (.o (.op .Add (.v 3) (.i 1))) .z)))))))))))))))⟩
noncomputable def f36:Hp.Fn:=⟨3,7,
 (.k (.iff (.orr (.nt (.call 8 (.p (.idx (.v 0) (.i 0)) (.v 1)))) (.nt (.call 1 (.q (.idx (.v 0) (.i 1)) (.v 1) (.c .non))))) (.o (.rse "NoStart" false .z)) .z) (.k (.set (.n 3) (.call 37 (.p (.v 0) (.v 1)))) (.k (.set (.n 4) (.lst (.o (.v 3)))) (.k (.for (.t [5,6]) (.enum (.v 2)) (.k (.set (.n 3) (.call 35 (.q (.v 0) (.v 3) (.v 6)))) (.k (.iff (.cmp .Is (.v 3) (.c .non)) (.o (.rse "NoStep" true (.o (.v 5)))) .z) (.o (.app 4 (.v 3)))))) (.o (.retv 4))))))⟩
noncomputable def f37:Hp.Fn:=⟨2,2,
 (.o (.ret (.tup (.p (.v 1) (.bi .tuple (.o (.comp 1 [] (.n 0) (.seq (.idx (.v 0) (.i 2))) .z (.i 0))))))))⟩
noncomputable def f38:Hp.Fn:=⟨3,4,
 (.k (.set (.n 3) (.call 36 (.q (.v 0) (.v 1) (.v 2)))) (.o (.ret (.comp 2 [] (.t [0,1]) (.zip (.v 2) (.v 3)) .z (.tup (.q (.idx (.v 0) (.i 0)) (.idx (.idx (.v 1) (.i 1)) (.idx (.v 0) (.i 0))) (.idx (.v 0) (.i 1))))))))⟩
noncomputable def f39:Hp.Fn:=⟨3,3,
 (.o (.ret (.call 41 (.p (.call 40 (.p (.v 0) (.v 1))) (.call 40 (.p (.v 0) (.v 2)))))))⟩
noncomputable def f40:Hp.Fn:=⟨2,3,
 (.k (.set (.n 2) (.idx (.call 28 (.p (.idx (.idx (.v 0) (.i 2)) (.idx (.v 1) (.i 0))) (.idx (.v 1) (.i 1)))) (.idx (.v 1) (.i 2)))) (.o (.ret (.tup (.q (.idx (.v 1) (.i 0)) (.call 13 (.o (.v 2))) (.op .Add (.call 12 (.o (.v 2))) (.call 13 (.o (.v 2)))))))))⟩
noncomputable def f41:Hp.Fn:=⟨2,2,
 (.o (.ret (.an (.cmp .NotEq (.idx (.v 0) (.i 0)) (.idx (.v 1) (.i 0))) (.an (.nt (.call 42 (.p (.idx (.v 0) (.i 1)) (.idx (.v 1) (.i 2))))) (.nt (.call 42 (.p (.idx (.v 1) (.i 1)) (.idx (.v 0) (.i 2)))))))))⟩
noncomputable def f42:Hp.Fn:=⟨2,2,
 (.o (.ret (.bi .any (.o (.comp 1 [1] (.n 0) (.seq (.v 0)) .z (.cmp .In (.v 0) (.v 1)))))))⟩
noncomputable def f43:Hp.Fn:=⟨2,5,
 (.k (.set (.n 2) (.lst .z)) (.k (.set (.n 3) (.op .Add (.op .Mod (.v 0) (.i 2147483647)) (.i 48271))) (.k (.for (.n 4) (.rng (.i 0) (.op .Add (.v 1) (.i 1))) (.k (.set (.n 3) (.op .Mod (.op .Add (.op .Add (.op .Mult (.v 3) (.v 3)) (.op .Mult (.i 48271) (.v 3))) (.v 4)) (.i 2147483647))) (.o (.app 2 (.v 3))))) (.o (.ret (.sli (.v 2) (.o (.i 1)) .z))))))⟩
noncomputable def f44:Hp.Fn:=⟨4,4,
 (.k (.iff (.cmp .Eq (.v 2) (.i 0)) (.o (.ret (.idx (.lst (.q (.lst (.o (.i 0))) (.lst (.p (.i 1) (.i 2))) (.lst (.o (.i 0))))) (.v 1)))) .z) (.k (.iff (.cmp .Eq (.op .Mod (.v 0) (.i 4)) (.i 0)) (.o (.ret (.comp 1 [] (.n 0) (.rng (.i 0) (.v 3)) .z (.v 0)))) .z) (.k (.iff (.cmp .Eq (.op .Mod (.v 0) (.i 4)) (.i 1)) (.o (.ret (.lst (.o (.v 1))))) .z) (.k (.iff (.cmp .Eq (.op .Mod (.v 0) (.i 4)) (.i 2)) (.o (.ret (.idx (.lst (.q (.lst (.o (.i 0))) (.lst (.p (.i 1) (.i 2))) (.lst (.o (.i 0))))) (.v 1)))) .z) (.o (.ret (.lst (.p (.v 1) (.i 2)))))))))⟩
noncomputable def f45:Hp.Fn:=⟨3,9,
 (.k (.set (.n 3) (.idx (.v 2) (.op .Mod (.idx (.v 0) (.i 0)) (.bi .len (.o (.v 2)))))) (.k (.set (.n 4) (.tup (.p (.c (.str "number")) (.op .Mod (.idx (.v 0) (.i 1)) (.i 3))))) (.k (.set (.n 5) (.tup (.q (.idx (.lst (.p (.c (.str "is")) (.c (.str "less")))) (.op .Mod (.idx (.v 0) (.i 2)) (.i 2))) (.tup (.p (.c (.str "box")) (.v 3))) (.v 4)))) (.k (.set (.n 6) (.tup (.p (.c (.str "box")) (.idx (.v 2) (.op .Mod (.op .FloorDiv (.idx (.v 0) (.i 1)) (.i 3)) (.bi .len (.o (.v 2)))))))) (.k (.set (.n 7) (.lst (.k (.tup (.o (.c (.str "yes")))) (.k (.tup (.o (.c (.str "yes")))) (.q (.tup (.o (.c (.str "yes")))) (.v 5) (.tup (.p (.c (.str "not")) (.v 5)))))))) (.k (.set (.n 8) (.tup (.q (.c (.str "is")) (.tup (.q (.c (.str "minus")) (.v 6) (.tup (.p (.c (.str "box")) (.v 3))))) (.tup (.p (.c (.str "number")) (.i 0)))))) (.k (.app 7 (.tup (.q (.c (.str "either")) (.v 5) (.v 8)))) (.k (.set (.n 8) (.tup (.q (.c (.str "less")) (.v 6) (.tup (.q (.c (.str "plus")) (.tup (.p (.c (.str "box")) (.v 3))) (.tup (.p (.c (.str "number")) (.i 1)))))))) (.o (.ret (.idx (.op .Add (.v 7) (.lst (.o (.tup (.q (.c (.str "both")) (.v 8) (.tup (.p (.c (.str "not")) (.v 5)))))))) (.op .Mod (.idx (.v 0) (.i 3)) (.i 7)))))))))))))⟩
noncomputable def f46:Hp.Fn:=⟨3,9,
 (.k (.set (.n 3) (.lst .z)) (.k (.for (.n 4) (.rng (.i 0) (.op .Mod (.idx (.v 0) (.i 0)) (.i 3))) (.k (.set (.n 5) (.idx (.v 2) (.op .Mod (.idx (.v 0) (.op .Add (.i 1) (.v 4))) (.bi .len (.o (.v 2)))))) (.k (.set (.n 6) (.tup (.p (.c (.str "number")) (.idx (.idx (.v 1) (.v 5)) (.i 1))))) (.k (.set (.n 7) (.tup (.p (.c (.str "box")) (.idx (.v 2) (.op .Mod (.idx (.v 0) (.op .Add (.i 3) (.v 4))) (.bi .len (.o (.v 2)))))))) (.k (.set (.n 8) (.lst (.p (.tup (.q (.c (.str "minus")) (.v 6) (.tup (.p (.c (.str "box")) (.v 5))))) (.tup (.p (.c (.str "number")) (.op .Mod (.idx (.v 0) (.op .Add (.i 3) (.v 4))) (.i 2))))))) (.k (.set (.n 8) (.op .Add (.v 8) (.lst (.p (.v 7) (.tup (.q (.c (.str "plus")) (.v 7) (.tup (.p (.c (.str "number")) (.i 0))))))))) (.o (.iff (.orr (.cmp .Eq (.bi .len (.o (.v 3))) (.i 0)) (.cmp .Lt (.idx (.idx (.v 3) (.neg (.i 1))) (.i 0)) (.v 5))) (.o (.app 3 (.tup (.p (.v 5) (.idx (.v 8) (.op .Mod (.idx (.v 0) (.op .Add (.i 5) (.v 4))) (.i 4))))))) .z)))))))) (.o (.ret (.bi .tuple (.o (.v 3)))))))⟩
noncomputable def f47:Hp.Fn:=⟨5,14,
 (.k (.set (.n 5) (.call 43 (.p (.v 0) (.op .Add (.i 3) (.op .Mult (.i 14) (.v 3)))))) (.k (.set (.n 6) (.call 44 (.k (.idx (.v 5) (.i 0)) (.q (.v 2) (.v 4) (.bi .len (.o (.v 1))))))) (.k (.set (.n 7) (.lst .z)) (.k (.for (.n 8) (.rng (.i 0) (.v 3)) (.k (.set (.n 9) (.lst .z)) (.k (.for (.n 10) (.rng (.i 0) (.op .Add (.i 1) (.op .Mod (.op .FloorDiv (.idx (.v 5) (.i 1)) (.op .Add (.v 8) (.i 1))) (.i 4)))) (.k (.set (.n 11) (.call 43 (.p (.idx (.v 5) (.op .Add (.op .Add (.i 3) (.op .Mult (.i 14) (.v 8))) (.v 10))) (.i 12)))) (.k (.set (.n 12) (.op .Mod (.idx (.v 11) (.i 11)) (.op .Add (.v 3) (.bi .int (.o (.cmp .Eq (.op .Mod (.idx (.v 5) (.i 2)) (.i 5)) (.i 0))))))) (.k (.set (.n 13) (.call 45 (.q (.v 11) (.v 1) (.v 6)))) (.o (.app 9 (.tup (.q (.v 13) (.call 46 (.q (.sli (.v 11) (.o (.i 4)) (.o (.i 11))) (.v 1) (.v 6))) (.v 12))))))))) (.o (.app 7 (.v 9)))))) (.o (.retv 7))))))⟩
noncomputable def f48:Hp.Fn:=⟨1,9,
 (.k (.set (.n 1) (.call 43 (.p (.idx (.op .Add (.v 0) (.lst (.o (.i 0)))) (.i 0)) (.i 9)))) (.k (.set (.n 2) (.lst (.q (.tup (.p (.c (.str "a")) (.op .Add (.i 1) (.op .Mod (.idx (.v 1) (.i 0)) (.i 2))))) (.tup (.p (.c (.str "b")) (.op .Add (.i 1) (.op .Mod (.idx (.v 1) (.i 1)) (.i 2))))) (.tup (.p (.c (.str "c")) (.i 1)))))) (.k (.iff (.an (.cmp .Eq (.op .Add (.idx (.idx (.v 2) (.i 0)) (.i 1)) (.idx (.idx (.v 2) (.i 1)) (.i 1))) (.i 2)) (.cmp .Eq (.op .Mod (.idx (.v 1) (.i 6)) (.i 3)) (.i 0))) (.o (.app 2 (.tup (.p (.c (.str "d")) (.op .Add (.i 1) (.op .Mod (.op .FloorDiv (.idx (.v 1) (.i 6)) (.i 3)) (.i 2))))))) .z) (.k (.set (.n 3) (.lst .z)) (.k (.for (.n 4) (.rng (.i 0) (.op .Add (.i 2) (.op .Mod (.idx (.v 1) (.i 2)) (.i 2)))) (.k (.set (.n 5) (.op .Add (.i 1) (.op .Mod (.idx (.v 1) (.op .Add (.i 3) (.v 4))) (.idx (.lst (.p (.i 3) (.i 2))) (.op .Mod (.idx (.v 1) (.i 2)) (.i 2)))))) (.k (.set (.n 5) (.op .Mult (.v 5) (.bi .int (.o (.cmp .Gt (.op .Mod (.op .FloorDiv (.idx (.v 1) (.op .Add (.i 3) (.v 4))) (.i 6)) (.i 9)) (.i 0)))))) (.k (.set (.n 6) (.op .Add (.idx (.op .Add (.v 0) (.lst (.k (.i 0) (.q (.i 0) (.i 0) (.i 0))))) (.op .Add (.i 1) (.v 4))) (.op .Mult (.i 7) (.v 4)))) (.o (.app 3 (.call 47 (.k (.v 6) (.k (.v 2) (.q (.v 4) (.v 5) (.op .Mod (.idx (.v 1) (.i 8)) (.i 3)))))))))))) (.k (.set (.n 7) (.idx (.lst (.p (.tup (.o (.c (.str "yes")))) (.tup (.q (.c (.str "less")) (.tup (.p (.c (.str "box")) (.i 0))) (.tup (.p (.c (.str "number")) (.i 1))))))) (.op .Mod (.idx (.v 1) (.i 7)) (.i 2)))) (.k (.set (.n 8) (.comp 1 [] (.n 0) (.seq (.v 3)) .z (.op .Mult (.lst (.o (.tup (.o (.c (.str "yes")))))) (.op .Add (.bi .len (.o (.v 0))) (.i 1))))) (.o (.ret (.call 27 (.k (.v 2) (.k (.v 7) (.q (.v 3) (.comp 1 [] (.n 0) (.seq (.v 3)) .z (.tup (.o (.c (.str "yes"))))) (.v 8))))))))))))))⟩
noncomputable def f49:Hp.Fn:=⟨2,3,
 (.k (.set (.n 2) (.call 9 (.p (.idx (.v 1) (.i 0)) (.idx (.v 1) (.i 1))))) (.o (.ret (.idx (.v 2) (.op .Mod (.idx (.call 43 (.p (.idx (.op .Add (.v 0) (.lst (.o (.i 0)))) (.i 0)) (.i 10))) (.i 9)) (.bi .len (.o (.v 2))))))))⟩
noncomputable def f50:Hp.Fn:=⟨2,5,
 (.k (.set (.n 2) (.lst .z)) (.k (.for (.n 3) (.rng (.i 0) (.bi .len (.o (.idx (.v 0) (.i 2))))) (.o (.for (.n 4) (.rng (.i 0) (.i 4)) (.o (.iff (.cmp .IsNot (.call 35 (.q (.v 0) (.v 1) (.tup (.p (.v 3) (.v 4))))) (.c .non)) (.o (.app 2 (.tup (.p (.v 3) (.v 4))))) .z))))) (.o (.retv 2))))⟩
noncomputable def f51:Hp.Fn:=⟨5,11,
 (.k (.set (.n 5) (.tup (.p (.v 2) (.bi .tuple (.o (.comp 1 [] (.n 0) (.seq (.idx (.v 1) (.i 2))) .z (.i 0))))))) (.k (.set (.n 6) (.lst .z)) (.k (.for (.n 7) (.rng (.i 0) (.v 4)) (.k (.set (.n 8) (.call 50 (.p (.v 1) (.v 5)))) (.o (.iff (.cmp .NotEq (.v 8) (.lst .z)) (.k (.set (.n 9) (.op .Add (.op .Mult (.i 11) (.v 7)) (.bi .len (.o (.v 0))))) (.k (.iff (.cmp .Lt (.op .Add (.v 3) (.v 7)) (.bi .len (.o (.v 0)))) (.o (.set (.n 9) (.idx (.v 0) (.op .Add (.v 3) (.v 7))))) .z) (.k (.set (.n 10) (.idx (.v 8) (.op .Mod (.idx (.call 43 (.p (.v 9) (.i 1))) (.i 0)) (.bi .len (.o (.v 8)))))) (.k (.app 6 (.v 10)) (.o (.set (.n 5) (.call 35 (.q (.v 1) (.v 5) (.v 10))))))))) .z)))) (.o (.retv 6)))))⟩
noncomputable def f52:Hp.Fn:=⟨4,5,
 (.k (.set (.n 4) (.call 38 (.q (.v 0) (.v 1) (.v 2)))) (.k (.iff (.orr (.nt (.cmp2 .LtE .Lt (.i 0) (.v 3) (.op .Sub (.bi .len (.o (.v 4))) (.i 1)))) (.nt (.call 39 (.q (.v 0) (.idx (.v 4) (.v 3)) (.idx (.v 4) (.op .Add (.v 3) (.i 1))))))) (.o (.ret (.c .non))) .z) (.o (.ret (.op .Add (.op .Add (.sli (.v 2) .z (.o (.v 3))) (.lst (.p (.idx (.v 2) (.op .Add (.v 3) (.i 1))) (.idx (.v 2) (.v 3))))) (.sli (.v 2) (.o (.op .Add (.v 3) (.i 2))) .z))))))⟩
noncomputable def f53:Hp.Fn:=⟨3,7,
 (.k (.set (.n 3) (.comp 2 [0] (.t [0,1]) (.zip (.v 2) (.call 38 (.q (.v 0) (.v 1) (.v 2)))) .z (.tup (.p (.v 0) (.call 40 (.p (.v 2) (.v 1))))))) (.k (.set (.n 4) (.lst .z)) (.k (.set (.n 5) (.lst .z)) (.k (.whl (.v 3) (.k (.set (.n 6) (.call 54 (.o (.v 3)))) (.k (.ext 5 (.comp 1 [4] (.n 0) (.dwn (.op .Sub (.v 6) (.i 1))) .z (.op .Add (.bi .len (.o (.v 1))) (.v 0)))) (.o (.appPop 4 3 (.v 6) 0))))) (.o (.ret (.tup (.p (.v 4) (.v 5)))))))))⟩
noncomputable def f54:Hp.Fn:=⟨1,3,
 (.k (.set (.n 1) (.i 0)) (.k (.for (.n 2) (.rng (.i 1) (.bi .len (.o (.v 0)))) (.o (.iff (.an (.cmp .Lt (.idx (.idx (.v 0) (.v 2)) (.i 0)) (.idx (.idx (.v 0) (.v 1)) (.i 0))) (.call 55 (.p (.v 0) (.v 2)))) (.o (.mov 1 2)) .z))) (.o (.retv 1))))⟩
noncomputable def f55:Hp.Fn:=⟨2,2,
 (.o (.ret (.bi .all (.o (.comp 2 [0,1] (.t [0,1]) (.seq (.sli (.v 0) .z (.o (.v 1)))) .z (.call 41 (.p (.idx (.idx (.v 2) (.v 3)) (.i 1)) (.v 1))))))))⟩
noncomputable def f56:Hp.Fn:=⟨4,6,
 (.k (.set (.n 4) (.call 53 (.q (.v 0) (.v 1) (.v 2)))) (.k (.set (.n 5) (.call 53 (.q (.v 0) (.v 1) (.v 3)))) (.o (.ret (.cmp .Eq (.idx (.v 4) (.i 0)) (.idx (.v 5) (.i 0)))))))⟩
noncomputable def f57:Hp.Fn:=⟨2,4,
 (.k (.set (.n 2) (.lst (.k (.tup (.p (.neg (.i 1)) (.i 0))) (.k (.tup (.p (.bi .len (.o (.idx (.v 0) (.i 2)))) (.i 0))) (.q (.tup (.p (.i 0) (.neg (.i 1)))) (.tup (.p (.i 0) (.i 9))) (.tup (.p (.i 1) (.i 2)))))))) (.k (.for (.n 3) (.rng (.i 0) (.bi .len (.o (.idx (.v 0) (.i 2))))) (.o (.set (.n 2) (.op .Add (.v 2) (.lst (.p (.tup (.p (.v 3) (.i 0))) (.tup (.p (.v 3) (.i 1))))))))) (.o (.ret (.comp 1 [0,1] (.n 0) (.seq (.v 2)) (.o (.cmp .Is (.call 35 (.q (.v 1) (.v 2) (.v 0))) (.c .non))) (.v 0))))))⟩
noncomputable def f58:Hp.Fn:=⟨4,8,
 (.k (.set (.n 4) (.call 36 (.q (.v 0) (.v 1) (.v 2)))) (.k (.set (.n 5) (.op .Mod (.idx (.v 3) (.i 0)) (.bi .len (.o (.v 4))))) (.k (.set (.n 6) (.call 57 (.p (.v 0) (.idx (.v 4) (.v 5))))) (.k (.set (.n 7) (.op .Add (.op .Add (.sli (.v 2) .z (.o (.v 5))) (.lst (.o (.idx (.v 6) (.op .Mod (.idx (.v 3) (.i 1)) (.bi .len (.o (.v 6)))))))) (.sli (.v 2) (.o (.v 5)) .z))) (.k (.iff (.cmp .Eq (.op .Mod (.idx (.v 3) (.i 2)) (.i 2)) (.i 0)) (.o (.app 7 (.tup (.p (.i 0) (.i 7))))) .z) (.o (.ret (.tup (.p (.v 7) (.v 5))))))))))⟩
noncomputable def f59:Hp.Fn:=⟨2,8,
 (.k (.set (.n 2) (.idx (.v 0) (.i 0))) (.k (.set (.n 3) (.idx (.idx (.v 2) (.i 1)) (.i 1))) (.k (.set (.n 4) (.call 9 (.p (.v 2) (.idx (.v 0) (.i 1))))) (.k (.set (.n 5) (.comp 1 [4] (.n 0) (.seq (.call 7 (.o (.v 2)))) (.o (.cmp .NotIn (.v 0) (.v 1))) (.v 0))) (.k (.set (.n 6) (.op .Mult (.tup (.o (.i 0))) (.op .Sub (.bi .len (.o (.v 2))) (.i 2)))) (.k (.set (.n 7) (.lst (.k (.op .Add (.tup (.o (.i 0))) (.v 6)) (.q (.op .Add (.tup (.q (.i 0) (.i 0) (.i 0))) (.v 6)) (.op .Add (.tup (.p (.i 0) (.op .Add (.v 3) (.i 1)))) (.v 6)) (.op .Add (.tup (.p (.i 0) (.neg (.i 1)))) (.v 6)))))) (.k (.set (.n 7) (.op .Add (.v 7) (.lst (.k (.op .Add (.tup (.p (.i 0) (.c (.bl false)))) (.v 6)) (.q (.op .Add (.lst (.p (.i 0) (.i 0))) (.bi .list (.o (.v 6)))) (.c .non) (.op .Add (.tup (.p (.c (.str "0")) (.i 0))) (.v 6))))))) (.k (.set (.n 7) (.op .Add (.op .Add (.v 7) (.lst (.p (.tup .z) (.op .Add (.tup (.p (.i 3) (.i 0))) (.v 6))))) (.v 5))) (.o (.ret (.idx (.v 7) (.op .Mod (.idx (.v 1) (.i 3)) (.bi .len (.o (.v 7)))))))))))))))⟩
noncomputable def f60:Hp.Fn:=⟨5,7,
 (.k (.set (.n 5) (.c .non)) (.k (.tryA (.o (.iff (.cmp .Eq (.v 0) (.i 0)) (.o (.ex (.call 38 (.q (.v 1) (.v 2) (.v 3))))) (.o (.iff (.cmp .Eq (.v 0) (.i 1)) (.o (.ex (.call 52 (.k (.v 1) (.q (.v 2) (.v 3) (.i 0)))))) (.o (.iff (.cmp .Eq (.v 0) (.i 2)) (.o (.ex (.call 53 (.q (.v 1) (.v 2) (.v 3))))) (.o (.ex (.call 56 (.k (.v 1) (.q (.v 2) (.v 3) (.v 4)))))))))))) "PromiseError" 5 6) (.k (.iff (.cmp .Is (.v 5) (.c .non)) (.o (.ret (.c (.str "told")))) .z) (.k (.iff (.orr (.nt (.isx (.v 5) [.tValueError])) (.isx (.v 5) [.own "NoBoxes",.own "NoHouse",.own "TooMany"])) (.o (.ret (.c (.str "other")))) .z) (.k (.iff (.an (.isx (.v 5) [.own "NoStep"]) (.nt (.isx (.v 5) [.own "NoStart"]))) (.o (.ret (.plc 5 "NoStep"))) .z) (.k (.iff (.an (.isx (.v 5) [.own "NoStart"]) (.nt (.isx (.v 5) [.own "NoStep"]))) (.o (.ret (.c (.str "start")))) .z) (.o (.ret (.c (.str "other"))))))))))⟩
noncomputable def f61:Hp.Fn:=⟨4,7,
 (.k (.set (.n 4) (.lst (.p (.bi .list (.o (.idx (.v 2) (.i 0)))) (.bi .list (.o (.idx (.v 2) (.i 1))))))) (.k (.for (.n 5) (.rng (.i 0) (.i 3)) (.o (.iff (.cmp .NotEq (.call 60 (.k (.v 5) (.k (.v 0) (.q (.v 1) (.idx (.v 4) (.i 0)) (.idx (.v 4) (.i 1)))))) (.idx (.v 3) (.i 0))) (.o (.ret (.c (.bl false)))) .z))) (.k (.set (.n 6) (.idx (.v 3) (.i 0))) (.k (.iff (.cmp .Eq (.v 6) (.c (.str "told"))) (.o (.set (.n 6) (.idx (.v 3) (.i 1)))) .z) (.k (.iff (.cmp .NotEq (.call 60 (.k (.i 3) (.k (.v 0) (.q (.v 1) (.idx (.v 4) (.i 0)) (.idx (.v 4) (.i 1)))))) (.v 6)) (.o (.ret (.c (.bl false)))) .z) (.o (.ret (.cmp .Eq (.v 4) (.v 2)))))))))⟩
noncomputable def f62:Hp.Fn:=⟨1,10,
 (.k (.set (.n 1) (.call 48 (.o (.v 0)))) (.k (.set (.n 2) (.call 43 (.p (.idx (.op .Add (.v 0) (.lst (.o (.i 0)))) (.i 0)) (.i 17)))) (.k (.set (.n 3) (.tup (.p (.c (.str "box")) (.op .Mod (.idx (.v 2) (.i 10)) (.i 3))))) (.k (.set (.n 4) (.tup (.q (.c (.str "is")) (.v 3) (.tup (.p (.c (.str "number")) (.i 0)))))) (.k (.set (.n 1) (.call 27 (.k (.idx (.v 1) (.i 0)) (.k (.v 4) (.q (.idx (.v 1) (.i 2)) (.idx (.v 1) (.i 3)) (.idx (.v 1) (.i 4))))))) (.k (.set (.n 5) (.call 49 (.p (.v 0) (.v 1)))) (.k (.set (.n 6) (.lst (.o (.call 51 (.k (.v 0) (.k (.v 1) (.q (.v 5) (.i 4) (.op .Mod (.idx (.v 2) (.i 16)) (.i 13))))))))) (.k (.app 6 (.call 51 (.k (.sli (.v 0) (.o (.i 1)) .z) (.k (.v 1) (.q (.v 5) (.i 4) (.i 5)))))) (.k (.set (.n 7) (.lst (.p (.c (.str "told")) (.c (.str "told"))))) (.k (.iff (.nt (.call 61 (.k (.v 1) (.q (.v 5) (.v 6) (.v 7))))) (.o (.ret (.c (.bl false)))) .z) (.k (.for (.n 8) (.rng (.i 0) (.i 2)) (.o (.iff (.cmp .NotEq (.op .Mod (.idx (.v 2) (.i 11)) (.i 3)) (.op .Add (.v 8) (.i 1))) (.k (.set (.n 9) (.call 58 (.k (.v 1) (.q (.v 5) (.idx (.v 6) (.v 8)) (.sli (.v 2) (.o (.op .Sub (.i 12) (.op .Mult (.i 3) (.v 8)))) .z))))) (.k (.setIx 6 (.v 8) (.idx (.v 9) (.i 0))) (.o (.setIx 7 (.v 8) (.idx (.v 9) (.i 1)))))) .z))) (.k (.iff (.nt (.call 61 (.k (.v 1) (.q (.v 5) (.v 6) (.v 7))))) (.o (.ret (.c (.bl false)))) .z) (.k (.set (.n 5) (.call 59 (.p (.v 1) (.sli (.v 2) (.o (.i 12)) .z)))) (.o (.ret (.call 61 (.k (.v 1) (.q (.v 5) (.v 6) (.lst (.p (.c (.str "start")) (.c (.str "start"))))))))))))))))))))))⟩
noncomputable def pg:Hp.Pg:=⟨[f0,f1,f2,f3,f4,f5,f6,f7,f8,f9,f10,f11,f12,f13,f14,f15,f16,f17,f18,f19,f20,f21,f22,f23,f24,f25,f26,f27,f28,f29,f30,f31,f32,f33,f34,f35,f36,f37,f38,f39,f40,f41,f42,f43,f44,f45,f46,f47,f48,f49,f50,f51,f52,f53,f54,f55,f56,f57,f58,f59,f60,f61,f62],[("NoBoxes",[.own "NoBoxes",.own "PromiseError",.tValueError]),("TooMany",[.own "TooMany",.own "PromiseError",.tValueError]),("NoCond",[.own "NoCond",.own "PromiseError",.tValueError]),("NoHand",[.own "NoHand",.own "PromiseError",.tValueError]),("NoHouse",[.own "NoHouse",.own "PromiseError",.tValueError]),("NoStart",[.own "NoStart",.own "PromiseError",.tValueError]),("NoStep",[.own "NoStep",.own "PromiseError",.tValueError])],[[("number",.tup [.str "number"]),("box",.tup [.str "box"]),("after",.tup [.str "box"]),("plus",.tup [.str "sum",.str "sum"]),("minus",.tup [.str "sum",.str "sum"])],[("yes",.tup []),("is",.tup [.str "sum",.str "sum"]),("less",.tup [.str "sum",.str "sum"]),("not",.tup [.str "cond"]),("both",.tup [.str "cond",.str "cond"]),("either",.tup [.str "cond",.str "cond"])]]⟩
abbrev _root_.Hp.R.c(d:Hp.D):Hp.R Hp.Vl:=.ok (.cl d)
abbrev cP:=Hp.call pg
abbrev eV(n:Nat):=Hp.ev pg (Hp.call pg n)
abbrev eX(n:Nat):=Hp.ex pg (Hp.call pg n)
abbrev eS(n:Nat):=Hp.exs pg (Hp.call pg n)
abbrev eT(n:Nat):=Hp.tst pg (Hp.call pg n)
end K69
namespace K69
open Hp HpS PySem
def drp:Nat->Ss->Ss
 | 0,s=>s|n+1,.k _ s=>drp n s|_+1,.z=>.z
def hdS:Ss->S
 | .k s _=>s|.z=>.pass
abbrev hB(k:Nat)(F:Fn):=hdS (drp k F.body)
structure Way where
 g:Cn
 ps:List (Nat×Sm)
 nx:Int
def fH(p:Nat×Sm):D:=.tup [.int p.1,p.2.d]
def Way.d(w:Way):D:=.tup [w.g.d,.tup (w.ps.map fH),.int w.nx]
def Up(ps:List (Nat×Sm)):Prop:=ps.Pairwise λp q=>p.1<q.1
structure nM (m:Nat) (p:Nat×Sm):Prop where
 box:p.1<m
 wf:p.2.wf m true
 sz:p.2.sz<=3
structure eU (m:Nat) (w:Way):Prop where
 g:w.g.wf m true
 gs:w.g.sz<=31
 ps:∀p∈w.ps,nM m p
 up:Up w.ps
theorem qG(p:Nat×Sm):noL (fH p)=true:=jE rfl p.2.noL
theorem gE(ps:List (Nat×Sm)):noLs (ps.map fH)=true:=bW qG ps
theorem eW(w:Way):noL w.d=true:=by simp[Way.d,noL,noLs,w.g.noL,gE]
theorem aCL(i:Nat)(h:noLs ds=true):biD .tuple [⟨.lst ds,false,false,[i]⟩]=.ok (.cl (.tup ds)):=by show R.ok (Vl.mk (.tup ds) false (false&&!noLs ds) (if noLs ds=true then [] else [i]))=_;rw[h];rfl
theorem stp(h:ex P W Z s=.next Z'):exs P W Z (.k s ss)=exs P W Z' ss:=by rw[cN,h,aLY]
def gP(bs:List (Str×Int))(k:Nat):Int:=(bs.map (·.2)).getD k 0
noncomputable def putF(bs:List (Str×Int))(st:List Int):List Int->List (Nat×Sm)->Option (List Int)
 | acc,[]=>some acc|acc,p::ps=>if 0<=p.2.val st st/\p.2.val st st<=gP bs p.1 then putF bs st (acc.set p.1 (p.2.val st st)) ps else none
def behF(bs:List (Str×Int))(w:Way)(st:List Int):Option (List Int):=if w.g.hold st st then putF bs st st w.ps else none
def stD:Option (List Int)->D
 | none=>.non|some r=>aL r
theorem aMj(h1:ev P W Z a=.ok (.cl (.int x)))(h2:ev P W Z b=.ok (.cl (.int y))):tst P W Z (.cmp2 .LtE .LtE (.i 0) a b)=.ok (decide (0<=x)&&decide (x<=y)):=by
 rw[nF,aA,aH,h1,aH,iG,iG,aGr];cases decide (0<=x) with
 | true=>simp only[ h2,aH,iG,aGr,Bool.true_and]|false=>rfl
theorem xL{bs:List (Str×Int)}(h:k<bs.length):∃b:D,noL b=true/\eA ⟨.lst (aE bs),false,true,[]⟩ (.cl (.int (k:Int)))=.ok (.cl b)/\eA (.cl b) (.cl (.int 1))=.ok (.cl (.int (gP bs k))):=by
 refine⟨box bs[k],nI _,?_,?_⟩;have B:(aE bs).length=bs.length:=by simp[aE]
 have e:(aE bs)[k]? = some (box bs[k]):=by simp[aE,h]
 unfold eA;simp only[ iG,B,fL h,e,Vl.sub,nI,if_true];have:=gO (.str bs[k].1) (.int bs[k].2) [] rfl;unfold box gP;rw[this];simp[h]
theorem aGu(n:Nat){bs:List (Str×Int)}{st:List Int}(hs:st.length=bs.length){s:Sm}(w:s.wf bs.length true)(z:s.sz<=3):call pg (n+3) 0 [s.d,aL st,.non]=.ok (.int (s.val st st),false,false):=by have:=kI (P:=pg) (f:=0) rfl (bd:=.non) (pl:=true) hs hs rfl (λh=>nomatch h) s (n+3-s.sz) w;rwa [show n+3-s.sz+s.sz=n+3 by omega] at this
theorem kJ(n:Nat){bs:List (Str×Int)}{st:List Int}(hs:st.length=bs.length){q:Cn}(w:q.wf bs.length true)(z:q.sz<=31):call pg (n+31) 1 [q.d,aL st,.non]=.ok (.bl (q.hold st st),false,false):=by have:=nL (P:=pg) (f:=1) rfl rfl (bd:=.non) (pl:=true) hs hs rfl (λh=>nomatch h) q (n+31-q.sz) w;rwa [show n+31-q.sz+q.sz=n+31 by omega] at this
abbrev aGv:Ss:=match hdS (drp 2 f2.body) with|.for _ _ b=>b|_=>.z
theorem aIO{p:Nat×Sm}:cR [s0,s1,s2,s3,s4,s5,s6] (.cl (fH p)) (.t [4,5])=.ok [s0,s1,s2,s3,.F (.int p.1),.F p.2.d,s6]:=by unfold cR fH;simp only[ iG,lC,lN,if_true,Bf,EV,Cm,Ja,cS p.2.noL,cS (show noL (.int (p.1:Int))=true from rfl),nJ,lS,lZ]
theorem aGw(B:List Int)(k:Nat)(v:Int):(B.map D.int).set k (.int v)=(B.set k v).map D.int:=by rw[List.map_set]
theorem aGx(n:Nat){bs:List (Str×Int)}{st B:List Int}(hs:st.length=bs.length)(ha:B.length=bs.length)(hb:bs.length<=5){p:Nat×Sm}(o:nM bs.length p)(s1 s4 s5 U:Sl) :
 exs pg (call pg (n+3)) [.T (.lst (aE bs)),s1,.T (aL st),.O (B.map D.int),.F (.int p.1),.F p.2.d,U] aGv =
  if 0<=p.2.val st st/\p.2.val st st<=gP bs p.1 then .next [.T (.lst (aE bs)),s1,.T (aL st),.O ((B.set p.1 (p.2.val st st)).map D.int),.F (.int p.1),.F p.2.d,.F (.int (p.2.val st st))] else .ret (.cl .non):=by
 have L:=aGu n hs o.wf o.sz;generalize p.2.val st st=v at L;obtain⟨b,b1,b2,b3⟩:=xL o.box;have e1:eX (n+3) [.T (.lst (aE bs)),s1,.T (aL st),.O (B.map D.int),.F (.int p.1),.F p.2.d,U] (hdS aGv)=.next [.T (.lst (aE bs)),s1,.T (aL st),.O (B.map D.int),.F (.int p.1),.F p.2.d,.F (.int v)]:=by simp only[ aGv,hdS,drp,f2,kE,eH,aF,dE,zZ,aA,cT,gS,gZ,dM,(hZ 2 true (aM st)),aH,mC,mN,iG,L,aBp,dD,aAf,jD,aCF,nJ,lS,lZ]
 have tt:=aMj (P:=pg) (W:=cP (n+3)) (Z:=[.T (.lst (aE bs)),s1,.T (aL st),.O (B.map D.int),.F (.int p.1),.F p.2.d,.F (.int v)]) (a:=.v 6) (b:=.idx (.idx (.v 0) (.v 4)) (.i 1)) (y:=gP bs p.1) rfl (by
  simp only[ sG,zZ,aA,cT,gS,gZ,aII,aCD,aH,b2,b3])
 refine(stp e1).trans ?_;by_cases G:0<=v/\v<=gP bs p.1;have hd:(decide (0<=v)&&decide (v<=gP bs p.1))=true:=by rw[Ao G.1,Ao G.2];rfl
 rw[if_pos G];have hx:ixN B.length (p.1:Int)=some p.1:=fL (by rw[ha];exact o.box);have I:B.length<=lim:=by unfold lim;omega
 simp only[bT,cN,aCB,gM,sH,tt,aH,hd,Dl,dD,bF,if_false,aLY,aAc,zZ,cT,gS,gZ,aCD,iG,put,aAf,jD,jS,hx,aGw,lM,AF,I,if_true,aON,G3,lS,lZ];have hd:(decide (0<=v)&&decide (v<=gP bs p.1))=false:=by
  cases h:(decide (0<=v)&&decide (v<=gP bs p.1)) with
  | false=>rfl|true=>simp only[bT,bA,AA] at h;exact absurd h G
 rw[if_neg G];simp only[ cN,gM,sH,tt,aH,hd,EL,dD,if_true,xC,aA,aGk]
theorem aAg(n:Nat){bs:List (Str×Int)}{st:List Int}(hs:st.length=bs.length)(hb:bs.length<=5)(s1:Sl):∀(ps:List (Nat×Sm)) (B:List Int) (G I L:Sl),(∀p∈ps,nM bs.length p)->B.length=bs.length ->
 ∃t4 t5 t6,dX (λZ x=>O.from Z (cR Z x (.t [4,5])) λZ'=>exs pg (call pg (n+3)) Z' aGv) (ps.map λp=>Vl.cl (fH p)) [.T (.lst (aE bs)),s1,.T (aL st),.O (B.map D.int),G,I,L] =
  (match putF bs st B ps with|none=>.ret (.cl .non)|some r=>.next [.T (.lst (aE bs)),s1,.T (aL st),.O (r.map D.int),t4,t5,t6])
 | [],B,G,I,L,_,_=>⟨G,I,L,rfl⟩
 | p::ps,B,G,I,L,h,ha=>by rw[mC,dX,aIO,dD,(aGx n hs ha hb (h p Ar) s1 G I L),putF];by_cases U:0<=p.2.val st st/\p.2.val st st<=gP bs p.1;rw[if_pos U,if_pos U];exact aAg n hs hb s1 ps (B.set p.1 (p.2.val st st)) _ _ _ (λq W=>h q (Aj _ W)) (by rw[AF];exact ha);rw[if_neg U,if_neg U];exact⟨G,I,L,rfl⟩
theorem mI(ps:List (Nat×Sm)):items v (ps.map fH)=ps.map λp=>Vl.cl (fH p):=cD qG ps
theorem aBs(n:Nat){bs:List (Str×Int)}{st:List Int}(hs:st.length=bs.length)(hb:bs.length<=5){w:Way}(o:eU bs.length w):call pg (n+32) 2 [.lst (aE bs),w.d,aL st]=.ok (stD (behF bs w st),false,false):=by
 have ch:=kJ n hs o.g o.gs;have G:=hZ 1 true (eW w);have I:=hZ 2 true (aM st);have U:eA (.cl w.d) (.cl (.int 0))=.c w.g.d:=fY w.g.d _ w.g.noL;have i1:eA (.cl w.d) (.cl (.int 1))=.c (.tup (w.ps.map fH)):=gO w.g.d (.tup (w.ps.map fH)) _ (by exact gE _);refine aG rfl rfl (v:=.cl (stD (behF bs w st))) ?_;show eS (n+31) [.T (.lst (aE bs)),.T w.d,.T (aL st),.x,.x,.x,.x] _=_;unfold behF;cases L:w.g.hold st st with
 | false=>rw[L] at ch;simp only[ f2,cN,gM,sH,eG,aF,dE,sG,zZ,aA,cT,gS,gZ,G,I,aH,U,mC,mN,iG,ch,aBp,aGp,EL,dD,if_true,xC,aGk,bF,if_false,stD]|true=>
  rw[L] at ch;obtain⟨t4,t5,t6,hl⟩:=aAg (n+28) hs hb (.T w.d) w.ps st .x .x .x o.ps hs;have W:eX (n+31) [.T (.lst (aE bs)),.T w.d,.T (aL st),.x,.x,.x,.x] (hdS f2.body)=.next [.T (.lst (aE bs)),.T w.d,.T (aL st),.x,.x,.x,.x]:=by simp only[ hdS,f2,aCB,gM,sH,eG,aF,dE,sG,zZ,aA,cT,gS,gZ,G,I,aH,U,mC,mN,iG,ch,aBp,aGp,Dl,dD,bF,if_false]
  have e2:eX (n+31) [.T (.lst (aE bs)),.T w.d,.T (aL st),.x,.x,.x,.x] (hdS (drp 1 f2.body))=.next [.T (.lst (aE bs)),.T w.d,.T (aL st),.O (st.map D.int),.x,.x,.x]:=by
   have B:biD .list [.cl (aL st)]=.ok ⟨.lst (st.map D.int),true,false,[]⟩:=by show R.ok (Vl.mk (.lst (st.map D.int)) true (false&&!noLs (st.map D.int)) (if noLs (st.map D.int)=true then [] else []))=_;rw[nH];rfl
   simp only[ hdS,drp,f2,kE,aGl,aF,dE,zZ,cT,gS,gZ,I,aH,B,dD,jD,aCF,aIH,lS,lZ]
  have hw:walk pg (cP (n+31)) [.T (.lst (aE bs)),.T w.d,.T (aL st),.O (st.map D.int),.x,.x,.x] (.seq (.idx (.v 1) (.i 1)))=.ok (w.ps.map (λp=>Vl.cl (fH p)),[]):=by simp only[ bZ,sG,zZ,aA,cT,gS,gZ,G,aH,i1,iG,mI,aAf]
  refine(stp W).trans ((stp e2).trans ?_);show exs pg (cP (n+31)) _ (.k (.for (.t [4,5]) (.seq (.idx (.v 1) (.i 1))) aGv) _)=_;rw[cN,xD,hw,dD];rw[jD,hl];cases putF bs st st w.ps with
  | none=>rfl|some r=>show exs pg (cP (n+31)) [.T (.lst (aE bs)),.T w.d,.T (aL st),.O (r.map D.int),t4,t5,t6] (.k (.ret (.bi .tuple (.k (.v 3) .z))) .z)=_;rw[cN,xC,aGl,aF,zZ];simp only[ cT,gS,gZ,aCE];simp only[ dE,aH,aCL 3 (nH r),aGk];rfl
theorem nN(Z:Sg)(B:noL a=true)(hb:noL b=true):cR Z (.cl (.tup [a,b])) (.t [i,j])=.ok ((Z.set i (.F a)).set j (.F b)):=by unfold cR;simp only[ iG,lC,lN,if_true,Bf,EV,Cm,Ja,cS B,cS hb,nJ]
theorem fB(Z:Sg):cR Z (.cl d) (.n i)=.ok (Z.set i (.F d)):=by rw[aCF,nJ]
theorem fZ{x y z:Vl}(h1:ev P W Z a=.ok x)(h2:ev P W Z b=.ok y)(B:ev P W Z c=.ok z)(G:W f [x.d,y.d,z.d]=.ok (.bl k,false,false)):tst P W Z (.call f (.k a (.k b (.k c .z))))=.ok k:=by
 have e:evs P W Z (.k a (.k b (.k c .z)))=.ok [x,y,z]:=by rw[aF,h1,aF,h2,aF,B];rfl
 rw[eG,e,aH,show [x,y,z].map (·.d)=[x.d,y.d,z.d] from rfl,G];rfl
theorem aIP{x y z w:Vl}(h1:ev P W Z a=.ok x)(h2:ev P W Z b=.ok y)(B:ev P W Z c=.ok z)(G:ev P W Z e=.ok w)(I:W f [x.d,y.d,z.d,w.d]=.ok (.bl k,false,false)):tst P W Z (.call f (.k a (.k b (.k c (.k e .z)))))=.ok k:=by
 have e:evs P W Z (.k a (.k b (.k c (.k e .z))))=.ok [x,y,z,w]:=by rw[aF,h1,aF,h2,aF,B,aF,G];rfl
 rw[eG,e,aH,show [x,y,z,w].map (·.d)=[x.d,y.d,z.d,w.d] from rfl,I];rfl
theorem cU(h:tst P W Z a=.ok k):tst P W Z (.nt a)=.ok (!k):=by rw[sH,h];rfl
theorem dN{x y:Vl}(h1:ev P W Z a=.ok x)(h2:ev P W Z b=.ok y)(B:W f [x.d,y.d]=.ok (d,false,false)):ev P W Z (.call f (.k a (.k b .z)))=.ok (.cl d):=by
 have e:evs P W Z (.k a (.k b .z))=.ok [x,y]:=by rw[aF,h1,aF,h2];rfl
 rw[eH,e,aH,show [x,y].map (·.d)=[x.d,y.d] from rfl,B];rfl
theorem gQ(h1:ev P W Z a=.ok (.cl x))(h2:ev P W Z b=.ok (.cl y)):ev P W Z (.tup (.k a (.k b .z)))=.ok (.cl (.tup [x,y])):=by rw[wZ,aF,h1,aF,h2];rfl
theorem aBt(h1:ev P W Z a=.ok (.cl x))(h2:ev P W Z b=.ok (.cl y))(B:ev P W Z c=.ok (.cl z)):ev P W Z (.tup (.k a (.k b (.k c .z))))=.ok (.cl (.tup [x,y,z])):=by rw[wZ,aF,h1,aF,h2,aF,B];rfl
theorem nO{v:Vl}{α:Type}{f:α->D}{xs:List α}{k:Nat}{x:α}(G:v.d=.lst (xs.map f))(hx:xs[k]? = some x):eA v (.cl (.int (k:Int)))=.ok (Vl.sub v (f x)):=by
 have B:k<(xs.map f).length:=by rw[lM];exact(Ax.mp hx).1
 have e:(xs.map f)[k]? = some (f x):=by rw[A3,hx];rfl
 unfold eA;simp only[ G,iG,fL B,e]
theorem aOU{v:Vl}{ds:List D}(h:ev P W Z e=.ok v)(hi:(freeze Z v.al)[i]? = some (.own pa ds))(B:ds.length<lim):ex P W Z (.app i e)=.next ((freeze Z v.al).set i (.own (pa||v.pa) (ds++[v.d]))):=by rw[aMd,h,bT,dD];unfold put jS;rw[hi];show(if (ds++[v.d]).length<=lim then O.next _ else .bad)=_;rw[if_pos (by rw[lA];exact B)]
theorem fU{v:Vl}{ds ds':List D}(h:ev P W Z e=.ok v)(hi:(freeze Z v.al)[i]? = some (.O ds))(G:ds.length<lim)(hp:v.pa=false)(B:ds'=ds++[v.d]):ex P W Z (.app i e)=.next ((freeze Z v.al).set i (.O ds')):=by rw[aOU h hi G,hp,B];rfl
theorem bI(h:ev P W Z e=.ok ⟨.lst ds,true,false,[]⟩):ex P W Z (.set (.n i) e)=.next (Z.set i (.O ds)):=by rw[kE,h];rfl
theorem oU(h:tst P W Z c=.ok true)(r:exs P W Z a=.next Z'):ex P W Z (.iff c a b)=.next Z':=by rw[gM,h,dD,if_pos rfl,r]
theorem aMk(h1:tst P W Z a=.ok x)(h2:tst P W Z b=.ok y):tst P W Z (.an a b)=.ok (x&&y):=by rw[aMc,h1];cases x;rfl;exact h2
theorem bM{x y:Vl}(h:ev P W Z a=.ok x)(g:ev P W Z b=.ok y)(e:cZ o x.d y.d=some k):tst P W Z (.cmp o a b)=.ok k:=by rw[aCA,h,aH,g,aH,e]
theorem pS(h:ex P W Z s=.ret v):exs P W Z (.k s ss)=.ret v:=by rw[cN,h];rfl
theorem cW{x:Vl}(h1:ev P W Z a=.ok x)(B:W f [x.d]=.ok (d,fr,false)):ev P W Z (.call f (.k a .z))=.ok ⟨d,fr,false,[]⟩:=by
 have e:evs P W Z (.k a .z)=.ok [x]:=by rw[aF,h1];rfl
 rw[eH,e,aH,show [x].map (·.d)=[x.d] from rfl,B];rfl
theorem aCM(h:tst P W Z a=.ok true):tst P W Z (.orr a b)=.ok true:=by rw[aCz,h];rfl
theorem dZ(h:tst P W Z a=.ok false)(g:tst P W Z b=.ok k):tst P W Z (.orr a b)=.ok k:=by rw[aCz,h,aH,if_neg bN,g]
theorem gR{x y z:Vl}(h1:ev P W Z a=.ok x)(h2:ev P W Z b=.ok y)(B:ev P W Z c=.ok z)(G:W f [x.d,y.d,z.d]=.ok (d,true,false)):ev P W Z (.call f (.k a (.k b (.k c .z))))=.ok ⟨d,true,false,[]⟩:=by
 have e:evs P W Z (.k a (.k b (.k c .z)))=.ok [x,y,z]:=by rw[aF,h1,aF,h2,aF,B];rfl
 rw[eH,e,aH,show [x,y,z].map (·.d)=[x.d,y.d,z.d] from rfl,G];rfl
theorem cG{x y:Vl}(h1:ev P W Z a=.ok x)(h2:ev P W Z b=.ok y)(B:W f [x.d,y.d]=.ok (d,true,false)):ev P W Z (.call f (.k a (.k b .z)))=.ok ⟨d,true,false,[]⟩:=by
 have e:evs P W Z (.k a (.k b .z))=.ok [x,y]:=by rw[aF,h1,aF,h2];rfl
 rw[eH,e,aH,show [x,y].map (·.d)=[x.d,y.d] from rfl,B];rfl
theorem jF{x y z w u:Vl}(h1:ev P W Z a=.ok x)(h2:ev P W Z b=.ok y)(B:ev P W Z c=.ok z)(G:ev P W Z e=.ok w)(I:ev P W Z g=.ok u)(L:W f [x.d,y.d,z.d,w.d,u.d]=.ok (d,false,false)):ev P W Z (.call f (.k a (.k b (.k c (.k e (.k g .z))))))=.ok (.cl d):=by
 have e:evs P W Z (.k a (.k b (.k c (.k e (.k g .z)))))=.ok [x,y,z,w,u]:=by rw[aF,h1,aF,h2,aF,B,aF,G,aF,I];rfl
 rw[eH,e,aH,show [x,y,z,w,u].map (·.d)=[x.d,y.d,z.d,w.d,u.d] from rfl,L];rfl
theorem aBu(h:ev P W Z e=.ok ⟨d,false,true,[]⟩):ex P W Z (.set (.n i) e)=.next (Z.set i (.T d)):=by rw[kE,h];rfl
theorem aMl(B:walk P W Z it=.ok (xs,[])):ex P W Z (.for t it b)=dX (λZ x=>O.from Z (cR Z x t) λZ'=>exs P W Z' b) xs Z:=by rw[xD,B];rfl
theorem sM{x y:Vl}(h1:ev P W Z a=.ok x)(h2:ev P W Z b=.ok y)(G:W f [x.d,y.d]=.ok (d,false,true))(hp:dP [x,y]=true)(B:bY [x,y]=[]):ev P W Z (.call f (.k a (.k b .z)))=.ok ⟨d,false,true,[]⟩:=by
 have e:evs P W Z (.k a (.k b .z))=.ok [x,y]:=by rw[aF,h1,aF,h2];rfl
 rw[eH,e,aH,show [x,y].map (·.d)=[x.d,y.d] from rfl,G];show R.ok (⟨d,false,dP [x,y],bY [x,y]⟩:Vl)=_;rw[hp,B]
abbrev iO(ws:List Way):D:=.lst (ws.map Way.d)
abbrev bR(h:List (List Way)):List D:=h.map iO
structure aGy (m e:Nat) (ws:List Way):Prop where
 one:1<=ws.length
 few:ws.length<=4
 ok:∀w∈ws,eU m w/\0<=w.nx/\w.nx<(e:Int)+1
structure xM (m:Nat) (h:List (List Way)):Prop where
 few:h.length<=8
 ok:∀ws∈h,aGy m h.length ws
theorem kK{α:Type}{P:α->Prop}{l:List α}{x:α}(h:∀y∈l,P y)(hx:P x):∀y∈l++[x],P y:=λy B=>by rcases B8.mp B with z|z;exact h y z;rw[Av.mp z];exact hx
theorem xN(h:ev P W Z e=.ok v):ex P W Z (.ex e)=.next Z:=by rw[aJK,h];rfl
theorem aJL(h:exs P W Z b=.next Z'):ex P W Z (.tryN b)=.next Z':=by rw[aCI,h]
theorem aGz(h:exs P W Z b=.ret v):ex P W Z (.tryN b)=.ret v:=by rw[aCI,h]
theorem bU(h:ex P W Z s=.next Z'):exs P W Z (.k s .z)=.next Z':=cs h rfl
theorem xO(h:Z[i]? = some (.T d))(n:noL d=true):exs P W Z (.k (.retv i) ss)=.ret (.cl d):=by refine pS ?_;show(match Z[i]? with|some (.own pa ds)=>O.ret ⟨.lst ds,true,pa,[]⟩|_=>O.from Z (cT Z i) .ret)=_;unfold cT;rw[h];show O.from Z (Sl.val i (.T d)) .ret=_;rw[hZ i true n];rfl
theorem fV{a:E}{cs:List Cl}{v:Vl}{k:Bool}(h:ev P W Z a=.ok v)(e:isI cs P v.d=some k):tst P W Z (.isi a cs)=.ok k:=by show(ev P W Z a >>= λx=>(match isI cs P x.d with|some k=>R.ok k|none=>.bad))=_;rw[h,aH,e]
theorem aK(i:Nat)(h:Z[i]? = some (.T d))(n:noL d=true):ev P W Z (.v i)=.ok (.cl d):=by show cT Z i=_;unfold cT;rw[h];exact hZ i true n
theorem aI(i:Nat)(h:Z[i]? = some (.T (.lst ds))):ev P W Z (.v i)=.ok ⟨.lst ds,false,true,[]⟩:=by show cT Z i=_;unfold cT;rw[h];rfl
theorem aD(i:Nat)(h:Z[i]? = some (.F d)):ev P W Z (.v i)=.ok (.cl d):=by show cT Z i=_;unfold cT;rw[h];exact dM i d
theorem lE{F:Fn}(B:P.fns[f]? = some F)(G:ds.length=F.np)(h:exs P W ((ds.map λd=>Sl.T d)++Af (F.ns-F.np) Sl.x) F.body=.next Z):qY P W f ds=.ok (.non,false,false):=by unfold qY;rw[B];simp only[G,if_true,h]
theorem aGA(h:ev P W Z a=.ok (.cl (.str w)))(B:P.tabs[i]? = some t)(G:t.lookup w=some d):ev P W Z (.tget i a)=.ok (.cl d):=by show(ev P W Z a >>= λx=>(match x.d,P.tabs[i]? with|.str k,some t=>R.ok (Vl.cl ((t.lookup k).getD .non))|_,_=>.bad))=_;rw[h,B];show R.ok (Vl.cl ((t.lookup w).getD .non))=_;rw[G];rfl
theorem iP(n:Nat)(i a b:Int)(h1:a<=i)(h2:i<=b):call pg (n+2) 15 [.int i,.int a,.int b]=.ok (.bl true,false,false):=by refine aG (F:=f15) rfl rfl (aY (aIK (cW (aK 0 rfl rfl) (aG rfl rfl (v:=.cl (.bl true)) rfl)) ?_));show(match some (decide (a<=i)) with|some true=>(match some (decide (i<=b)) with|some k=>R.ok (Vl.cl (.bl k))|none=>.bad)|some false=>.c (.bl false)|none=>.bad)=_;rw[Ao h1,Ao h2]
theorem sN(n:Nat){bs:List D}{w:Str}{i:Int}(B:0<=i)(h1:i<=(if w == "number" then 99 else (bs.length:Int)-1)):call pg (n+3) 20 [.lst bs,.str w,.int i]=.ok (.non,false,false):=by
 refine lE rfl rfl (cs (aR (vB (cK (aK 1 rfl rfl) rfl) ?_)) (bU (bQ (cU (fZ (aK 2 rfl rfl) (aA _) (aD 3 rfl) (iP n i 0 _ B h1))))));cases w == "number" with
 | true=>rfl|false=>exact dG (dI (aI 0 rfl) (lB _ _ _ _)) (aA (.int 1)) (sub_int _ 1)
abbrev knd(k:Bool):Str:=if k then "sum" else "cond"
abbrev tbl(k:Bool):List (Str×D):=(pg.tabs.getD (if k then 0 else 1) [])
theorem aGB(n:Nat)(k:Bool){w:Str}{ds:List D}{fs:List Str}{pl:Bool}(U:(tbl k).lookup w=some (.tup (fs.map D.str)))(hn:noLs ds=true)(he:ds.length=fs.length)(ha:pl=true->(w == "after")=false):call pg (n+1) 19 [.str (knd k),.tup (.str w::ds),.bl pl]=.ok (.tup (fs.map D.str),false,false):=by
 let I:Sl->Sl->Sg:=λG B=>[.T (.str (knd k)),.T (.tup (.str w::ds)),.T (.bl pl),G,B]
 have L:∀{G B},ev pg (cP n) (I G B) (.v 1)=.c (.tup (.str w::ds)):=aK 1 rfl hn;have i0:∀{G B},ev pg (cP n) (I G B) (.idx (.v 1) (.i 0))=.c (.str w):=aZ L (aA _) (fY _ _ rfl);have ln:∀G B,ev pg (cP n) (I G B) (.bi .len (.o (.v 1)))=.c (.int ((fs.length:Int)+1)):=λG B=>by have:=dI (@L G B) (lD _);rw[show(((D.str w::ds).length:Nat):Int)=(fs.length:Int)+1 by rw[lC,he];rfl] at this;exact this
 have e4:∀B,ev pg (cP n) (I (.F (.str w)) B) (.ife (.cmp .Eq (.v 0) (.c (.str "sum"))) (.tget 0 (.v 3)) (.tget 1 (.v 3)))=.c (.tup (fs.map D.str)):=λB=>by
  refine vB (cK (aK 0 rfl rfl) rfl) ?_;cases k with
  | true=>exact aGA (aD 3 rfl) rfl U|false=>exact aGA (aD 3 rfl) rfl U
 refine aG (F:=f19) rfl rfl (v:=.cl (.tup (fs.map D.str))) (cs (bQ (dZ (cU (fV L rfl)) (dZ (bM (ln _ _) (aA _) ?_) (cU (fV i0 rfl))))) (cs (aR i0) (cs (aR (e4 _)) (cs (bQ (dZ (bM (aD 4 rfl) (aA .non) rfl) (bM (ln _ _) (dG (dI (aD 4 rfl) (lD _)) (aA (.int 1)) (add_int _ _)) ?_))) (cs (bQ ?_) (pS rfl))))));show some (((fs.length:Int)+1)==0)=_;rw[beq_eq_false_iff_ne.mpr (by omega)];show(some ((((fs.length:Int)+1)==(((fs.map D.str).length:Nat):Int)+1))).map (!·)=_;rw[lM,beq_self_eq_true];rfl;have:=aMk (P:=pg) (W:=cP n) (Z:=I (.F (.str w)) (.F (.tup (fs.map D.str)))) (a:=.v 2) rfl (cK (x:= "after") (aD 3 rfl) rfl);cases pl with
 | false=>exact this|true=>rw[ha rfl] at this;exact this
inductive Tn (M:Nat) (bs:List D) (pl:Bool):List (Str×D)->Int->Int->Prop
 | nil (m:Int):Tn M bs pl [] m m
 | part (k:Bool) {d:D} {l:List (Str×D)} {m p r:Int} (hd:noL d=true) (c:call pg M 18 [.lst bs,.str (knd k),d,.bl pl,.int m]=.ok (.int p,false,false)) (t:Tn M bs pl l p r):Tn M bs pl ((knd k,d)::l) m r
 | leaf {f:Str} {i:Int} {l:List (Str×D)} {m r:Int} (h1:(f == "sum")=false) (h2:(f == "cond")=false) (c:call pg M 20 [.lst bs,.str f,.int i]=.ok (.non,false,false)) (t:Tn M bs pl l m r):Tn M bs pl ((f,.int i)::l) m r
abbrev lkS(bs:List D)(k:Str)(d:D)(pl:Bool)(m:Int)(s5 s6 s7:Sl):Sg:=[.T (.lst bs),.T (.str k),.T d,.T (.bl pl),.F (.int m),s5,s6,s7]
theorem fg{f:Sg->Vl->O}(h:f Z x=.next Z'):dX f (x::xs) Z=dX f xs Z':=by rw[dX,h]
theorem aIQ{M:Nat}{bs:List D}{pl:Bool}{k:Str}{d:D}{B:Sl}(h:Tn M bs pl l m r):∀G s7,∃I L,dX (λZ x=>O.from Z (cR Z x (.t [6,7])) λZ'=>exs pg (call pg M) Z' (match hdS (drp 3 f18.body) with|.for _ _ b=>b|_=>.z)) (l.map λp=>Vl.cl (.tup [.str p.1,p.2])) (lkS bs k d pl m B G s7)=.next (lkS bs k d pl r B I L):=by
 induction h with
 | nil m=>exact λG s7=>⟨G,s7,rfl⟩
 | @part kd d' l m p r hd c t ih=>
  intro G s7;obtain⟨I,L,e⟩:=ih (.F (.str (knd kd))) (.F d');refine⟨I,L,?_⟩;have U:tst pg (cP M) (lkS bs k d pl m B (.F (.str (knd kd))) (.F d')) (.orr (.cmp .Eq (.v 6) (.c (.str "sum"))) (.cmp .Eq (.v 6) (.c (.str "cond"))))=.ok true:=by
   cases kd with
   | true=>exact aCM (cK (aD 6 rfl) rfl)|false=>exact dZ (cK (aD 6 rfl) rfl) (cK (aD 6 rfl) rfl)
  have:=bU (oU (b:=.o (.ex (.call 20 (.q (.v 0) (.v 6) (.v 7))))) U (bU (aR (i:=4) (jF (aI 0 rfl) (aD 6 rfl) (aD 7 rfl) (aK 3 rfl rfl) (aD 4 rfl) c))));refine(fg ?_).trans e;rw[nN _ rfl hd];exact this
 | @leaf f i l m r h1 h2 c t ih=>
  intro G s7;obtain⟨I,L,e⟩:=ih (.F (.str f)) (.F (.int i));refine⟨I,L,?_⟩;have:exs pg (cP M) (lkS bs k d pl m B (.F (.str f)) (.F (.int i))) (match hdS (drp 3 f18.body) with|.for _ _ b=>b|_=>.z)=.next (lkS bs k d pl m B (.F (.str f)) (.F (.int i))):=by refine bU ?_;show ex pg (cP M) _ (.iff _ _ (.o _))=_;rw[gM,dZ (cK (aD 6 rfl) h1) (cK (aD 6 rfl) h2)];exact bU (xN (bL (aI 0 rfl) (aD 6 rfl) (aD 7 rfl) c))
  exact(fg (this)).trans e
theorem aCN:∀(fs:List Str) (ds:List D),noLs ds=true->items ⟨.non,false,false,[]⟩ (fQ (fs.map D.str) ds)=(fs.zip ds).map λp=>Vl.cl (.tup [.str p.1,p.2])
 | [],ds,_=>by cases ds <;> rfl|f::fs,[],_=>rfl|f::fs,d::ds,h=>by rw[noLs,bA] at h;show Vl.sub _ (.tup [.str f,d])::items _ (fQ (fs.map D.str) ds)=_;rw[aCN fs ds h.2,cS (jE rfl h.1)];rfl
theorem wz(h:ev P W Z a=.ok (.cl (.tup xs)))(g:ev P W Z b=.ok (.cl (.tup ys))):walk P W Z (.zip a b)=.ok (items ⟨.non,false,false,[]⟩ (fQ xs ys),[]):=by rw[iM,h,g];rfl
theorem fO{m:Nat}(k:Bool){bs:List D}{w:Str}{ds:List D}{fs:List Str}{pl:Bool}{B r:Int}(hl:(tbl k).lookup w=some (.tup (fs.map D.str)))(G:noLs ds=true)(he:ds.length=fs.length)(ha:pl=true->(w == "after")=false)(hs:B<40)(t:Tn (m+1) bs pl (fs.zip ds) (B+1) r):call pg (m+2) 18 [.lst bs,.str (knd k),.tup (.str w::ds),.bl pl,.int B]=.ok (.int r,false,false):=by
 let W:Sl->Sl->Sg:=λI L=>[.T (.lst bs),.T (.str (knd k)),.T (.tup (.str w::ds)),.T (.bl pl),I,L,.x,.x]
 have U:∀I L,ev pg (cP (m+1)) (W I L) (.v 2)=.c (.tup (.str w::ds)):=λ_ _=>aK 2 rfl G;obtain⟨t6,t7,e⟩:=aIQ t .x .x;refine aG (F:=f18) rfl rfl (v:=.cl (.int r)) (cs (bQ (bM ((λ_=>aK 4 rfl rfl) _) (aA (.int 40)) ?_)) (cs (aR (dG ((λ_=>aK 4 rfl rfl) _) (aA (.int 1)) (add_int _ _))) (cs (aR (bL (aK 1 rfl rfl) (U _ _) (aK 3 rfl rfl) (aGB m k hl G he ha))) (cs ((aMl ?_).trans e) (pS rfl)))));show some (B==40)=_;rw[beq_eq_false_iff_ne.mpr (by omega)];have hs:ev pg (cP (m+1)) (W (.F (.int (B+1))) (.F (.tup (fs.map D.str)))) (.sli (.v 2) (.o (.i 1)) .z)=.c (.tup ds):=by show(ev pg (cP (m+1)) _ (.v 2) >>= λx=>R.iff true (fA x (some 1) none))=_;rw[U];show R.ok (Vl.mk (.tup (cut (.str w::ds) (some 1) none)) false (false&&!noLs (.str w::ds)) (if noLs (.str w::ds)=true then [] else []))=_;rw[show cut (.str w::ds) (some 1) none=ds by simp[cut,sIx],show noLs (.str w::ds)=true from G];rfl
 exact(wz (aD 5 rfl) hs).trans (by rw[aCN fs ds G])
section
variable {bs:List D} {c:Nat} {pl:Bool}
theorem nP(I:bs.length=c):∀(s:Sm) (N:Nat) (B:Int),s.sz+3<=N->s.wf c pl->B+s.sz<=40->call pg N 18 [.lst bs,.str "sum",s.d,.bl pl,.int B]=.ok (.int (B+s.sz),false,false)
 | .num k,N,B,G,w,h=>by
  obtain⟨n,rfl⟩:∃n,N=n+4:=⟨N-4,by have:1+3<=N:=G;omega⟩
  have h:B+1<=40:=h;obtain⟨w1,w2⟩:0<=k/\k<=99:=w;exact fO true (fs:=["number"]) rfl rfl rfl (λ_=>rfl) (by omega) (.leaf rfl rfl (sN n w1 w2) (.nil _))
 | .box k,N,B,G,w,h=>by
  obtain⟨n,rfl⟩:∃n,N=n+4:=⟨N-4,by have:1+3<=N:=G;omega⟩
  have h:B+1<=40:=h;have w1:k<c:=w;exact fO true (fs:=["box"]) rfl rfl rfl (λ_=>rfl) (by omega) (.leaf rfl rfl (sN n (by omega) (show(k:Int)<=(bs.length:Int)-1 by omega)) (.nil _))
 | .aft k,N,B,G,w,h=>by
  obtain⟨n,rfl⟩:∃n,N=n+4:=⟨N-4,by have:1+3<=N:=G;omega⟩
  have h:B+1<=40:=h;obtain⟨w1,w2⟩:k<c/\pl=false:=w;exact fO true (fs:=["box"]) rfl rfl rfl (λz=>by rw[w2] at z;cases z) (by omega) (.leaf rfl rfl (sN n (by omega) (show(k:Int)<=(bs.length:Int)-1 by omega)) (.nil _))
 | .two p a b,N,B,G,w,h=>by
  have G:1+a.sz+b.sz+3<=N:=G;obtain⟨n,rfl⟩:∃n,N=n+2:=⟨N-2,by omega⟩
  have h:B+((1+a.sz+b.sz:Nat):Int)<=40:=h;obtain⟨w1,w2⟩:a.wf c pl/\b.wf c pl:=w;have pa:=a.sz_pos;have L:=b.sz_pos;show _=R.ok (D.int (B+((1+a.sz+b.sz:Nat):Int)),false,false);rw[show B+((1+a.sz+b.sz:Nat):Int)=B+1+a.sz+b.sz by omega];exact fO true (fs:=["sum", "sum"]) (by cases p <;> rfl) (jE a.noL b.noL) rfl (λ_=>aOS p) (by omega) (.part true a.noL (nP I a (n+1) _ (by omega) w1 (by omega)) (.part true b.noL (nP I b (n+1) _ (by omega) w2 (by omega)) (.nil _)))
theorem kL(I:bs.length=c):∀(s:Cn) (N:Nat) (B:Int),s.sz+3<=N->s.wf c pl->B+s.sz<=40->call pg N 18 [.lst bs,.str "cond",s.d,.bl pl,.int B]=.ok (.int (B+s.sz),false,false)
 | .yes,N,B,G,w,h=>by
  obtain⟨n,rfl⟩:∃n,N=n+2:=⟨N-2,by have:1+3<=N:=G;omega⟩
  have h:B+1<=40:=h;exact fO false (fs:=[]) rfl rfl rfl (λ_=>rfl) (by omega) (.nil _)
 | .cmp i a b,N,B,G,w,h=>by
  have G:1+a.sz+b.sz+3<=N:=G;obtain⟨n,rfl⟩:∃n,N=n+2:=⟨N-2,by omega⟩
  have h:B+((1+a.sz+b.sz:Nat):Int)<=40:=h;obtain⟨w1,w2⟩:a.wf c pl/\b.wf c pl:=w;have pa:=a.sz_pos;have L:=b.sz_pos;show _=R.ok (D.int (B+((1+a.sz+b.sz:Nat):Int)),false,false);rw[show B+((1+a.sz+b.sz:Nat):Int)=B+1+a.sz+b.sz by omega];exact fO false (fs:=["sum", "sum"]) (by cases i <;> rfl) (jE a.noL b.noL) rfl (λ_=>by cases i <;> rfl) (by omega) (.part true a.noL (nP I a (n+1) _ (by omega) w1 (by omega)) (.part true b.noL (nP I b (n+1) _ (by omega) w2 (by omega)) (.nil _)))
 | .nt x,N,B,G,w,h=>by
  have G:1+x.sz+3<=N:=G;obtain⟨n,rfl⟩:∃n,N=n+2:=⟨N-2,by omega⟩
  have h:B+((1+x.sz:Nat):Int)<=40:=h;have U:=x.sz_pos;show _=R.ok (D.int (B+((1+x.sz:Nat):Int)),false,false);rw[show B+((1+x.sz:Nat):Int)=B+1+x.sz by omega];exact fO false (fs:=["cond"]) rfl (by show(noL x.d&&true)=true;rw[x.noL];rfl) rfl (λ_=>rfl) (by omega) (.part false x.noL (kL I x (n+1) _ (by omega) w (by omega)) (.nil _))
 | .two p a b,N,B,G,w,h=>by
  have G:1+a.sz+b.sz+3<=N:=G;obtain⟨n,rfl⟩:∃n,N=n+2:=⟨N-2,by omega⟩
  have h:B+((1+a.sz+b.sz:Nat):Int)<=40:=h;obtain⟨w1,w2⟩:a.wf c pl/\b.wf c pl:=w;have pa:=a.sz_pos;have L:=b.sz_pos;show _=R.ok (D.int (B+((1+a.sz+b.sz:Nat):Int)),false,false);rw[show B+((1+a.sz+b.sz:Nat):Int)=B+1+a.sz+b.sz by omega];exact fO false (fs:=["cond", "cond"]) (by cases p <;> rfl) (jE a.noL b.noL) rfl (λ_=>by cases p <;> rfl) (by omega) (.part false a.noL (kL I a (n+1) _ (by omega) w1 (by omega)) (.part false b.noL (kL I b (n+1) _ (by omega) w2 (by omega)) (.nil _)))
end
theorem aAh(n:Nat){q:Cn}(w:q.wf bs.length true)(z:q.sz<=31):call pg (n+35) 17 [.lst (aE bs),q.d,.bl true]=.ok (q.d,false,false):=by exact aG (F:=f17) rfl rfl (cs (xN (jF (aI 0 rfl) (aA _) (aK 1 rfl q.noL) (aK 2 rfl rfl) (aA _) (kL (lM _) q (n+34) 0 (by omega) w (by omega)))) (xO rfl q.noL))
theorem aBv(n:Nat){s:Sm}(w:s.wf bs.length true)(z:s.sz<=3):call pg (n+7) 16 [.lst (aE bs),s.d,.bl true]=.ok (s.d,false,false):=by exact aG (F:=f16) rfl rfl (cs (xN (jF (aI 0 rfl) (aA _) (aK 1 rfl s.noL) (aK 2 rfl rfl) (aA _) (nP (lM _) s (n+6) 0 (by omega) w (by omega)))) (xO rfl s.noL))
theorem aDV(n:Nat){q:Cn}(w:q.wf bs.length true)(z:q.sz<=31):call pg (n+36) 24 [.lst (aE bs),q.d]=.ok (.non,false,false):=
 lE rfl rfl (bU (aJL (bU (xN (bL (aI 0 rfl) (aK 1 rfl q.noL) (aA _) (aAh n w z))))))
theorem aIR(n:Nat){p:Nat×Sm}(o:nM bs.length p)(L:l<=p.1):call pg (n+8) 26 [.lst (aE bs),fH p,.int l]=.ok (.non,false,false):=by have hb:=o.box;refine lE rfl rfl (Z:=[.T (.lst (aE bs)),.T (fH p),.T (.int l)]) ?_;have G:=aI (P:=pg) (W:=cP (n+7)) (Z:=[.T (.lst (aE bs)),.T (fH p),.T (.int l)]) 0 rfl;have B:=aK (P:=pg) (W:=cP (n+7)) (Z:=[.T (.lst (aE bs)),.T (fH p),.T (.int l)]) 1 rfl (qG p);have I:=dG (dI G (lB _ _ _ _)) (aA (.int 1)) (sub_int _ 1);rw[show(aE bs).length=bs.length from lM _] at I;exact cs (bQ (dZ (cU (fV B rfl)) (bM (dI B (lD _)) (aA _) rfl))) (cs (bQ (cU (fZ (aZ B (aA _) (fY _ _ rfl)) (aK 2 rfl rfl) I (iP (n+5) p.1 l ((bs.length:Int)-1) (by omega) (by omega))))) (bU (aJL (bU (xN (bL G (aZ B (aA _) (gO _ _ _ p.2.noL)) (aA _) (aBv n o.wf o.sz)))))))
abbrev pf(bs:List (Str×Int))(ps:List (Nat×Sm))(s t:Sl):Sg:=[.T (.lst (aE bs)),.T (.tup (ps.map fH)),s,t]
theorem aGC(n:Nat){ps:List (Nat×Sm)}(o:∀p∈ps,nM bs.length p)(up:Up ps):call pg (n+9) 25 [.lst (aE bs),.tup (ps.map fH)]=.ok (.non,false,false):=by
 have L:∀s t,ev pg (cP (n+8)) (pf bs ps s t) (.v 1)=.c (.tup (ps.map fH)):=λs t=>aK 1 rfl (gE ps);have W:walk pg (cP (n+8)) (pf bs ps (.F (.int 0)) .x) (.seq (.v 1))=.ok (ps.map λp=>Vl.cl (fH p),[]):=by rw[bZ,L];show R.ok (items _ (ps.map fH),[])=_;rw[mI]
 obtain⟨Z',U,_⟩:=dF (t:=.n 3) (b:=match hdS (drp 2 f25.body) with|.for _ _ b=>b|_=>.z) (λi Z=>∃l t,(∀p∈ps.drop i,l<=p.1)/\Z=pf bs ps (.F (.int l)) t) W ⟨0,.x,λ_ _=>B7 _,rfl⟩ λi hi Z ⟨l,t,I,G⟩=>by
  have B:i<ps.length:=by simpa using hi
  subst G;have hd:=D5 B;rw[hd] at I;refine⟨pf bs ps (.F (.int l)) (.F (fH ps[i])),pf bs ps (.F (.int ((ps[i].1+1:Nat):Int))) (.F (fH ps[i])),?_,cs (xN (bL (aI 0 rfl) (dM 3 _) (dM 2 _) (aIR n (o _ (AI B)) (I _ Ar)))) (bU (aR (dG (aZ (dM 3 _) (aA _) (fY _ _ rfl)) (aA _) (add_int _ 1)))),ps[i].1+1,_,λp hp=>?_,rfl⟩;rw[AC,fB];rfl;have:=(C0.mp (by rw[<-hd];exact JM (List.drop_sublist _ _) up)).1 p hp;exact this
 exact lE rfl rfl (cs (bQ (cU (fV (L _ _) rfl))) (cs (aR (aA _)) (bU U)))
theorem aOV(x y z:D)(h:noL z=true):eA (.cl (.tup [x,y,z])) (.cl (.int 2))=.ok (.cl z):=aBr x y z [] h
theorem aBw(n:Nat){w:Way}(o:eU bs.length w)(hx:0<=w.nx/\w.nx<(e:Int)+1):call pg (n+37) 23 [.lst (aE bs),w.d,.int e]=.ok (w.d,false,false):=by have G:=aI (P:=pg) (W:=cP (n+36)) (Z:=[.T (.lst (aE bs)),.T w.d,.T (.int e)]) 0 rfl;have B:=aK (P:=pg) (W:=cP (n+36)) (Z:=[.T (.lst (aE bs)),.T w.d,.T (.int e)]) 1 rfl (eW w);exact aG rfl rfl (v:=.cl w.d) (cs (bQ (dZ (cU (fV B rfl)) (bM (dI B (lD _)) (aA (.int 3)) rfl))) (cs (xN (dN G (aZ B (aA (.int 0)) (fY _ _ w.g.noL)) (aDV n o.g o.gs))) (cs (xN (dN G (aZ B (aA (.int 1)) (gO _ _ _ (gE w.ps))) (aGC (n+27) o.ps o.up))) (cs (bQ (cU (fZ (aZ B (aA (.int 2)) (aBr _ _ _ _ rfl)) (aA (.int 0)) (aK 2 rfl rfl) (iP (n+34) w.nx 0 e hx.1 (by omega))))) (xO rfl (eW w))))))
theorem aCO(h1:ev P W Z a=.ok (.cl (.int x)))(h2:ev P W Z b=.ok (.cl (.int y)))(B:ev P W Z c=.ok (.cl (.int z)))(p:x<=y)(q:y<=z):tst P W Z (.cmp2 .LtE .LtE a b c)=.ok true:=by rw[nF,h1,h2];show(match some (decide (x<=y)) with|some true=>ev P W Z c >>= λz=>(match cZ .LtE (.int y) z.d with|some k=>R.ok k|none=>.bad)|some false=>.ok false|none=>.bad)=_;rw[Ao p];rw[B];show(match some (decide (y<=z)) with|some k=>R.ok k|none=>.bad)=_;rw[Ao q]
theorem vC(h1:ev P W Z a=.ok (.cl (.int x)))(h2:ev P W Z b=.ok (.cl (.int y)))(B:ev P W Z c=.ok (.cl (.int z)))(p:x<=y)(q:decide (y<z)=k):tst P W Z (.cmp2 .LtE .Lt a b c)=.ok k:=by rw[nF,h1,h2];show(match some (decide (x<=y)) with|some true=>ev P W Z c >>= λz=>(match cZ .Lt (.int y) z.d with|some k=>R.ok k|none=>.bad)|some false=>.ok false|none=>.bad)=_;rw[Ao p];rw[B];show(match some (decide (y<z)) with|some k=>R.ok k|none=>.bad)=_;rw[q]
theorem qH{α:Type}(k:Nat)(caps:List Nat)(f:α->D):∀h:List α,dW k caps [] (h.map λx=>Vl.mk (f x) true false [])=⟨.lst (h.map f),true,false,[]⟩:=λh=>by
 have G:(h.map λx=>Vl.mk (f x) true false []).map (·.d)=h.map f:=by rw[A4];rfl
 have I:dP (h.map λx=>Vl.mk (f x) true false [])=false:=by
  induction h with
  | nil=>rfl|cons x h B=>unfold dP at B ⊢;rw[mC,G4,B (by rw[A4];rfl)];rfl
 have L:bY (h.map λx=>Vl.mk (f x) true false [])=[]:=by
  clear G I
  induction h with
  | nil=>rfl|cons x h B=>unfold bY at B ⊢;rw[mC,Fb,B];rfl
 unfold dW;rw[G,I,L];split <;> rfl
theorem aBx(n:Nat)(o:aGy bs.length e ws):call pg (n+38) 22 [.lst (aE bs),iO ws,.int e]=.ok (iO ws,true,false):=by have B:=aI (P:=pg) (W:=cP (n+37)) (Z:=[.T (.lst (aE bs)),.T (iO ws),.T (.int e)]) 1 rfl;have G:=dI B (lB _ _ _ _);rw[lM] at G;have k1:=bQ (a:=.k (.rse "NoHand" false .z) .z) (dZ (cU (fV (cs:=[.tList]) B rfl)) (cU (aCO (aA (.int 1)) G (aA (.int 4)) (by have:=o.one;omega) (by have:=o.few;omega))));refine aG (F:=f22) rfl rfl (cs k1 (aY (fG (al:=[]) (λw=>Vl.cl w.d) Way.d eW ?_ (by have:=o.few;unfold lim;omega) λw I=>⟨[.F w.d,.T (.lst (aE bs)),.T (.int e)],?_,bL (aI 1 rfl) (dM 0 _) (aK 2 rfl rfl) (aBw n (o.ok w I).1 (o.ok w I).2)⟩)));rw[bZ,B];show R.ok (items _ (ws.map Way.d),[])=_;rw[cD eW];rfl
theorem aAi(n:Nat)(o:xM bs.length h):call pg (n+39) 21 [.lst (aE bs),.lst (bR h)]=.ok (.lst (bR h),true,false):=by
 have B:=aI (P:=pg) (W:=cP (n+38)) (Z:=[.T (.lst (aE bs)),.T (.lst (bR h))]) 1 rfl;have G:=dI B (lB _ _ _ _);rw[lM] at G;have L:ev pg (cP (n+38)) [.T (.lst (aE bs)),.T (.lst (bR h))] (.comp 1 [0,1] (.n 0) (.seq (.v 1)) .z (.call 22 (.k (.v 1) (.k (.v 0) (.k (.bi .len (.k (.v 2) .z)) .z)))))=.ok ⟨.lst (bR h),true,false,[]⟩:=by rw[nG (xs:=h.map λws=>⟨iO ws,false,true,[]⟩) (λx=>⟨x.d,true,false,[]⟩) ?_ (by rw[lM];have:=o.few;unfold lim;omega) λx hx=>?_];rw[A4];exact congrArg R.ok (qH 1 [0,1] iO h);rw[bZ,B];show R.ok (items _ (bR h),[])=_;unfold items;rw[A4];rfl;obtain⟨ws,U,rfl⟩:=A0.mp hx;have I:=dI (aI (P:=pg) (W:=cP (n+38)) (Z:=[.T (iO ws),.T (.lst (aE bs)),.T (.lst (bR h))]) 2 rfl) (lB _ _ _ _);rw[lM] at I;exact⟨[.T (iO ws),.T (.lst (aE bs)),.T (.lst (bR h))],rfl,gR (aI 1 rfl) (aI 0 rfl) I (aBx n (o.ok ws U))⟩
 exact aG (F:=f21) rfl rfl (v:=⟨.lst (bR h),true,false,[]⟩) (cs (bQ (dZ (cU (fV B rfl)) (bM G (aA (.int 8)) (congrArg some (Az (by have:=o.few;omega)))))) (aY L))
def InR(bs:List (Str×Int))(acc:List Int):Prop:=∀(j:Nat) (a:Int) (b:Str×Int),acc[j]? = some a->bs[j]? = some b->0<=a/\a<=b.2
theorem aGD{bs:List (Str×Int)}{st:List Int}{b:Str×Int}(L:st.length=bs.length)(H:InR bs st)(U:h<(b.2+1).toNat):InR (bs++[b]) (st++[(h:Int)]):=by
 intro j x c hx B;by_cases I:j<bs.length;rw[AQ (by omega)] at hx;rw[AQ I] at B;exact H j x c hx B;rw[AD (by omega)] at hx;rw[AD (by omega)] at B;have G:j-bs.length=0:=by have:=(Ax.mp B).1;simp at this;omega
 rw[L,G] at hx;rw[G] at B;cases hx;cases B;omega
theorem aAj{bs:List (Str×Int)}:∀i,i<=bs.length->∀st∈standsL (bs.take i),st.length=i/\InR (bs.take i) st
 | 0,_,st,h=>by
  have:st=[]:=by simpa[standsL] using h
  subst this;exact⟨rfl,λj a b I _=>by simp at I⟩
 | i+1,hi,st,h=>by rw[fX hi] at h;obtain⟨b,hb,B⟩:=Fr.mp h;obtain⟨m,hm,rfl⟩:=A0.mp B;obtain⟨G,L⟩:=aAj i (by omega) b hb;refine⟨by simp[G],?_⟩;rw[BS hi];exact aGD (by rw[G,A8];omega) L (by simpa using hm)
theorem iQ{bs:List (Str×Int)}{st:List Int}(h:st∈standsL bs):st.length=bs.length/\InR bs st:=by have:=aAj bs.length (Al _) st (by rw[BZ];exact h);rwa [BZ] at this
def iR(ws:List Way)(i:Nat):Way:=ws.getD i ⟨.yes,[],0⟩
abbrev aN(i:Nat):D:=.int (i:Int)
theorem gA(i:Nat):noL (aN i)=true:=rfl
theorem xP{ws:List Way}(h:i<ws.length):iR ws i∈ws/\ws[i]? = some (iR ws i):=by unfold iR;rw[Am,Ae h];exact⟨AI h,rfl⟩
theorem aCP{v:Vl}(h:ev P W Z a=.ok v)(e:v.d=.lst ds):walk P W Z (.enum a)=.ok (items v (iK 0 ds),v.al):=by show(ev P W Z a >>= λx=>(match yN x.d with|some as=>R.ok (items x (iK 0 as),x.al)|none=>.bad))=_;rw[h,aH,e];rfl
def okE:Nat->D->Bool
 | 0,_=>false|n+1,d=>match d with|.tup ds=>ds.all (okE n)|.lst ds=>ds.all (okE n)|.err _ _=>false|_=>true
theorem aAk:∀(n:Nat) (d:D),okE n d=true->eqF n d d=some true
 | 0,_,h=>by cases h|n+1,d,h=>by
  have hs:∀ds:List D,ds.all (okE n)=true->gH n ds ds=some true:=λds=>by
   induction ds with
   | nil=>intro _;rfl|cons x r B=>intro h;rw[Eg,bA] at h;unfold gH;rw[aAk n x h.1,B h.2];rfl
  cases d with
  | non=>rfl|bl b=>exact congrArg some (beq_self_eq_true b)|int i=>exact congrArg some (beq_self_eq_true i)|str s=>exact congrArg some (beq_self_eq_true s)|tup ds=>show eqL (eqF n) ds ds=_;rw[wD,hs ds h]|lst ds=>show(if ds.length=ds.length then eqL (eqF n) ds ds else some false)=_;rw[if_pos rfl,wD,hs ds h]|err _ _=>cases h
theorem aOW(h:eqD x x=some true):cZ .NotEq x x=some false:=by rw[aGq,h];rfl
theorem bD(i:Nat)(h:Z[i]? = some (.own pa ds)):ev P W Z (.v i)=.ok ⟨.lst ds,false,pa,[i]⟩:=by show cT Z i=_;unfold cT;rw[h];rfl
theorem aU:evs P W Z .z=.ok (([]:List D).map Vl.cl):=rfl
theorem aC{ds:List D}(h:ev P W Z a=.ok (.cl d))(t:evs P W Z es=.ok (ds.map Vl.cl)):evs P W Z (.k a es)=.ok ((d::ds).map Vl.cl):=by rw[aF,h,t];rfl
theorem aGE(ds:List D):dP (ds.map Vl.cl)=false:=by
 induction ds with
 | nil=>rfl|cons d ds B=>unfold dP at B ⊢;rw[mC,G4,B];rfl
theorem aGF(ds:List D):bY (ds.map Vl.cl)=[]:=by
 induction ds with
 | nil=>rfl|cons d ds B=>unfold bY at B ⊢;rw[mC,Fb,B];rfl
theorem aGG(ds:List D):(ds.map Vl.cl).map (·.d)=ds:=by rw[A4];exact List.map_id _
theorem bB{ds:List D}(h:evs P W Z es=.ok (ds.map Vl.cl)):ev P W Z (.tup es)=.ok (.cl (.tup ds)):=by rw[wZ,h];show R.ok (Vl.mk (.tup ((ds.map Vl.cl).map (·.d))) false (dP (ds.map Vl.cl)) (bY (ds.map Vl.cl)))=_;rw[aGE,aGF,aGG];rfl
theorem cH{ds:List D}(h:evs P W Z es=.ok (ds.map Vl.cl)):ev P W Z (.lst es)=.ok ⟨.lst ds,true,false,[]⟩:=by rw[xA,h];show R.ok (Vl.mk (.lst ((ds.map Vl.cl).map (·.d))) true (dP (ds.map Vl.cl)) (bY (ds.map Vl.cl)))=_;rw[aGE,aGF,aGG]
theorem dR(h:ev P W Z a=.ok (.cl (.int x)))(k:ev P W Z b=.ok (.cl (.int n)))(p:0<n):ev P W Z (.op .Mod a b)=.ok (.cl (.int (x % n))):=dG h k (aCH p)
theorem dC(h:ev P W Z a=.ok (.cl (.int x)))(k:ev P W Z b=.ok (.cl (.int n))):ev P W Z (.op .Add a b)=.ok (.cl (.int (x+n))):=dG h k (add_int _ _)
theorem dJ{v:Vl}{ds:List D}(h:ev P W Z a=.ok v)(e:v.d=.lst ds):ev P W Z (.bi .len (.k a .z))=.ok (.cl (.int ds.length)):=dI h (by
 obtain⟨d,f,p,al⟩:=v;subst e;exact lB _ _ _ _)
theorem vD{α:Type}{f:α->D}{a b:E}{v:Vl}{xs:List α}{k:Nat}{x:α}(h:ev P W Z a=.ok v)(G:v.d=.lst (xs.map f))(hb:ev P W Z b=.ok (.cl (.int (k:Int))))(hx:xs[k]? = some x)(B:noL (f x)=true):ev P W Z (.idx a b)=.ok (.cl (f x)):=
 aZ h hb ((nO G hx).trans (congrArg R.ok (cS B)))
theorem eY{a b:E}{v:Vl}{xs:List Int}{k:Nat}(h:ev P W Z a=.ok v)(G:v.d=.lst (xs.map D.int))(hb:ev P W Z b=.ok (.cl (.int (k:Int))))(B:k<xs.length):ev P W Z (.idx a b)=.ok (.cl (.int (xs.getD k 0))):=
 aZ h hb (aIM G B)
theorem tQ{a b:List D}{v w:Vl}(U:v.d=.lst a)(W:w.d=.lst b)(I:noLs a=true)(hb:noLs b=true)(L:a.length+b.length<=lim):opD .Add v w=.ok ⟨.lst (a++b),true,false,[]⟩:=by obtain⟨_,f,p,al⟩:=v;obtain⟨_,f',G,B⟩:=w;cases U;cases W;show R.iff (decide (a.length+b.length<=lim)) (.ok (Vl.mk (.lst (a++b)) true ((p&&!noLs a)||(G&&!noLs b)) ((if noLs a then [] else al)++(if noLs b then [] else B))))=_;rw[Ao L,I,hb];cases p <;> cases G <;> rfl
theorem aIS{x:Vl}(h1:ev P W Z a=.ok x)(B:W f [x.d]=.ok (.bl k,false,false)):tst P W Z (.call f (.k a .z))=.ok k:=by
 have e:evs P W Z (.k a .z)=.ok [x]:=by rw[aF,h1];rfl
 rw[eG,e,aH,show [x].map (·.d)=[x.d] from rfl,B];rfl
theorem xQ(x:Int){n:Nat}(h:0<n):∃k:Nat,x % (n:Int)=(k:Int)/\k<n:=by have h1:=Il x (show(n:Int)≠0 by omega);have h2:=GR x (show(0:Int)<n by omega);exact⟨(x % n).toNat,by omega,by omega⟩
abbrev b3(s t:Int):List (Str×Int):=[("a",s),("b",t),("c",1)]
abbrev b4(s:Int):List (Str×Int):=[("a",1),("b",1),("c",1),("d",s)]
def boxSet:List (List (Str×Int)):=[b3 1 1,b3 2 1,b3 1 2,b3 2 2,b4 1,b4 2]
theorem box_six(hb:bs∈boxSet):bs=b3 1 1\/bs=b3 2 1\/bs=b3 1 2\/bs=b3 2 2\/bs=b4 1\/bs=b4 2:=by simpa only[boxSet,As,AM,El] using hb
theorem dH{bs:List (Str×Int)}(hb:bs∈boxSet):3<=bs.length/\bs.length<=4:=by rcases box_six hb with rfl|rfl|rfl|rfl|rfl|rfl <;> decide
theorem xR(hb:bs∈boxSet):∀b∈bs,1<=b.2/\b.2<=2:=by rcases box_six hb with rfl|rfl|rfl|rfl|rfl|rfl <;> decide +kernel
theorem aAl(hb:bs∈boxSet):jO bs<=24/\1<=jO bs:=by rcases box_six hb with rfl|rfl|rfl|rfl|rfl|rfl <;> decide +kernel
theorem nQ(hb:bs∈boxSet):aIG bs:=⟨by have:=dH hb;omega,λb h=>by have:=xR hb b h;omega,(aAl hb).1⟩
theorem aGH(hb:bs∈boxSet):∀b∈bs,∃c:Nat,b.1=⟨#[c]⟩/\cZ .In (.str ⟨#[c]⟩) (.str "abcdefghijklmnopqrstuvwxyz")=some true:=by
 have h:∀x∈[("a" : Str), "b", "c", "d"],∃c:Nat,x=⟨#[c]⟩/\cZ .In (.str ⟨#[c]⟩) (.str "abcdefghijklmnopqrstuvwxyz")=some true:=λx hx=>by simp only[bT,As,AM,El] at hx;rcases hx with rfl|rfl|rfl|rfl;exact⟨97,by decide +kernel,by decide +kernel⟩;exact⟨98,by decide +kernel,by decide +kernel⟩;exact⟨99,by decide +kernel,by decide +kernel⟩;exact⟨100,by decide +kernel,by decide +kernel⟩
 intro b hm;refine h b.1 ?_;revert b;rcases box_six hb with rfl|rfl|rfl|rfl|rfl|rfl <;> decide +kernel
theorem aGI(n:Nat)(h:cZ .In (.str ⟨#[c]⟩) (.str "abcdefghijklmnopqrstuvwxyz")=some true):call pg (n+1) 5 [.str ⟨#[c]⟩]=.ok (.bl true,false,false):=by
 have B:=aK (P:=pg) (W:=cP n) (Z:=[.T (.str ⟨#[c]⟩)]) 0 rfl rfl;have I:eV n [.T (.str ⟨#[c]⟩)] (.comp 1 [] (.n 0) (.seq (.v 0)) .z (.cmp .In (.v 0) (.c (.str "abcdefghijklmnopqrstuvwxyz"))))=.ok ⟨.lst [.bl true],true,false,[]⟩:=
  fG (ts:=[c]) (λc=>Vl.cl (.str ⟨#[c]⟩)) (λ_=>.bl true) (λ_=>rfl) (by rw[bZ,B];rfl) (by unfold lim;simp) λt G=>by rw[Av] at G;subst G;exact⟨[.F (.str ⟨#[t]⟩)],rfl,sJ (dM 0 _) (aA _) h⟩
 exact aG (F:=f5) rfl rfl (v:=.cl (.bl true)) (cs (bQ (dZ (cU (fV B rfl)) (cU (aCO (y:=1) (aA (.int 1)) (dI B rfl) (aA (.int 8)) (by decide) (by decide))))) (aY (dI I rfl)))
theorem aBy(n:Nat){b:Str×Int}(hb:b.1=⟨#[c]⟩)(h:cZ .In (.str ⟨#[c]⟩) (.str "abcdefghijklmnopqrstuvwxyz")=some true)(G:1<=b.2/\b.2<=2):call pg (n+3) 4 [box b]=.ok (box b,false,false):=by obtain⟨x,t⟩:=b;subst hb;have B:=aK (P:=pg) (W:=cP (n+2)) (Z:=[.T (box (⟨#[c]⟩,t))]) 0 rfl rfl;have I:=aZ B (aA (.int 0)) (fY (.str ⟨#[c]⟩) [.int t] rfl);have i1:=aZ B (aA (.int 1)) (gO (.str ⟨#[c]⟩) (.int t) [] rfl);exact aG (F:=f4) rfl rfl (cs (bQ (dZ (cU (fV B rfl)) (bM (dI B (lD _)) (aA _) rfl))) (cs (bQ (cU (aIS I (aGI (n+1) h)))) (cs (bQ (cU (fZ i1 (aA _) (aA _) (iP n t 1 7 G.1 (by have:=G.2;show t<=7;omega))))) (aY (gQ I i1)))))
theorem nI(b:Str×Int):noL (box b)=true:=rfl
theorem xS(n:Nat)(hb:bs∈boxSet):call pg (n+4) 3 [.lst (aE bs)]=.ok (.lst (aE bs),true,false):=by
 obtain⟨I,L⟩:=dH hb;have B:=aI (P:=pg) (W:=cP (n+3)) (Z:=[.T (.lst (aE bs)),.x]) 0 rfl;have G:=dJ B rfl;rw[show(aE bs).length=bs.length from lM _] at G;have k1:eX (n+3) [.T (.lst (aE bs)),.x] (.set (.n 1) (.comp 1 [] (.n 0) (.seq (.v 0)) .z (.call 4 (.k (.v 0) .z))))=.next [.T (.lst (aE bs)),.O (aE bs)]:=by refine bI (fG (al:=[]) (λb=>Vl.cl (box b)) box nI ?_ (by unfold lim;omega) λb hm=>?_);rw[bZ,B];show R.ok (items _ (bs.map box),[])=_;rw[cD nI];obtain⟨c,h1,h2⟩:=aGH hb b hm;exact⟨[.F (box b)],rfl,cW (dM 0 _) (aBy n h1 h2 (xR hb b hm))⟩
 have k2:eT (n+3) [.T (.lst (aE bs)),.O (aE bs)] (.cmp .Lt (.numset (.comp 2 [] (.t [0,1]) (.seq (.v 1)) .z (.v 0))) (.bi .len (.k (.v 1) .z)))=.ok false:=by rcases box_six hb with rfl|rfl|rfl|rfl|rfl|rfl <;> rfl
 have k3:eT (n+3) [.T (.lst (aE bs)),.O (aE bs)] (.cmp .Gt (.call 6 (.k (.v 1) .z)) (.i 24))=.ok false:=by rcases box_six hb with rfl|rfl|rfl|rfl|rfl|rfl <;> rfl
 exact aG (F:=f3) rfl rfl (cs (bQ (dZ (cU (fV B rfl)) (cU (aCO (aA (.int 1)) G (aA (.int 5)) (by omega) (by omega))))) (cs k1 (cs (bQ k2) (cs (bQ k3) (pS rfl)))))
structure oV (m:Nat) (z:List Nat):Prop where
 one:1<=z.length
 few:z.length<=4
 ok:∀b∈z,b<m
abbrev nR(z:List Nat):D:=.lst (z.map aN)
theorem aGJ(n:Nat)(x:Int){h m:Nat}(hh:h<3)(sh:Int)(hm:3<=m)(I:m<=4):∃(z:List Nat) (fr:Bool),oV m z/\call pg (n+1) 44 [.int x,.int h,.int sh,.int m]=.ok (nR z,fr,false):=by
 have B:∃z:List Nat,oV m z/\eV n [.T (.int x),.T (.int h),.T (.int sh),.T (.int m)] (.idx (.lst (.k (.lst (.k (.i 0) .z)) (.k (.lst (.k (.i 1) (.k (.i 2) .z))) (.k (.lst (.k (.i 0) .z)) .z)))) (.v 1))=.ok ⟨nR z,false,false,[]⟩:=by
  have:h=0\/h=1\/h=2:=by omega
  rcases this with rfl|rfl|rfl;exact⟨[0],⟨by decide,by decide,λb hb=>by simp at hb;omega⟩,rfl⟩;exact⟨[1,2],⟨by decide,by decide,λb hb=>by simp at hb;omega⟩,rfl⟩;exact⟨[0],⟨by decide,by decide,λb hb=>by simp at hb;omega⟩,rfl⟩
 obtain⟨z,zo,L⟩:=B;have G:∀j,eT n [.T (.int x),.T (.int h),.T (.int sh),.T (.int m)] (.cmp .Eq (.op .Mod (.v 0) (.i 4)) (.i j))=.ok (x % 4==j):=λj=>bM (dR (aK 0 rfl rfl) (aA (.int 4)) (by decide)) (aA _) rfl;cases U:(sh==0) with
 | true=>exact⟨z,false,zo,aG (F:=f44) rfl rfl (v:=⟨nR z,false,false,[]⟩) (dY (bM (aK 2 rfl rfl) (aA _) (congrArg some U)) (aY L))⟩|false=>
  have k0:=bQ (P:=pg) (W:=cP n) (Z:=[.T (.int x),.T (.int h),.T (.int sh),.T (.int m)]) (a:=.k (.ret (.idx (.lst (.k (.lst (.k (.i 0) .z)) (.k (.lst (.k (.i 1) (.k (.i 2) .z))) (.k (.lst (.k (.i 0) .z)) .z)))) (.v 1))) .z) (bM (o:=.Eq) (aK 2 rfl rfl) (aA (.int 0)) (congrArg some U));cases q1:(x % 4==0) with
  | true=>
   have hc:eV n [.T (.int x),.T (.int h),.T (.int sh),.T (.int m)] (.comp 1 [] (.n 0) (.rng (.i 0) (.v 3)) .z (.v 0))=.ok ⟨nR (Ap m),true,false,[]⟩:=
    fG (λi=>Vl.cl (aN i)) aN gA (cC (aK 3 rfl rfl) rfl (by omega)) (by rw[Bm];unfold lim;omega) λi _=>⟨[.F (aN i)],rfl,dM 0 _⟩
   exact⟨Ap m,true,⟨by rw[Bm];omega,by rw[Bm];exact I,λb hb=>B5.mp hb⟩,aG (F:=f44) rfl rfl (cs k0 (dY ((G 0).trans (congrArg R.ok q1)) (aY hc)))⟩
  | false=>
   have k1:=bQ (a:=.k (.ret (.comp 1 [] (.n 0) (.rng (.i 0) (.v 3)) .z (.v 0))) .z) ((G 0).trans (congrArg R.ok q1));cases q2:(x % 4==1) with
   | true=>exact⟨[h],true,⟨by simp,by simp,λb hb=>by simp at hb;omega⟩,aG (F:=f44) rfl rfl (cs k0 (cs k1 (dY ((G 1).trans (congrArg R.ok q2)) (aY (cH (aC (aK 1 rfl rfl) aU))))))⟩|false=>
    have k2:=bQ (a:=.k (.ret (.lst (.k (.v 1) .z))) .z) ((G 1).trans (congrArg R.ok q2));cases q3:(x % 4==2) with
    | true=>exact⟨z,false,zo,aG (F:=f44) rfl rfl (cs k0 (cs k1 (cs k2 (dY ((G 2).trans (congrArg R.ok q3)) (aY L)))))⟩|false=>exact⟨[h,2],true,⟨by simp,by simp,λb hb=>by simp at hb;omega⟩,aG (F:=f44) rfl rfl (cs k0 (cs k1 (cs k2 (cs (bQ ((G 2).trans (congrArg R.ok q3))) (aY (cH (aC (aK 1 rfl rfl) (aC (aA _) aU))))))))⟩
theorem mJ{α:Type}{f:α->D}{zs:List α}{B a:E}{v:Vl}{x:Int}(L:ev P W Z B=.ok v)(I:v.d=.lst (zs.map f))(U:ev P W Z a=.ok (.cl (.int x)))(hl:1<=zs.length)(nf:∀t,noL (f t)=true) :
 ∃t∈zs,ev P W Z (.idx B (.op .Mod a (.bi .len (.k B .z))))=.ok (.cl (f t)):=by have hb:=dJ L I;rw[lM] at hb;obtain⟨k,e,G⟩:=xQ x (n:=zs.length) (by omega);have hm:=dR U hb (by omega);rw[e] at hm;exact⟨zs[k],AI G,vD L I hm (Ae G) (nf _)⟩
theorem qJ{α:Type}{f:α->D}{zs:List α}{B a:E}{v:Vl}{x:Int}{n:Nat}(U:ev P W Z B=.ok v)(L:v.d=.lst (zs.map f))(I:ev P W Z a=.ok (.cl (.int x)))(hn:zs.length=n)(G:0<n)(nf:∀t∈zs,noL (f t)=true) :
 ∃t∈zs,ev P W Z (.idx B (.op .Mod a (.i n)))=.ok (.cl (f t)):=by obtain⟨k,e,hk⟩:=xQ x G;have hm:=dR I (aA (.int n)) (by omega);rw[e] at hm;exact⟨zs[k],AI (by omega),vD U L hm (Ae (by omega)) (nf _ (AI (by omega)))⟩
theorem vE(hb:b<m)(G:q<m)(B:0<=k/\k<=99):∀t∈([.yes,.yes,.yes,.cmp p (.box b) (.num k),.nt (.cmp p (.box b) (.num k)),.two false (.cmp p (.box b) (.num k)) (.cmp true (.two false (.box q) (.box b)) (.num 0))]++[.two true (.cmp false (.box q) (.two true (.box b) (.num 1))) (.nt (.cmp p (.box b) (.num k)))]:List Cn),t.wf m true/\t.sz<=31:=by simp only[bT,HN,DH,As,AM,El];rintro t (rfl|rfl|rfl|rfl|rfl|rfl|rfl) <;> simp[Cn.wf,Sm.wf,Cn.sz,Sm.sz,hb,G,B.1,B.2]
theorem aBz(n:Nat){G:List Int}(hl:G.length=12)(I:oV bs.length z):∃g:Cn,g.wf bs.length true/\g.sz<=31/\call pg (n+1) 45 [.lst (G.map D.int),.lst (aE bs),nR z]=.ok (g.d,false,false):=by
 let Z:Sl->Sl->Sl->Sl->Sl->Sl->Sg:=λU W s5 s6 s7 B=>[.T (.lst (G.map D.int)),.T (.lst (aE bs)),.T (nR z),U,W,s5,s6,s7,B]
 have v2:∀{U W s5 s6 s7 B},eV n (Z U W s5 s6 s7 B) (.v 2)=.ok ⟨.lst (z.map aN),false,true,[]⟩:=aI 2 rfl;have y:∀(k:Nat) U W s5 s6 s7 B,k<12->eV n (Z U W s5 s6 s7 B) (.idx (.v 0) (.i (k:Int)))=.c (.int (G.getD k 0)):=λk _ _ _ _ _ _ hk=>eY ((λ_ _ _ _ _ _=>aI 0 rfl) _ _ _ _ _ _) rfl (aA _) (by omega);obtain⟨b,hb,e1⟩:=mJ (@v2 .x .x .x .x .x .x) rfl (y 0 .x .x .x .x .x .x (by decide)) I.one gA;obtain⟨p,hp,e3⟩:=qJ (zs:=[true,false]) (f:=λp=>.str (xK p)) (cH (aC (aA _) (aC (aA _) aU))) rfl (y 2 _ _ _ _ _ _ (by decide)) rfl (by decide) (λ_ _=>rfl)
 let F:=Cn.cmp p (.box b) (.num (G.getD 1 0 % 3))
 obtain⟨q,hq,e4⟩:=mJ (@v2 (.F (aN b)) (.F (Sm.num (G.getD 1 0 % 3)).d) (.F F.d) .x .x .x) rfl (dG (y 1 (.F (aN b)) (.F (Sm.num (G.getD 1 0 % 3)).d) (.F F.d) .x .x .x (by decide)) (aA (.int 3)) (qF (by decide))) I.one gA
 let O:=Sm.box q
 let L:Sl->Sl->Sg:=λs7 B=>Z (.F (aN b)) (.F (Sm.num (G.getD 1 0 % 3)).d) (.F F.d) (.F O.d) s7 B
 have w3:∀{s7 B},eV n (L s7 B) (.v 3)=.c (aN b):=dM 3 _;have w5:∀{s7 B},eV n (L s7 B) (.v 5)=.c F.d:=dM 5 _;have w6:∀{s7 B},eV n (L s7 B) (.v 6)=.c O.d:=dM 6 _;have bx:∀{s7 B},eV n (L s7 B) (.tup (.k (.c (.str "box")) (.k (.v 3) .z)))=.c (Sm.box b).d:=bB (aC (aA _) (aC w3 aU));have nf:∀{s7 B},eV n (L s7 B) (.tup (.k (.c (.str "not")) (.k (.v 5) .z)))=.c (Cn.nt F).d:=bB (aC (aA _) (aC w5 aU))
 let M1:=Cn.cmp true (.two false O (.box b)) (.num 0)
 let M2:=Cn.cmp false O (.two true (.box b) (.num 1))
 let gl:=[.yes,.yes,.yes,F,.nt F,.two false F M1]++[.two true M2 (.nt F)]
 obtain⟨g,hg,q0⟩:=qJ (n:=7) (zs:=gl) (dG (Z:=L (.O ([Cn.yes,.yes,.yes,F,.nt F,.two false F M1].map Cn.d)) (.F M2.d)) (a:=.v 7) (aCE 7 false _) (cH (aC (bB (aC (aA (.str "both")) (aC (aD 8 rfl) (aC nf aU)))) aU)) (tQ rfl rfl (bW Cn.noL _) (bW Cn.noL [Cn.two true M2 (.nt F)]) (by unfold lim;simp))) (by show D.lst _=D.lst (gl.map Cn.d);rfl) (y 3 _ _ _ _ _ _ (by decide)) rfl (by decide) (λt _=>t.noL);exact⟨g,((vE (I.ok b hb) (I.ok q hq) (by omega)) g hg).1,((vE (I.ok b hb) (I.ok q hq) (by omega)) g hg).2,aG (F:=f45) rfl rfl (v:=.cl g.d) (cs (aR e1) (cs (aR (bB (aC (aA _) (aC (dR (y 1 _ _ _ _ _ _ (by decide)) (aA (.int 3)) (by decide)) aU)))) (cs (aR (bB (aC e3 (aC (bB (aC (aA _) (aC (dM 3 _) aU))) (aC (dM 4 _) aU))))) (cs (aR (bB (aC (aA _) (aC e4 aU)))) (cs (bI (cH (aC ((λ_ _=>bB (aC (aA _) aU)) _ _) (aC ((λ_ _=>bB (aC (aA _) aU)) _ _) (aC ((λ_ _=>bB (aC (aA _) aU)) _ _) (aC w5 (aC nf aU))))))) (cs ((λs7=>aR (bB (aC (aA _) (aC (bB (aC (aA _) (aC w6 (aC bx aU)))) (aC (bB (aC (aA _) (aC (aA _) aU))) aU))))) _) (cs (fU (bB (aC (aA _) (aC w5 (aC (aD 8 rfl) aU)))) rfl (by unfold lim;simp) rfl rfl) (cs ((λs7 B=>aR (bB (aC (aA _) (aC w6 (aC (bB (aC (aA _) (aC bx (aC (bB (aC (aA _) (aC (aA _) aU))) aU)))) aU))))) _ _) (aY q0)))))))))⟩
theorem aGK{α:Type}{f:α->D}{v:Vl}(xs:List α)(x:α)(G:v.d=.lst ((xs++[x]).map f))(B:noL (f x)=true):eA v (.cl (.int (-1)))=.ok (.cl (f x)):=by
 have I:((xs++[x]).map f).length=xs.length+1:=by simp
 have hx:((xs++[x]).map f)[xs.length]? = some (f x):=by simp
 unfold eA;rw[G];show(match ixN ((xs++[x]).map f).length (-1) with
  | some j=>(match ((xs++[x]).map f)[j]? with|some d=>R.ok (v.sub d)|none=>.bad)
  | none=>.bad)=_
 have:ixN ((xs++[x]).map f).length (-1)=some xs.length:=by
  unfold ixN;rw[if_neg (by decide),if_pos (by omega)]
  congr 1
  omega
 rw[this];show(match ((xs++[x]).map f)[xs.length]? with|some d=>R.ok (v.sub d)|none=>.bad)=_;rw[hx];exact congrArg R.ok (cS B)
theorem aIT{q p:Nat×Sm}(h:Up (ps++[q]))(hp:q.1<p.1):Up (ps++[q]++[p]):=by unfold Up at h ⊢;rw[Gm];refine⟨h,Fx _ _,λa B b hb=>?_⟩;rw[Av] at hb;subst hb;rw[Gm] at h;rcases B8.mp B with z|z;exact E1 (h.2.2 a z q (Av.mpr rfl)) hp;rw[Av.mp z];exact hp
theorem aMm(hb:bs∈boxSet)(h:k<bs.length):0<=gP bs k/\gP bs k<=99:=by unfold gP;rw[Am,Ae (by rw[lM];exact h),Option.getD_some,AC];have:=xR hb bs[k] (AI h);omega
theorem aIU(hb:b<m)(I:q<m)(G:0<=t/\t<=99)(B:0<=k/\k<=99):∀s∈([.two false (.num t) (.box b),.num k]++[.box q,.two true (.box q) (.num 0)]:List Sm),s.wf m true/\s.sz<=3:=by simp only[bT,HN,DH,As,AM,El];rintro s (rfl|rfl|rfl|rfl) <;> simp[Sm.wf,Sm.sz,hb,I,G.1,G.2,B.1,B.2]
abbrev pdF(ys:List Int)(bs:List (Str×Int))(z:List Nat)(ps:List (Nat×Sm))(s4 s5 s6 s7 s8:Sl):Sg:=[.T (.lst (ys.map D.int)),.T (.lst (aE bs)),.T (nR z),.O (ps.map fH),s4,s5,s6,s7,s8]
abbrev pdB:Ss:=match hdS (drp 1 f46.body) with|.for _ _ b=>b|_=>.z
theorem aDW(n:Nat)(q3:bs∈boxSet){ys:List Int}(hl:ys.length=7)(zo:oV bs.length z){ps:List (Nat×Sm)}(hk:k<2)(ok:∀p∈ps,nM bs.length p)(up:Up ps)(pl:ps.length<=k)(U s6 s7 I:Sl) :
 ∃(G:List (Nat×Sm)) (t5 t6 t7 t8:Sl),(∀p∈G,nM bs.length p)/\Up G/\G.length<=k+1/\exs pg (call pg n) (pdF ys bs z ps (.F (aN k)) U s6 s7 I) pdB=.next (pdF ys bs z G (.F (aN k)) t5 t6 t7 t8):=by
 have v2:∀{ps U s6 s7 I},eV n (pdF ys bs z ps (.F (aN k)) U s6 s7 I) (.v 2)=.ok ⟨.lst (z.map aN),false,true,[]⟩:=aI 2 rfl;have y:∀(a:Nat) ps U s6 s7 I,a<6->eV n (pdF ys bs z ps (.F (aN k)) U s6 s7 I) (.idx (.v 0) (.op .Add (.i (a:Int)) (.v 4)))=.c (.int (ys.getD (a+k) 0)):=λa ps U s6 s7 I ha=>eY ((λ_ _ _ _ _=>aI 0 rfl) _ _ _ _ _) rfl (by
  have:=dC (P:=pg) (W:=cP n) (Z:=pdF ys bs z ps (.F (aN k)) U s6 s7 I) (aA (.int (a:Int))) (aD 4 rfl);rw[show(a:Int)+(k:Int)=((a+k:Nat):Int) by omega] at this;exact this) (by omega)
 obtain⟨b,hb,e1⟩:=mJ (@v2 ps U s6 s7 I) rfl (y 1 ps U s6 s7 I (by decide)) zo.one gA;have wb:=zo.ok b hb;obtain⟨bd,nb,i1,i2⟩:=xL wb;obtain⟨q,hq,e3⟩:=mJ (@v2 ps (.F (aN b)) (.F (Sm.num (gP bs b)).d) s7 I) rfl (y 3 ps (.F (aN b)) (.F (Sm.num (gP bs b)).d) s7 I (by decide)) zo.one gA
 let τ:List (Nat×Sm)->Sl->Sg:=λps I=>pdF ys bs z ps (.F (aN k)) (.F (aN b)) (.F (Sm.num (gP bs b)).d) (.F (Sm.box q).d) I
 let A:List Sm:=[.two false (.num (gP bs b)) (.box b),.num (ys.getD (3+k) 0 % 2)]
 let B:List Sm:=[.box q,.two true (.box q) (.num 0)]
 have k5:eX n (τ ps (.O (A.map Sm.d))) (hdS (drp 4 pdB))=.next (τ ps (.O ((A++B).map Sm.d))):=by exact bI (dG (bD 8 rfl) (cH (aC ((λ_ _=>aD 7 rfl) _ _) (aC (bB (aC (aA _) (aC ((λ_ _=>aD 7 rfl) _ _) (aC (bB (aC (aA _) (aC (aA _) aU))) aU)))) aU))) (tQ rfl rfl (bW Sm.noL A) (bW Sm.noL B) (by unfold lim;simp[A,B])))
 obtain⟨s,hs,e6⟩:=qJ (n:=4) (zs:=A++B) (bD 8 rfl) rfl (y 5 _ _ _ _ _ (by decide)) rfl (by decide) (λt _=>t.noL);have so:=aIU wb (zo.ok q hq) (aMm q3 wb) (by omega) s hs;have v3:=bD (P:=pg) (W:=cP n) (Z:=τ ps (.O ((A++B).map Sm.d))) 3 rfl;have L:=dJ v3 rfl;have q1:eS n (τ ps (.O ((A++B).map Sm.d))) (match hdS (drp 5 pdB) with|.iff _ a _=>a|_=>.z)=.next (τ (ps++[(b,s)]) (.O ((A++B).map Sm.d))):=bU (fU (gQ (aD 5 rfl) e6) rfl (by rw[lM];unfold lim;omega) rfl (by rw[A7];rfl));have q2:∀{Z'},eX n (τ ps (.O ((A++B).map Sm.d))) (hdS (drp 5 pdB))=.next Z'->eS n (pdF ys bs z ps (.F (aN k)) U s6 s7 I) pdB=.next Z':=λe=>cs (aR e1) (cs (aR (bB (aC (aA _) (aC (aZ (aZ (aI 1 rfl) (aD 5 rfl) i1) (aA (.int 1)) i2) aU)))) (cs (aR (bB (aC (aA _) (aC e3 aU)))) (cs (bI (cH (aC (bB (aC (aA _) (aC (aD 6 rfl) (aC (bB (aC (aA _) (aC (aD 5 rfl) aU))) aU)))) (aC (bB (aC (aA _) (aC (dR (y 3 _ _ _ _ _ (by decide)) (aA (.int 2)) (by decide)) aU))) aU)))) (cs k5 (bU e)))));rcases(show ps=[]\/∃G p,ps=G++[p] from(List.eq_nil_or_concat ps).imp id λ⟨a,b,e⟩=>⟨a,b,by rw[e,List.concat_eq_append]⟩) with rfl|⟨G,p,rfl⟩
 refine⟨[(b,s)],_,_,_,_,λp hp=>?_,Fx _ _,by simp,q2 (oU (aCM (bM L (aA _) rfl)) q1)⟩;rw[Av] at hp;rw[hp];exact(⟨wb,so.1,so.2⟩);have q0:eT n (τ (G++[p]) (.O ((A++B).map Sm.d))) (.cmp .Lt (.idx (.idx (.v 3) (.neg (.i 1))) (.i 0)) (.v 5))=.ok (decide ((p.1:Int)<(b:Int))):=bM (aZ (aZ v3 (by rfl) (aGK G p rfl (qG p))) (aA (.int 0)) (fY _ _ rfl)) (aD 5 rfl) rfl;by_cases q4:p.1<b;rw[Ao (by omega)] at q0;exact⟨G++[p]++[(b,s)],_,_,_,_,kK ok (⟨wb,so.1,so.2⟩),aIT up q4,by simp at pl ⊢;omega,q2 (oU (dZ (bM L (aA (.int 0)) (congrArg some (beq_eq_false_iff_ne.mpr (by simp;omega)))) q0) q1)⟩;rw[Az (by omega)] at q0;exact⟨G++[p],_,_,_,_,ok,up,by omega,q2 (bQ (dZ (bM L (aA (.int 0)) (congrArg some (beq_eq_false_iff_ne.mpr (by simp;omega)))) q0))⟩
theorem aDX(n:Nat)(U:bs∈boxSet){B:List Int}(hl:B.length=7)(zo:oV bs.length z):∃ps:List (Nat×Sm),(∀p∈ps,nM bs.length p)/\Up ps/\call pg (n+1) 46 [.lst (B.map D.int),.lst (aE bs),nR z]=.ok (.tup (ps.map fH),false,false):=by
 have y0:=dR (P:=pg) (W:=cP n) (Z:=pdF B bs z [] .x .x .x .x .x) (eY (k:=0) (aI 0 rfl) rfl (aA _) (by omega)) (aA (.int 3)) (by decide);obtain⟨N,eN,hN⟩:=xQ (B.getD 0 0) (n:=3) (by decide);rw[show((3:Nat):Int)=3 from rfl] at eN;rw[eN] at y0;obtain⟨Z',ef,ps,s4,G,I,s7,L,h1,h2,h3,rfl⟩:=dF (t:=.n 4) (λi Z=>∃ps s4 G I s7 L,(∀p∈ps,nM bs.length p)/\Up ps/\ps.length<=i/\Z=pdF B bs z ps s4 G I s7 L) (cC y0 rfl (by omega)) ⟨[],_,_,_,_,_,λ_ z=>absurd z AM,He,Al _,rfl⟩ λi hi Z ⟨ps,s4,G,I,s7,L,h1,h2,h3,q0⟩=>by
  have q2:i<N:=by simpa using hi
  subst q0;obtain⟨q1,t5,t6,t7,t8,g1,g2,g3,g4⟩:=aDW n U hl zo (by omega) h1 h2 h3 G I s7 L;refine⟨pdF B bs z ps (.F (aN i)) G I s7 L,_,?_,g4,q1,_,t5,t6,t7,t8,g1,g2,g3,rfl⟩;rw[AC,AN,fB];rfl
 exact⟨ps,h1,h2,aG (F:=f46) rfl rfl (cs rfl (cs ef (aY (dI (bD 3 rfl) (aCL 3 (gE ps))))))⟩
theorem aIV{α B:Type}(f:α->B)(xs:List α)(lo hi:Option Int):cut (xs.map f) lo hi=(cut xs lo hi).map f:=by unfold cut;rw[lM,Dk,Cs]
theorem aIW{B:List Int}(h:B.length=12):(cut B (some 4) (some 11)).length=7:=by unfold cut;rw[A8,Bs,h];rfl
theorem aOX(h1:ev P W Z a=.ok x)(h2:ev P W Z b=.ok y)(B:ev P W Z c=.ok z)(G:ev P W Z e=.ok w):evs P W Z (.k a (.k b (.k c (.k e .z))))=.ok [x,y,z,w]:=by rw[aF,h1,aF,h2,aF,B,aF,G];rfl
theorem lF{x y z w:Vl}(h1:ev P W Z a=.ok x)(h2:ev P W Z b=.ok y)(B:ev P W Z c=.ok z)(G:ev P W Z e=.ok w)(I:W f [x.d,y.d,z.d,w.d]=.ok (d,fr,false)):ev P W Z (.call f (.k a (.k b (.k c (.k e .z)))))=.ok ⟨d,fr,false,[]⟩:=by rw[eH,aOX h1 h2 B G,aH,show [x,y,z,w].map (·.d)=[x.d,y.d,z.d,w.d] from rfl,I];rfl
def Is(s:Sl)(ds:List D):Prop:=s=.O ds\/s=.F (.lst ds)
theorem aJM{Z:Sg}(h:Is s ds)(hi:Z[i]? = some s):∃v,ev P W Z (.v i)=.ok v/\v.d=.lst ds/\v.pa=false:=by rcases h with rfl|rfl;exact⟨_,bD i hi,rfl,rfl⟩;exact⟨_,aD i hi,rfl,rfl⟩
theorem aMn{Z:Sg}(h:ev P W Z e=.ok ⟨.lst ds,fr,false,[]⟩):∃s,Is s ds/\ex P W Z (.set (.n i) e)=.next (Z.set i s):=by
 cases fr with
 | true=>exact⟨_,.inl rfl,bI h⟩|false=>exact⟨_,.inr rfl,aR h⟩
abbrev hdF(c:Int)(bs:List (Str×Int))(h r:Nat)(sh:Int)(xs:List Int)(s6:Sl)(rs:List (List Way))(s8 s9 s10 s11 s12 s13:Sl):Sg:=[.T (.int c),.T (.lst (aE bs)),.T (.int h),.T (.int r),.T (.int sh),.O (xs.map D.int),s6,.O (bR rs),s8,s9,s10,s11,s12,s13]
abbrev hdB:Ss:=match hdS (drp 3 f47.body) with|.for _ _ b=>b|_=>.z
abbrev hdI:Ss:=match hdS (drp 1 hdB) with|.for _ _ b=>b|_=>.z
theorem aGL(n:Nat)(q2:bs∈boxSet){xs:List Int}(hx:xs.length=3+14*r){z:List Nat}(zo:oV bs.length z)(hz:Is s6 (z.map aN))(hk:k<r)(hj:j<4){ws:List Way}(wo:∀w∈ws,eU bs.length w/\0<=w.nx/\w.nx<(r:Int)+1)(wl:ws.length<=j)(I G B:Sl) :
 ∃(w:Way) (q4 q5 q6:Sl),(eU bs.length w/\0<=w.nx/\w.nx<(r:Int)+1)/\exs pg (call pg (n+1)) (hdF c bs h r sh xs s6 rs (.F (aN k)) (.O (ws.map Way.d)) (.F (aN j)) I G B) hdI=.next (hdF c bs h r sh xs s6 rs (.F (aN k)) (.O ((ws++[w]).map Way.d)) (.F (aN j)) q4 q5 q6):=by
 let τ:Sl->Sl->Sl->Sl->Sg:=λU I G B=>hdF c bs h r sh xs s6 rs (.F (aN k)) U (.F (aN j)) I G B
 have v5:∀{U I G B},eV (n+1) (τ U I G B) (.v 5)=.ok ⟨.lst (xs.map D.int),false,false,[5]⟩:=bD 5 rfl;have q1:opD .Mult (.cl (.int 14)) (.cl (.int (k:Int)))=.c (.int (14*k)):=mul_int (by
  unfold iI;rw[Ao (by omega)];rfl)
 have ix:∀U I G B,eV (n+1) (τ U I G B) (.op .Add (.op .Add (.i 3) (.op .Mult (.i 14) (.v 8))) (.v 10))=.c (.int ((3+14*k+j:Nat):Int)):=λU I G B=>by have:=dC (P:=pg) (W:=cP (n+1)) (Z:=τ U I G B) (dC (aA (.int 3)) (dG (aA (.int 14)) (aD 8 rfl) q1)) (aD 10 rfl);rw[show(3:Int)+14*(k:Int)+(j:Int)=((3+14*k+j:Nat):Int) by omega] at this;exact this
 let L:=sK (xs.getD (3+14*k+j) 0) 12
 have yl:L.length=12:=iN _ _;have q0:∀{U G B},eV (n+1) (τ U (.O (L.map D.int)) G B) (.v 11)=.ok ⟨.lst (L.map D.int),false,false,[11]⟩:=bD 11 rfl;have ib:∀U G B,∃e:Nat,e<=1/\eV (n+1) (τ U (.O (L.map D.int)) G B) (.bi .int (.k (.cmp .Eq (.op .Mod (.idx (.v 5) (.i 2)) (.i 5)) (.i 0)) .z))=.c (.int (e:Int)):=λU G B=>by
  have e1:=sJ (o:=.Eq) (dR (eY (k:=2) (@v5 U (.O (L.map D.int)) G B) rfl (aA _) (by omega)) (aA (.int 5)) (by decide)) (aA (.int 0)) rfl;cases q:(xs.getD 2 0 % 5==0) with
  | true=>rw[q] at e1;exact⟨1,Al _,dI e1 rfl⟩|false=>rw[q] at e1;exact⟨0,B7 _,dI e1 rfl⟩
 obtain⟨e,he,ie⟩:=ib (.O (ws.map Way.d)) G B
 let nx:=L.getD 11 0 % ((r:Int)+(e:Int))
 have q3:0<=nx/\nx<(r:Int)+1:=by have h2:=GR (L.getD 11 0) (show 0<(r:Int)+(e:Int) by omega);exact⟨(Il (L.getD 11 0) (show(r:Int)+(e:Int)≠0 by omega)),by show L.getD 11 0 % ((r:Int)+(e:Int))<_;omega⟩
 obtain⟨v6,z1,z2,_⟩:=aJM hz (Z:=τ (.O (ws.map Way.d)) (.O (L.map D.int)) (.F (.int nx)) B) (i:=6) rfl;obtain⟨g,g1,g2,g3⟩:=aBz n yl zo;obtain⟨q9,q7,q8,_⟩:=aJM hz (Z:=τ (.O (ws.map Way.d)) (.O (L.map D.int)) (.F (.int nx)) (.F g.d)) (i:=6) rfl;obtain⟨ps,p1,p2,p3⟩:=aDX n q2 (aIW yl) zo;have sl:ev pg (cP (n+1)) (τ (.O (ws.map Way.d)) (.O (L.map D.int)) (.F (.int nx)) (.F g.d)) (.sli (.v 11) (.k (.i 4) .z) (.k (.i 11) .z))=.ok ⟨.lst ((cut L (some 4) (some 11)).map D.int),true,false,[]⟩:=by show R.ok (Vl.mk (.lst (cut (L.map D.int) (some 4) (some 11))) true (false&&!noLs (L.map D.int)) (if noLs (L.map D.int)=true then [] else [11]))=_;rw[ aIV];rfl
 let w:Way:=⟨g,ps,nx⟩
 exact⟨w,_,_,_,⟨⟨g1,g2,p1,p2⟩,q3⟩,cs ((λU=>bI (cG (eY v5 rfl (ix _ _ _ _) (by omega)) (aA (.int 12)) (gD rfl n _ (by decide)))) _) (cs (aR (dR (eY (k:=11) (@q0 (.O (ws.map Way.d)) G B) rfl (aA _) (by omega)) (dC (aK 3 rfl rfl) ie) (by omega))) (cs (aR (bL q0 (aI 1 rfl) z1 (by rw[z2];exact g3))) (bU (fU (aBt (aD 13 rfl) (bL sl (aI 1 rfl) q7 (by rw[q8];exact p3)) (aD 12 rfl)) rfl (by rw[lM];unfold lim;omega) rfl (by rw[A7];rfl)))))⟩
theorem aDY(n:Nat)(q8:bs∈boxSet)(c sh:Int){h r:Nat}(hh:h<3)(hr:r<=3):∃hd:List (List Way),hd.length=r/\xM bs.length hd/\call pg (n+2) 47 [.int c,.lst (aE bs),.int h,.int r,.int sh]=.ok (.lst (bR hd),true,false):=by
 obtain⟨l3,l4⟩:=dH q8;have q9:opD .Mult (.cl (.int 14)) (.cl (.int (r:Int)))=.c (.int (14*r)):=mul_int (by
  unfold iI;rw[Ao (by omega)];rfl)
 let xs:=sK c (3+14*r)
 have xl:xs.length=3+14*r:=iN _ _
 let Z:Sl->Sl->Sl->Sg:=λs5 s6 s7=>[.T (.int c),.T (.lst (aE bs)),.T (.int h),.T (.int r),.T (.int sh),s5,s6,s7,.x,.x,.x,.x,.x,.x]
 have k1:eX (n+1) (Z .x .x .x) (hB 0 f47)=.next (Z (.O (xs.map D.int)) .x .x):=by refine bI (cG (aK 0 rfl rfl) (dC (aA (.int 3)) (dG (aA (.int 14)) (aK 3 rfl rfl) q9)) ?_);rw[show(3:Int)+14*(r:Int)=((3+14*r:Nat):Int) by omega];exact gD rfl n c (by omega)
 obtain⟨z,fr,zo,hz⟩:=aGJ n (xs.getD 0 0) hh sh l3 l4;have q6:=dJ (aI (P:=pg) (W:=cP (n+1)) (Z:=Z (.O (xs.map D.int)) .x .x) 1 rfl) rfl;rw[show(aE bs).length=bs.length from lM _] at q6;have e2:eV (n+1) (Z (.O (xs.map D.int)) .x .x) (.call 44 (.k (.idx (.v 5) (.i 0)) (.k (.v 2) (.k (.v 4) (.k (.bi .len (.k (.v 1) .z)) .z)))))=.ok ⟨nR z,fr,false,[]⟩:=by exact lF (eY (k:=0) (bD 5 rfl) rfl (aA _) (by omega)) (aK 2 rfl rfl) (aK 4 rfl rfl) q6 hz
 obtain⟨s6,i6,k2⟩:=aMn e2;obtain⟨Z',ef,B,s8,s9,U,q0,q1,q4,g1,g2,rfl⟩:=dF (t:=.n 8) (b:=hdB) (λi Z=>∃B s8 s9 U q0 q1 q4,B.length=i/\(∀ws∈B,aGy bs.length r ws)/\Z=hdF c bs h r sh xs s6 B s8 s9 U q0 q1 q4) (cC (aK 3 rfl rfl) rfl (by omega)) ⟨[],_,_,_,_,_,_,rfl,λ_ z=>absurd z AM,rfl⟩ λi hi Z ⟨B,s8,s9,U,q0,q1,q4,g1,g2,q7⟩=>by
  have w3:i<r:=by simpa using hi
  subst q7
  let Z2:=hdF c bs h r sh xs s6 B (.F (aN i)) (.O (([]:List Way).map Way.d)) U q0 q1 q4
  have m1:=dG (P:=pg) (W:=cP (n+1)) (Z:=Z2) (eY (k:=1) (bD 5 rfl) rfl (aA _) (by omega)) (dC (aD 8 rfl) (aA (.int 1))) (qF (by
   unfold yK;simp only[bT,AA,bA];omega))
  have m2:=dR m1 (aA (.int 4)) (by decide);obtain⟨M,eM,hM⟩:=xQ (xs.getD 1 0 / ((i:Int)+1)) (n:=4) (by decide);rw[show((4:Nat):Int)=4 from rfl] at eM;rw[eM] at m2;have m3:=dC (aA (.int 1)) m2;rw[show(1:Int)+(M:Int)=((1+M:Nat):Int) by omega] at m3;obtain⟨Z3,q2,ws,q5,G,I,L,w1,w2,rfl⟩:=dF (t:=.n 10) (λj Z=>∃ws q5 G I L,ws.length=j/\(∀w∈ws,eU bs.length w/\0<=w.nx/\w.nx<(r:Int)+1)/\Z=hdF c bs h r sh xs s6 B (.F (aN i)) (.O (ws.map Way.d)) q5 G I L) (cC m3 rfl (by omega)) ⟨[],_,_,_,_,rfl,λ_ z=>absurd z AM,rfl⟩ λj hj Z ⟨ws,q5,G,I,L,w1,w2,q7⟩=>by
   have w7:j<1+M:=by simpa using hj
   subst q7;obtain⟨w,w4,w5,w6,o1,o2⟩:=aGL n q8 xl zo i6 w3 (j:=j) (by omega) w2 (by omega) G I L;refine⟨hdF c bs h r sh xs s6 B (.F (aN i)) (.O (ws.map Way.d)) (.F (aN j)) G I L,_,?_,o2,ws++[w],_,w4,w5,w6,by rw[lA,w1];rfl,kK w2 o1,rfl⟩;rw[AC,AN,fB];rfl
  have wl:ws.length=1+M:=by rw[w1];simp
  have q3:eX (n+1) (hdF c bs h r sh xs s6 B (.F (aN i)) (.O (ws.map Way.d)) q5 G I L) (hdS (drp 2 hdB))=.next (hdF c bs h r sh xs s6 (B++[ws]) (.F (aN i)) (.F (iO ws)) q5 G I L):=by refine(fU (bD 9 rfl) rfl (by rw[lM];unfold lim;omega) rfl rfl).trans ?_;unfold hdF bR;rw[A7];rfl
  refine⟨hdF c bs h r sh xs s6 B (.F (aN i)) s9 U q0 q1 q4,_,?_,cs rfl (cs q2 (bU q3)),B++[ws],_,_,_,_,_,_,by rw[lA,g1];rfl,kK g2 ⟨by omega,by omega,w2⟩,rfl⟩;rw[AC,AN,fB];rfl
 have gl:B.length=r:=by rw[g1];simp
 exact⟨B,gl,⟨by omega,by rw[gl];exact g2⟩,aG (F:=f47) rfl rfl (v:=⟨.lst (bR B),true,false,[]⟩) (cs k1 (cs k2 (cs rfl (cs ef (pS rfl)))))⟩
abbrev cA(hs:List (List (List Way))):List D:=hs.map λh=>.lst (bR h)
abbrev aCQ(hs:List (List (List Way))):List D:=hs.map λ_=>Cn.yes.d
abbrev nS(h:List (List Way)):List D:=(Af (h.length+1) Cn.yes).map Cn.d
abbrev eZ(hs:List (List (List Way))):List D:=hs.map λh=>.lst (nS h)
def aQ(bs:List (Str×Int))(g:Cn)(hs:List (List (List Way))):D:=.tup [.lst (aE bs),g.d,.lst (cA hs),.lst (aCQ hs),.lst (eZ hs)]
structure eP (m:Nat) (hs:List (List (List Way))):Prop where
 ok:∀h∈hs,xM m h
 two:(hs.length=2/\∀h∈hs,h.length<=3)\/(hs.length=3/\∀h∈hs,h.length<=2)
theorem aAm(n:Nat){q:Cn}(w:q.wf bs.length pl)(z:q.sz<=31):call pg (n+36) 29 [.lst (aE bs),q.d,.bl pl]=.ok (q.d,false,false):=by have B:=kL (bs:=aE bs) (lM _) q (n+34) 0 (by omega) w (by omega);exact aG rfl rfl (v:=.cl q.d) (pS (aGz (aY (bL (aI 0 rfl) (aK 1 rfl q.noL) (aK 2 rfl rfl) (aG (F:=f17) rfl rfl (cs (xN (jF (aI 0 rfl) (aA _) (aK 1 rfl q.noL) (aK 2 rfl rfl) (aA _) B)) (xO rfl q.noL)))))))
theorem vF(n:Nat){qs:List Cn}(o:∀q∈qs,q.wf bs.length pl/\q.sz<=31)(L:qs.length<=100):call pg (n+37) 30 [.lst (aE bs),.lst (qs.map Cn.d),.int qs.length,.bl pl]=.ok (.lst (qs.map Cn.d),true,false):=by
 have G:=aI (P:=pg) (W:=cP (n+36)) (Z:=[.T (.lst (aE bs)),.T (.lst (qs.map Cn.d)),.T (.int qs.length),.T (.bl pl)]) 1 rfl;have B:=dJ G rfl;rw[lM] at B;have k1:=bQ (a:=.k (.rse "NoHouse" false .z) .z) (dZ (cU (fV (cs:=[.tList]) G rfl)) (bM (o:=.NotEq) B (aK 2 rfl rfl) (by
  show(some ((qs.length:Int)==(qs.length:Int))).map (!·)=_;rw[beq_self_eq_true];rfl)))
 refine aG (F:=f30) rfl rfl (cs k1 (aY (fG (al:=[]) (λq=>Vl.cl q.d) Cn.d Cn.noL ?_ (by unfold lim;omega) λq I=>⟨[.F q.d,.T (.lst (aE bs)),.T (.bl pl)],rfl,bL (aI 1 rfl) (aD 0 rfl) (aK 2 rfl rfl) (aAm n (o q I).1 (o q I).2)⟩)));rw[bZ,G];show R.ok (items _ (qs.map Cn.d),[])=_;rw[cD Cn.noL]
theorem jG{hs:List (List (List Way))}(o:eP m hs):2<=hs.length/\hs.length<=3:=by rcases o.two with z|z <;> omega
theorem aDZ(n:Nat)(o:eP bs.length hs):call pg (n+40) 31 [.lst (aE bs),.lst (cA hs)]=.ok (.lst (cA hs),true,false):=by
 obtain⟨U,l3⟩:=jG o;have G:=aI (P:=pg) (W:=cP (n+39)) (Z:=[.T (.lst (aE bs)),.T (.lst (cA hs))]) 1 rfl;have B:=dJ G rfl;rw[lM] at B;have I:ev pg (cP (n+39)) [.T (.lst (aE bs)),.T (.lst (cA hs))] (.comp 1 [0] (.n 0) (.seq (.v 1)) .z (.call 21 (.k (.v 1) (.k (.v 0) .z))))=.ok ⟨.lst (cA hs),true,false,[]⟩:=by rw[nG (xs:=hs.map λh=>⟨.lst (bR h),false,true,[]⟩) (λx=>⟨x.d,true,false,[]⟩) ?_ (by rw[lM];unfold lim;omega) λx hx=>?_];rw[A4];exact congrArg R.ok (qH 1 [0] (λh=>D.lst (bR h)) hs);rw[bZ,G];show R.ok (items _ (cA hs),[])=_;unfold items;rw[A4];rfl;obtain⟨h,L,rfl⟩:=A0.mp hx;exact⟨[.T (.lst (bR h)),.T (.lst (aE bs))],rfl,cG (aI 1 rfl) (aI 0 rfl) (aAi n (o.ok h L))⟩
 exact aG (F:=f31) rfl rfl (v:=⟨.lst (cA hs),true,false,[]⟩) (cs (bQ (dZ (cU (fV G rfl)) (cU (aCO (aA (.int 1)) B (aA (.int 3)) (by omega) (by omega))))) (pS (aGz (aY I))))
theorem sO(n:Nat)(ds:List D):call pg (n+1) 33 [.lst ds]=.ok (.int (ds.length+1),false,false):=
 aG (F:=f33) rfl rfl (aY (dC (dJ (aI 0 rfl) rfl) (aA _)))
theorem aGM(m:Nat)(pl:Bool)(k:Nat):∀q∈Af k Cn.yes,q.wf m pl/\q.sz<=31:=λq B=>by rw[List.eq_of_mem_replicate B];exact⟨trivial,by decide⟩
theorem aCR{α:Type}(f g:α->D):∀xs:List α,fQ (xs.map f) (xs.map g)=xs.map λx=>.tup [f x,g x]
 | []=>rfl|x::xs=>by show .tup [f x,g x]::fQ (xs.map f) (xs.map g)=_;rw[aCR f g xs];rfl
theorem aEa(n:Nat)(o:eP bs.length hs):call pg (n+38) 32 [.lst (aE bs),.lst (eZ hs),.lst (cA hs)]=.ok (.lst (eZ hs),true,false):=by
 obtain⟨l2,l3⟩:=jG o;have G:=aI (P:=pg) (W:=cP (n+37)) (Z:=[.T (.lst (aE bs)),.T (.lst (eZ hs)),.T (.lst (cA hs))]) 1 rfl;have U:=aI (P:=pg) (W:=cP (n+37)) (Z:=[.T (.lst (aE bs)),.T (.lst (eZ hs)),.T (.lst (cA hs))]) 2 rfl;have h1:=dJ G rfl;have h2:=dJ U rfl;rw[lM] at h1 h2;have k1:=bQ (a:=.k (.rse "NoHouse" false .z) .z) (dZ (cU (fV (cs:=[.tList]) G rfl)) (bM (o:=.NotEq) h1 h2 (by
  show(some ((hs.length:Int)==(hs.length:Int))).map (!·)=_;rw[beq_self_eq_true];rfl)))
 have I:ev pg (cP (n+37)) [.T (.lst (aE bs)),.T (.lst (eZ hs)),.T (.lst (cA hs))] (.comp 2 [0] (.t [0,1]) (.zip (.v 1) (.v 2)) .z (.call 30 (.k (.v 2) (.k (.v 0) (.k (.call 33 (.k (.v 1) .z)) (.k (.c (.bl true)) .z))))))=.ok ⟨.lst (eZ hs),true,false,[]⟩:=by rw[nG (xs:=hs.map λh=>⟨.tup [.lst (nS h),.lst (bR h)],false,true,[]⟩) (λx=>⟨match x.d with|.tup (d::_)=>d|d=>d,true,false,[]⟩) ?_ (by rw[lM];unfold lim;omega) λx hx=>?_];rw[A4];exact congrArg R.ok (qH 2 [0] (λh=>D.lst (nS h)) hs);rw[iM,G];show R.ok (items _ (fQ (eZ hs) (cA hs)),[])=_;rw[aCR];unfold items;rw[A4];rfl;obtain⟨h,L,rfl⟩:=A0.mp hx;have pr:=sO (n+36) (bR h);rw[lM] at pr;have B:=vF n (aGM bs.length true (h.length+1)) (by rw[A9];have:=(o.ok h L).few;omega);rw[A9] at B;exact⟨[.T (.lst (nS h)),.T (.lst (bR h)),.T (.lst (aE bs))],rfl,lF (aI 2 rfl) (aI 0 rfl) (cW (aI 1 rfl) pr) (aA _) B⟩
 exact aG (F:=f32) rfl rfl (cs k1 (aY I))
theorem aEb(n:Nat)(hb:bs∈boxSet):call pg (n+1) 6 [.lst (aE bs)]=.ok (.int (jO bs),false,false):=by rcases box_six hb with rfl|rfl|rfl|rfl|rfl|rfl <;> rfl
theorem aBA(n:Nat)(hb:bs∈boxSet)(o:eP bs.length hs):∃x:Int,x<=1000/\call pg (n+2) 34 [.lst (aE bs),.lst (cA hs)]=.ok (.int x,false,false):=by
 obtain⟨W,p1⟩:=aAl hb;obtain⟨m,hm,L⟩:∃m:Nat,(∀h∈hs,h.length<=m)/\((hs.length=2/\m=3)\/(hs.length=3/\m=2)):=by
  rcases o.two with⟨a,b⟩|⟨a,b⟩
  exact⟨3,b,.inl ⟨a,rfl⟩⟩;exact⟨2,b,.inr ⟨a,rfl⟩⟩
 let G:Sl->Sl->Sg:=λs2 B=>[.T (.lst (aE bs)),.T (.lst (cA hs)),s2,B]
 have hw:walk pg (cP (n+1)) (G (.F (.int (jO bs))) .x) (.seq (.v 1))=.ok (hs.map (λh=>Vl.mk (.lst (bR h)) false true []),[]):=by rw[bZ,aI 1 rfl,aH];show R.ok (items _ (cA hs),[])=_;unfold items;rw[A4];rfl
 obtain⟨Z',ef,x,B,h0,h1,h2,rfl⟩:=dF (t:=.n 3) (b:=match hdS (drp 1 f34.body) with|.for _ _ b=>b|_=>.z) (λi Z=>∃x B,1<=x/\x<=24*((m:Int)+1) ^ i/\i<=3/\Z=G (.F (.int x)) B) hw ⟨jO bs,_,p1,by simpa using W,by decide,rfl⟩ λi hi Z ⟨x,B,h0,h1,h2,U⟩=>by
  have I:i<hs.length:=by simpa using hi
  subst U;have hl:=hm hs[i] (AI I);have hp:((m:Int)+1) ^ i<=64:=by
   have:i=0\/i=1\/i=2:=by omega
   have m2:m=3\/m=2:=by omega
   rcases this with rfl|rfl|rfl <;> rcases m2 with rfl|rfl <;> decide
  have pr:=sO n (bR hs[i]);rw[lM] at pr;have mo:iI x ((hs[i].length:Int)+1)=true:=by unfold iI;rw[Ao (by omega),Ao (by omega)];rfl
  refine⟨G (.F (.int x)) (.T (.lst (bR hs[i]))),G (.F (.int (x*((hs[i].length:Int)+1)))) (.T (.lst (bR hs[i]))),?_,bU (aR (dG (aD 2 rfl) (cW (aI 3 rfl) pr) (mul_int mo))),_,_,?_,?_,by omega,rfl⟩;rw[AC];rfl;have:=Jb h0 (show(1:Int)<=(hs[i].length:Int)+1 by omega) (by decide) (by omega);omega;rw[Int.pow_succ,<-Int.mul_assoc];exact Jb h1 (by omega) (by omega) (E4 (by omega) h1)
 refine⟨x,?_,aG rfl rfl (v:=.cl (.int x)) (cs (aR (cW (aI 0 rfl) (aEb n hb))) (cs ef (pS rfl)))⟩;rw[lM] at h1;rcases L with⟨a,b⟩|⟨a,b⟩
 rw[a,b] at h1;exact E4 h1 (by decide);rw[a,b] at h1;exact E4 h1 (by decide)
theorem nT(n:Nat)(hb:bs∈boxSet){g:Cn}(gw:g.wf bs.length true)(gs:g.sz<=31)(o:eP bs.length hs):call pg (n+41) 27 [.lst (aE bs),g.d,.lst (cA hs),.lst (aCQ hs),.lst (eZ hs)]=.ok (aQ bs g hs,false,false):=by
 obtain⟨l2,l3⟩:=jG o
 let τ:Sl->Sl->Sl->Sl->Sl->Sg:=λs5 I s7 L U=>[.T (.lst (aE bs)),.T g.d,.T (.lst (cA hs)),.T (.lst (aCQ hs)),.T (.lst (eZ hs)),s5,I,s7,L,U]
 have W:∀{I s7 L U},eV (n+40) (τ (.O (aE bs)) I s7 L U) (.v 5)=.ok ⟨.lst (aE bs),false,false,[5]⟩:=bD 5 rfl;have v7:∀{I L U},eV (n+40) (τ (.O (aE bs)) I (.O (cA hs)) L U) (.v 7)=.ok ⟨.lst (cA hs),false,false,[7]⟩:=bD 7 rfl;have B:=dJ (@v7 (.F g.d) .x .x) rfl;rw[lM] at B;have pd:aCQ hs=(Af hs.length Cn.yes).map Cn.d:=by rw[GS];exact Im ..
 have G:=vF (n+3) (aGM bs.length false hs.length) (by rw[A9];omega);rw[A9,<-pd] at G;obtain⟨x,hx,cx⟩:=aBA (n+38) hb o;exact aG rfl rfl (v:=⟨aQ bs g hs,false,false,[5,7,8,9]⟩) (cs (bI (cW (aI 0 rfl) (xS (n+36) hb))) (cs (aR (bL W (aK 1 rfl g.noL) (aA _) (aAm (n+4) gw gs))) (cs (bI (cG W (aI 2 rfl) (aDZ n o))) (cs (bI (lF W (aI 3 rfl) B (aA _) G)) (cs (bI (gR W (aI 4 rfl) v7 (aEa (n+2) o))) (cs (bQ (bM (dN W v7 cx) (aA _) (congrArg some (Az (by omega))))) (aY rfl)))))))
theorem sP{x y z w u:Vl}(h1:ev P W Z a=.ok x)(h2:ev P W Z b=.ok y)(B:ev P W Z c=.ok z)(G:ev P W Z e=.ok w)(I:ev P W Z g=.ok u)(L:W f [x.d,y.d,z.d,w.d,u.d]=.ok (d,fr,false)):ev P W Z (.call f (.k a (.k b (.k c (.k e (.k g .z))))))=.ok ⟨d,fr,false,[]⟩:=by
 have e:evs P W Z (.k a (.k b (.k c (.k e (.k g .z)))))=.ok [x,y,z,w,u]:=by rw[aF,h1,aOX h2 B G I];rfl
 rw[eH,e,aH,show [x,y,z,w,u].map (·.d)=[x.d,y.d,z.d,w.d,u.d] from rfl,L];rfl
theorem nU{ns ms:List Int}{es:Es}{b:E}{k:Nat}(L:ns.length<=63)(hm:ms.length<=4)(B:Z[0]? = some (.T (.lst (ns.map D.int))))(G:evs P W Z es=.ok ((ms.map D.int).map Vl.cl))(hb:ev P W Z b=.ok (.cl (.int (k:Int))))(I:k<ns.length+ms.length) :
 ev P W Z (.idx (.op .Add (.v 0) (.lst es)) b)=.ok (.cl (.int ((ns++ms).getD k 0))):=by refine eY (dG (aI 0 B) (cH G) (tQ rfl rfl (dL ns) (dL ms) (by rw[lM,lM];unfold lim;omega))) ?_ hb (by rw[lA];exact I);rw[A7]
abbrev gU(p:Bool):Cn:=if p then .yes else .cmp false (.box 0) (.num 1)
abbrev hoF(ns xs:List Int)(s2 s3 s4 s5 s6 s7 s8:Sl):Sg:=[.T (.lst (ns.map D.int)),.O (xs.map D.int),s2,s3,s4,s5,s6,s7,s8]
theorem aBB(n:Nat)(ns:List Int){xs:List Int}(hx:xs.length=9):∃bs∈boxSet,∀ss,exs pg (call pg n) (hoF ns xs .x .x .x .x .x .x .x) (.k (hdS (drp 1 f48.body)) (.k (hdS (drp 2 f48.body)) ss))=exs pg (call pg n) (hoF ns xs (.O (aE bs)) .x .x .x .x .x .x) ss:=by
 have x:∀(k:Nat) s2,k<9->eV n (hoF ns xs s2 .x .x .x .x .x .x) (.idx (.v 1) (.i (k:Int)))=.c (.int (xs.getD k 0)):=λk s2 L=>eY (bD 1 rfl) rfl (aA _) (by omega);have k1:eX n (hoF ns xs .x .x .x .x .x .x .x) (hB 1 f48)=.next (hoF ns xs (.O (aE (b3 (1+xs.getD 0 0 % 2) (1+xs.getD 1 0 % 2)))) .x .x .x .x .x .x):=bI (cH (aC (bB (aC (aA _) (aC (dC (aA _) (dR (x 0 _ (by decide)) (aA (.int 2)) (by decide))) aU))) (aC (bB (aC (aA _) (aC (dC (aA _) (dR (x 1 _ (by decide)) (aA (.int 2)) (by decide))) aU))) (aC (bB (aC (aA _) (aC (aA _) aU))) aU))));have h0:1+xs.getD 0 0 % 2=1\/1+xs.getD 0 0 % 2=2:=by omega
 have h1:1+xs.getD 1 0 % 2=1\/1+xs.getD 1 0 % 2=2:=by omega
 have B:eT n (hoF ns xs (.O (aE (b3 (1+xs.getD 0 0 % 2) (1+xs.getD 1 0 % 2)))) .x .x .x .x .x .x) (match hdS (drp 2 f48.body) with|.iff c _ _=>c|_=>.c .non)=.ok ((1+xs.getD 0 0 % 2+(1+xs.getD 1 0 % 2)==2)&&(xs.getD 6 0 % 3==0)):=aMk (bM ((λs t=>rfl) _ _) (aA _) rfl) (bM (dR (x 6 (.O (aE (b3 (1+xs.getD 0 0 % 2) (1+xs.getD 1 0 % 2)))) (by decide)) (aA (.int 3)) (by decide)) (aA _) rfl);cases q:((1+xs.getD 0 0 % 2+(1+xs.getD 1 0 % 2)==2)&&(xs.getD 6 0 % 3==0)) with
 | false=>rw[q] at B;refine⟨b3 (1+xs.getD 0 0 % 2) (1+xs.getD 1 0 % 2),?_,λss=>cs k1 (cs (bQ B) rfl)⟩;rcases h0 with h0|h0 <;> rcases h1 with h1|h1 <;> rw[h0,h1] <;> simp[boxSet]
 | true=>
  rw[q] at B;have G:1+xs.getD 0 0 % 2=1/\1+xs.getD 1 0 % 2=1:=by rw[bA] at q;have:=eq_of_beq q.1;omega
  have h6:1+xs.getD 6 0 / 3 % 2=1\/1+xs.getD 6 0 / 3 % 2=2:=by omega
  have I:eX n (hoF ns xs (.O (aE (b3 (1+xs.getD 0 0 % 2) (1+xs.getD 1 0 % 2)))) .x .x .x .x .x .x) (hB 2 f48)=.next (hoF ns xs (.O (aE (b3 (1+xs.getD 0 0 % 2) (1+xs.getD 1 0 % 2))++[box ("d",1+xs.getD 6 0 / 3 % 2)])) .x .x .x .x .x .x):=oU B (bU (fU (bB (aC (aA _) (aC (dC (aA _) (dR (dG (x 6 _ (by decide)) (aA (.int 3)) (qF (by decide))) (aA (.int 2)) (by decide))) aU))) rfl (by unfold lim;simp[aE]) rfl rfl));rw[G.1,G.2] at I k1;refine⟨b4 (1+xs.getD 6 0 / 3 % 2),?_,λss=>cs k1 (cs I rfl)⟩;rcases h6 with h6|h6 <;> rw[h6] <;> simp[boxSet]
theorem aIX(a b c:Int)(hb:b=3\/b=2):∃r:Nat,(1+a % b)*(if c>0 then 1 else 0)=(r:Int)/\(r:Int)<=b:=by rcases hb with rfl|rfl <;> split;exact⟨(1+a % 3).toNat,by omega,by omega⟩;exact⟨0,by omega,by omega⟩;exact⟨(1+a % 2).toNat,by omega,by omega⟩;exact⟨0,by omega,by omega⟩
theorem aBC(n:Nat){ns:List Int}(hn:ns.length<=63):∃bs∈boxSet,∃(p:Bool) (hs:List (List (List Way))),eP bs.length hs/\call pg (n+42) 48 [.lst (ns.map D.int)]=.ok (aQ bs (gU p) hs,false,false):=by
 let xs:=sK ((ns++[0]).getD 0 0) 9
 have xl:xs.length=9:=iN _ _;obtain⟨bs,hb,kb⟩:=aBB (n+41) ns xl;obtain⟨l3,l4⟩:=dH hb
 let U:List (List (List Way))->Sl->Sl->Sl->Sl->Sl->Sg:=λhs L I G s7 s8=>hoF ns xs (.O (aE bs)) (.O (cA hs)) L I G s7 s8
 have x:∀(k:Nat) hs L I G s7 s8,k<9->eV (n+41) (U hs L I G s7 s8) (.idx (.v 1) (.i (k:Int)))=.c (.int (xs.getD k 0)):=λk _ _ _ _ _ _ hk=>eY (bD 1 rfl) rfl (aA _) (by omega);have q2:∀{hs L I G s7 s8},eV (n+41) (U hs L I G s7 s8) (.op .Mod (.idx (.v 1) (.i 2)) (.i 2))=.c (.int (xs.getD 2 0 % 2)):=dR (x 2 _ _ _ _ _ _ (by decide)) (aA (.int 2)) (by decide);obtain⟨M,eM,hM⟩:=xQ (xs.getD 2 0) (n:=2) (by decide);rw[show((2:Nat):Int)=2 from rfl] at eM
 let B:Int:=if M=0 then 3 else 2
 have hB:B=3\/B=2:=by show(if M=0 then (3:Int) else 2)=3\/(if M=0 then (3:Int) else 2)=2;split;exact .inl rfl;exact .inr rfl
 have q3:∀hs L I G s7 s8,eV (n+41) (U hs L I G s7 s8) (.idx (.lst (.k (.i 3) (.k (.i 2) .z))) (.op .Mod (.idx (.v 1) (.i 2)) (.i 2)))=.c (.int B):=λhs L I G s7 s8=>by
  have:=@q2 hs L I G s7 s8;rw[eM] at this;have h2:=eY (xs:=[3,2]) (cH (aC (aA (.int 3)) (aC (aA (.int 2)) aU))) rfl this hM;have:([3,2]:List Int).getD M 0=B:=by
   have:M=0\/M=1:=by omega
   rcases this with rfl|rfl <;> rfl
  rw[this] at h2;exact h2
 have hr:=dC (aA (.int 2)) (@q2 [] .x .x .x .x .x);rw[eM,show(2:Int)+(M:Int)=((2+M:Nat):Int) by omega] at hr;obtain⟨Z',ef,hs,L,I,G,g1,g2,rfl⟩:=dF (t:=.n 4) (b:=match hdS (drp 4 f48.body) with|.for _ _ b=>b|_=>.z) (λi Z=>∃(hs:List (List (List Way))) (L I G:Sl),hs.length=i/\(∀h∈hs,xM bs.length h/\(h.length:Int)<=B)/\Z=U hs L I G .x .x) (cC hr rfl (by omega)) ⟨[],_,_,_,rfl,λ_ z=>absurd z AM,rfl⟩ λi hi Z ⟨hs,L,I,G,g1,g2,q6⟩=>by
  have q8:i<2+M:=by simpa using hi
  subst q6;have x3:∀I G,eV (n+41) (U hs (.F (aN i)) I G .x .x) (.idx (.v 1) (.op .Add (.i 3) (.v 4)))=.c (.int (xs.getD (3+i) 0)):=λI G=>eY (bD 1 rfl) rfl (by
   have:=dC (P:=pg) (W:=cP (n+41)) (Z:=U hs (.F (aN i)) I G .x .x) (aA (.int 3)) (aD 4 rfl);rw[show(3:Int)+(i:Int)=((3+i:Nat):Int) by omega] at this;exact this) (by omega)
  obtain⟨r,er,q9⟩:=aIX (xs.getD (3+i) 0) B (xs.getD (3+i) 0 / 6 % 9) hB;have b6:eV (n+41) (U hs (.F (aN i)) (.F (.int (1+xs.getD (3+i) 0 % B))) G .x .x) (.bi .int (.k (.cmp .Gt (.op .Mod (.op .FloorDiv (.idx (.v 1) (.op .Add (.i 3) (.v 4))) (.i 6)) (.i 9)) (.i 0)) .z))=.c (.int (if xs.getD (3+i) 0 / 6 % 9>0 then 1 else 0)):=by refine dI (sJ (dR (dG (x3 (.F (.int (1+xs.getD (3+i) 0 % B))) G) (aA (.int 6)) (qF (by decide))) (aA (.int 9)) (by decide)) (aA (.int 0)) rfl) ?_;by_cases hq:xs.getD (3+i) 0 / 6 % 9>0;rw[if_pos hq,Ao hq];rfl;rw[if_neg hq,Az hq];rfl
  have m2:eX (n+41) (U hs (.F (aN i)) (.F (.int (1+xs.getD (3+i) 0 % B))) G .x .x) (.set (.n 5) (.op .Mult (.v 5) (.bi .int (.k (.cmp .Gt (.op .Mod (.op .FloorDiv (.idx (.v 1) (.op .Add (.i 3) (.v 4))) (.i 6)) (.i 9)) (.i 0)) .z))))=.next (U hs (.F (aN i)) (.F (.int r)) G .x .x):=by
   rw[<-er];refine aR (dG (aD 5 rfl) b6 (mul_int ?_));have h1:0<=xs.getD (3+i) 0 % B/\xs.getD (3+i) 0 % B<3:=by rcases hB with h|h <;> rw[h] <;> omega
   unfold iI;rw[Ao (by omega),Ao (by omega)];rfl
  have q4:=nU (ms:=[0,0,0,0]) hn (by decide) rfl (aC (aA (.int 0)) (aC (aA (.int 0)) (aC (aA (.int 0)) (aC (aA (.int 0)) aU)))) (by
   have:=dC (P:=pg) (W:=cP (n+41)) (Z:=U hs (.F (aN i)) (.F (.int r)) G .x .x) (aA (.int 1)) (aD 4 rfl);rw[show(1:Int)+(i:Int)=((1+i:Nat):Int) by omega] at this;exact this) (by simp;omega)
  have c7:opD .Mult (.cl (.int 7)) (.cl (.int (i:Int)))=.c (.int (7*i)):=mul_int (by
   unfold iI;rw[Ao (by omega)];rfl)
  obtain⟨h,hl,ho,hc⟩:=aDY (n+39) hb ((ns++[0,0,0,0]).getD (1+i) 0+7*i) (xs.getD 8 0 % 3) (h:=i) (r:=r) (by omega) (by omega);have q1:eV (n+41) (U hs (.F (aN i)) (.F (.int r)) (.F (.int ((ns++[0,0,0,0]).getD (1+i) 0+7*i))) .x .x) (.call 47 (.k (.v 6) (.k (.v 2) (.k (.v 4) (.k (.v 5) (.k (.op .Mod (.idx (.v 1) (.i 8)) (.i 3)) .z))))))=.ok ⟨.lst (bR h),true,false,[]⟩:=by exact sP (aD 6 rfl) (bD 2 rfl) (aD 4 rfl) (aD 5 rfl) (dR (x 8 _ _ _ _ _ _ (by decide)) (aA (.int 3)) (by decide)) hc
  refine⟨U hs (.F (aN i)) I G .x .x,_,?_,cs (aR (dC (aA _) (dR (x3 _ _) (q3 _ _ _ _ _ _) (by omega)))) (cs m2 (cs (aR (dC q4 (dG (aA (.int 7)) (aD 4 rfl) c7))) (bU (fU q1 rfl (by rw[lM];unfold lim;omega) rfl (by rw[cA,A7];rfl))))),hs++[h],_,_,_,by rw[lA,g1];rfl,kK g2 ⟨ho,by omega⟩,rfl⟩;rw[AC,AN,fB];rfl
 have gl:hs.length=2+M:=by rw[g1];simp
 have ho:eP bs.length hs:=⟨λh hh=>(g2 h hh).1,by
  have:M=0\/M=1:=by omega
  rcases this with rfl|rfl;exact .inl ⟨gl,λh hh=>by have:=(g2 h hh).2;have:(h.length:Int)<=3:=this;omega⟩;exact .inr ⟨gl,λh hh=>by have:=(g2 h hh).2;have:(h.length:Int)<=2:=this;omega⟩⟩
 obtain⟨p,_,e7⟩:=qJ (zs:=[true,false]) (f:=λp=>(gU p).d) (cH (aC (bB (aC (aA _) aU)) (aC (bB (aC (aA _) (aC (bB (aC (aA _) (aC (aA _) aU))) (aC (bB (aC (aA _) (aC (aA _) aU))) aU)))) aU))) rfl (x 7 _ _ _ _ _ _ (by decide)) rfl (by decide) (λt _=>Cn.noL _);have q0:∀s3 al s8,ev pg (cP (n+41)) (hoF ns xs (.O (aE bs)) s3 L I G (.F (gU p).d) s8) (.v 3)=.ok ⟨.lst (cA hs),false,false,al⟩->walk pg (cP (n+41)) (hoF ns xs (.O (aE bs)) s3 L I G (.F (gU p).d) s8) (.seq (.v 3))=.ok (hs.map (λh=>Vl.mk (.lst (bR h)) false false al),al):=λs3 al s8 h=>by rw[bZ,h,aH];show R.ok (items _ (cA hs),al)=_;unfold items;rw[A4];rfl
 have e8:ev pg (cP (n+41)) (U hs L I G (.F (gU p).d) .x) (.comp 1 [] (.n 0) (.seq (.v 3)) .z (.op .Mult (.lst (.k (.tup (.k (.c (.str "yes")) .z)) .z)) (.op .Add (.bi .len (.k (.v 0) .z)) (.i 1))))=.ok (dW 1 [] [3] (hs.map λh=>Vl.mk (.lst (nS h)) true false [])):=by
  rw[nG (λx=>⟨match x.d with|.lst ds=>.lst ((Af (ds.length+1) Cn.yes).map Cn.d)|d=>d,true,false,[]⟩) (q0 _ _ _ (bD 3 rfl)) (by rw[lM];unfold lim;omega) λy hy=>?_];rw[A4];refine congrArg (λz=>R.ok (dW 1 [] [3] z)) (B1 λh _=>?_);show Vl.mk (.lst ((Af ((bR h).length+1) Cn.yes).map Cn.d)) true false []=_;rw[show(bR h).length=h.length from lM _];obtain⟨h,hh,rfl⟩:=A0.mp hy;have q7:=(g2 h hh).1.few;refine⟨[.F (.lst (bR h))],rfl,?_⟩;refine dG (cH (aC (bB (aC (aA _) aU)) aU)) (dC (dJ (aD 0 rfl) rfl) (aA (.int 1))) ?_;rw[show(bR h).length=h.length from lM _];show R.iff (true&&aT ((h.length:Int)+1)&&decide (1*((h.length:Int)+1).toNat<=lim)&&noLs [Cn.yes.d]) (.ok (Vl.mk (.lst (Af ((h.length:Int)+1).toNat [Cn.yes.d]).flatten) true false []))=R.ok (Vl.mk (.lst ((Af ((bR h).length+1) Cn.yes).map Cn.d)) true false []);have sk:aT ((h.length:Int)+1)=true:=kZ (n:=h.length+1) (by omega);have tn:((h.length:Int)+1).toNat=h.length+1:=by omega
  have fl:∀k:Nat,(Af k [Cn.yes.d]).flatten=(Af k Cn.yes).map Cn.d:=λk=>by
   induction k with
   | zero=>rfl|succ k ih=>rw[BC,BR,ih,BC];rfl
  rw[sk,tn,fl,show(bR h).length=h.length from lM _,Ao (by unfold lim;omega)];rfl
 have cv:dW 1 [] [3] (hs.map λh=>Vl.mk (.lst (nS h)) true false [])=⟨.lst (eZ hs),true,false,[3]⟩:=by
  have e0:=qH 1 [] (λh=>D.lst (nS h)) hs;have q5:noLs (eZ hs)=false:=by
   cases hs with
   | nil=>simp at gl;omega|cons h _=>rfl
  have e1:(hs.map λh=>Vl.mk (.lst (nS h)) true false []).map (·.d)=eZ hs:=by rw[A4];rfl
  unfold dW at e0 ⊢;rw[e1,q5] at e0 ⊢;injection e0 with _ _ e2 e3
  rw[e2];have e3:(bY (hs.map λh=>Vl.mk (.lst (nS h)) true false [])).filterMap (λj=>([]:List Nat)[j-1]?)=[]:=e3;rw[e3];rfl
 rw[cv] at e8;have k8:eX (n+41) (U hs L I G (.F (gU p).d) .x) (hdS (drp 6 f48.body))=.next (hoF ns xs (.O (aE bs)) (.F (.lst (cA hs))) L I G (.F (gU p).d) (.O (eZ hs))):=by show ex pg (cP (n+41)) _ (.set (.n 8) _)=_;rw[kE,e8];rfl
 have bw:(gU p).wf bs.length true/\(gU p).sz<=31:=by
  cases p with
  | true=>exact⟨trivial,by decide⟩|false=>exact⟨⟨by show 0<bs.length;omega,by decide,by decide⟩,by decide⟩
 exact⟨bs,hb,p,hs,ho,aG rfl rfl (v:=.cl (aQ bs (gU p) hs)) (cs (bI (cG (nU hn (by decide) rfl (aC (aA _) aU) (aA _) (by simp)) (aA (.int 9)) (gD rfl (n+40) _ (by decide)))) ((kb _).trans (cs rfl (cs ef (cs (aR e7) (cs k8 (aY (jF (bD 2 rfl) (aD 7 rfl) (aD 3 rfl) (fG (λh=>Vl.mk (.lst (bR h)) false false []) (λ_=>Cn.yes.d) (λ_=>rfl) (q0 _ _ _ (aD 3 rfl)) (by unfold lim;omega) λh _=>⟨[.F (.lst (bR h))],rfl,bB (aC (aA _) aU)⟩) (bD 8 rfl) (nT n hb bw.1 bw.2 ho)))))))))⟩
theorem aBD{α:Type}(xs:List α)(k:Nat):cut xs none (some (k:Int))=xs.take k:=by unfold cut;show(xs.drop 0).take (min k xs.length-0)=_;rw[II,FF];by_cases h:k<=xs.length;rw[Io h];rw[HP (by omega),Bw (Al _),Bw (by omega)]
theorem aBE{α:Type}(xs:List α)(k:Nat):cut xs (some (k:Int)) none=xs.drop k:=by unfold cut;show(xs.drop (min k xs.length)).take (xs.length-min k xs.length)=_;rw[Bw (by rw[Bs];omega)];by_cases h:k<=xs.length;rw[Io h];rw[HP (by omega),FK (Al _),FK (by omega)]
theorem aMo(h:noLs ds=true)(lo hi:Option Int):fA (.cl (.tup ds)) lo hi=.ok (.cl (.tup (cut ds lo hi))):=by show R.ok (Vl.mk (.tup (cut ds lo hi)) false (false&&!noLs ds) (if noLs ds=true then [] else []))=_;rw[h];rfl
theorem aMp{a b:E}{is:List Int}{k:Nat}(h:ev P W Z a=.ok (.cl (aL is)))(hb:ev P W Z b=.ok (.cl (.int (k:Int))))(B:k<=1000000):ev P W Z (.sli a .z (.k b .z))=.ok (.cl (aL (is.take k))):=by rw[xB,h,aH,hb,aH];show R.iff (aT (k:Int)) (fA (.cl (.tup (is.map D.int))) none (some (k:Int)))=_;rw[kZ B,aMo (dL is),aBD,<-Dk];rfl
theorem aMq{a b:E}{is:List Int}{k:Nat}(h:ev P W Z a=.ok (.cl (aL is)))(hb:ev P W Z b=.ok (.cl (.int (k:Int))))(G:k<=1000000):ev P W Z (.sli a (.k b .z) .z)=.ok (.cl (aL (is.drop k))):=by
 have B:evs P W Z (.k b .z)=.ok [.cl (.int (k:Int))]:=by rw[aF,hb];rfl
 show(ev P W Z a >>= λx=>evs P W Z (.k b .z) >>= λl=>evs P W Z .z >>= λh=>_)=_;rw[h,aH,B,aH,dE,aH];show R.iff (aT (k:Int)) (fA (.cl (.tup (is.map D.int))) (some (k:Int)) none)=_;rw[kZ G,aMo (dL is),aBE,<-Cs];rfl
theorem aOY(a b:List Int)(h:a.length+b.length<=1000):opD .Add (.cl (aL a)) (.cl (aL b))=.ok (.cl (aL (a++b))):=by show R.iff (decide ((a.map D.int).length+(b.map D.int).length<=lim)) (.ok (Vl.mk (.tup (a.map D.int++b.map D.int)) false (false||false) ([]++[])))=_;rw[lM,lM,Ao (by unfold lim;omega),<-A7];rfl
theorem fJ(h:Z[i]? = some (.T (aQ bs g hs))):ev P W Z (.v i)=.ok ⟨aQ bs g hs,false,true,[]⟩:=by show cT Z i=_;unfold cT;rw[h];rfl
theorem aBF(h:Z[i]? = some (.T (aQ bs g hs))):ev P W Z (.idx (.v i) (.i 0))=.ok ⟨.lst (aE bs),false,true,[]⟩:=aZ (fJ h) (aA _) rfl
theorem aGN(h:Z[i]? = some (.T (aQ bs g hs))):ev P W Z (.idx (.v i) (.i 1))=.ok (.cl g.d):=aZ (fJ h) (aA _) (congrArg R.ok (cS g.noL))
theorem aGO(h:Z[i]? = some (.T (aQ bs g hs))):ev P W Z (.idx (.v i) (.i 2))=.ok ⟨.lst (cA hs),false,true,[]⟩:=aZ (fJ h) (aA _) rfl
theorem aAn(h:Z[i]? = some (.T (aQ bs g hs))):ev P W Z (.bi .len (.k (.idx (.v i) (.i 2)) .z))=.ok (.cl (.int hs.length)):=by have:=dJ (aGO (P:=P) (W:=W) h) rfl;rwa [lM] at this
theorem sQ{k:Nat}{h:List (List Way)}(B:hs[k]? = some h):eA ⟨.lst (cA hs),false,true,[]⟩ (.cl (.int (k:Int)))=.ok ⟨.lst (bR h),false,true,[]⟩:=nO (f:=λh=>D.lst (bR h)) rfl B
theorem aIY{h:List (List Way)}{p:Nat}{ws:List Way}(hp:h[p]? = some ws):eA ⟨.lst (bR h),false,true,[]⟩ (.cl (.int (p:Int)))=.ok ⟨iO ws,false,true,[]⟩:=nO (f:=iO) rfl hp
theorem mK(n:Nat)(h:List (List Way)){p:Nat}{ws:List Way}(hp:h[p]? = some ws):call pg (n+1) 28 [.lst (bR h),.int p]=.ok (iO ws,false,true):=by have G:=aI (P:=pg) (W:=cP n) (Z:=[.T (.lst (bR h)),.T (.int p)]) 0 rfl;have I:=aK (P:=pg) (W:=cP n) (Z:=[.T (.lst (bR h)),.T (.int p)]) 1 rfl rfl;have B:=dJ G rfl;rw[lM] at B;have L:=(Ax.mp hp).1;exact aG (F:=f28) rfl rfl (aY (vB (vC (aA (.int 0)) I B (by omega) (Ao (by omega))) (aZ G I (aIY hp))))
theorem pL(n:Nat)(h:List (List Way)):call pg (n+1) 28 [.lst (bR h),.int h.length]=.ok (.lst [],true,false):=by have B:=dJ (aI (P:=pg) (W:=cP n) (Z:=[.T (.lst (bR h)),.T (.int h.length)]) 0 rfl) rfl;rw[lM] at B;exact aG (F:=f28) rfl rfl (aY (vB (vC (aA (.int 0)) (aK 1 rfl rfl) B (by omega) (Az (by omega))) rfl))
abbrev St:=List Int×List Int
def aV(s:St):D:=.tup [aL s.1,aL s.2]
def aGP:Option St->D
 | none=>.non|some s=>aV s
theorem eL(s:St):noL (aV s)=true:=jE (aM _) (aM _)
abbrev aO(p:Nat×Nat):D:=.tup [aN p.1,aN p.2]
def cL(hs:List (List (List Way)))(s:St)(h:Nat):List Way:=(hs.getD h []).getD (s.2.getD h 0).toNat []
def goneF(bs:List (Str×Int))(hs:List (List (List Way)))(s:St)(p:Nat×Nat):Option St:=
 if p.2<(cL hs s p.1).length then (behF bs (iR (cL hs s p.1) p.2) s.1).map λst=>(st,s.2.take p.1++[(iR (cL hs s p.1) p.2).nx]++s.2.drop (p.1+1)) else none
structure SOk (m:Nat) (hs:List (List (List Way))) (s:St):Prop where
 st:s.1.length=m
 pl:s.2.length=hs.length
 rg:∀k,k<hs.length->0<=s.2.getD k 0/\s.2.getD k 0<=(hs.getD k []).length
abbrev goF(bs:List (Str×Int))(g:Cn)(hs:List (List (List Way)))(s:St)(p:Nat×Nat)(s3 s4 s5 s6 s7 s8:Sl):Sg:=[.T (aQ bs g hs),.T (aV s),.T (aO p),s3,s4,s5,s6,s7,s8]
theorem cB{α:Type}{l:List α}{k:Nat}(d:α)(h:k<l.length):l[k]? = some (l.getD k d):=by rw[Am,Ae h];rfl
theorem nV(n:Nat)(q2:bs.length<=4)(o:eP bs.length hs){s:St}(so:SOk bs.length hs s){p:Nat×Nat}(hp:p.1<hs.length):call pg (n+33) 35 [aQ bs g hs,aV s,aO p]=.ok (aGP (goneF bs hs s p),false,false):=by
 obtain⟨l2,l3⟩:=jG o
 let τ:=goF bs g hs s p
 have v1:∀{s3 s4 s5 G s7 B},eV (n+32) (τ s3 s4 s5 G s7 B) (.v 1)=.c (aV s):=aK 1 rfl (eL s);have L:∀{s3 s4 s5 G s7 B},eV (n+32) (τ s3 s4 s5 G s7 B) (.idx (.v 2) (.i 1))=.c (aN p.2):=aZ ((λ_ _ _ _ _ _=>aK 2 rfl rfl) _ _ _ _ _ _) (aA _) (gO _ _ _ rfl);have v3:∀{s4 s5 G s7 B},eV (n+32) (τ (.F (aN p.1)) s4 s5 G s7 B) (.v 3)=.c (aN p.1):=aD 3 rfl
 let I:Sl->Sl->Sl->Sg:=λG s7 B=>τ (.F (aN p.1)) (.F (aL s.1)) (.F (aL s.2)) G s7 B
 have w5:∀{G s7 B},eV (n+32) (I G s7 B) (.v 5)=.c (aL s.2):=aD 5 rfl;obtain⟨r0,r1⟩:=so.rg p.1 hp;obtain⟨q,eq⟩:∃q:Nat,s.2.getD p.1 0=(q:Int):=⟨_,(BV r0).symm⟩
 have i5:∀G s7 B,eV (n+32) (I G s7 B) (.idx (.v 5) (.v 3))=.c (.int (q:Int)):=λG s7 B=>by have:=aZ (@w5 G s7 B) v3 (nK (by rw[so.pl];exact hp));rw[eq] at this;exact this
 have ih:∀{G s7 B},eV (n+32) (I G s7 B) (.idx (.idx (.v 0) (.i 2)) (.v 3))=.ok ⟨.lst (bR (hs.getD p.1 [])),false,true,[]⟩:=aZ (aGO rfl) v3 (sQ (cB [] hp));have ro:cL hs s p.1=(hs.getD p.1 []).getD q []:=by unfold cL;rw[eq];rfl
 have pre:∀{v:Vl},eS (n+32) (I .x .x .x) (drp 4 f35.body)=.ret v->eS (n+32) (τ .x .x .x .x .x .x) f35.body=.ret v:=λe=>cs (aR (aZ ((λ_ _ _ _ _ _=>aK 2 rfl rfl) _ _ _ _ _ _) (aA _) (fY _ _ rfl))) (cs (bQ (cU (vC (aA _) v3 (aAn rfl) (by omega) (Ao (by omega))))) (cs (aR (aZ v1 (aA _) (fY _ _ (aM _)))) (cs (aR (aZ v1 (aA _) (gO _ _ _ (aM _)))) e)));by_cases q1:q<(hs.getD p.1 []).length;have U:(hs.getD p.1 [])[q]? = some (cL hs s p.1):=by rw[ro];exact cB [] q1
 have k5:eX (n+32) (I .x .x .x) (hB 4 f35)=.next (I (.T (iO (cL hs s p.1))) .x .x):=aBu (sM ih (i5 _ _ _) (mK (n+31) _ U) rfl rfl);have v6:∀{s7 B},eV (n+32) (I (.T (iO (cL hs s p.1))) s7 B) (.v 6)=.ok ⟨iO (cL hs s p.1),false,true,[]⟩:=aI 6 rfl;have W:=dJ (@v6 .x .x) rfl;rw[lM] at W;have t6:=vC (k:=decide (p.2<(cL hs s p.1).length)) (aA (.int 0)) (@L (.F (aN p.1)) (.F (aL s.1)) (.F (aL s.2)) (.T (iO (cL hs s p.1))) .x .x) W (by omega) (by simp);by_cases hw:p.2<(cL hs s p.1).length
 . rw[Ao hw] at t6;have hm:=xP hw
   let w:=iR (cL hs s p.1) p.2
   have k8:eX (n+32) (I (.T (iO (cL hs s p.1))) (.F w.d) .x) (hB 7 f35)=.next (I (.T (iO (cL hs s p.1))) (.F w.d) (.F (stD (behF bs w s.1)))):=aR (bL (aBF rfl) ((λ_=>aD 7 rfl) _) (aD 4 rfl) (aBs n so.st (by omega) (((o.ok _ (mG (cB [] hp))).ok _ (mG U)).ok _ hm.1).1));have w8:eV (n+32) (I (.T (iO (cL hs s p.1))) (.F w.d) (.F (stD (behF bs w s.1)))) (.v 8)=.c (stD (behF bs w s.1)):=aD 8 rfl;have t9:eT (n+32) (I (.T (iO (cL hs s p.1))) (.F w.d) (.F (stD (behF bs w s.1)))) (.cmp .Is (.v 8) (.c .non))=.ok (behF bs w s.1).isNone:=bM w8 (aA _) (by cases behF bs w s.1 <;> rfl);have gf:goneF bs hs s p=(behF bs w s.1).map λst=>(st,s.2.take p.1++[w.nx]++s.2.drop (p.1+1)):=if_pos hw;cases q9:behF bs w s.1 with
   | none=>rw[q9] at t9 gf;rw[gf];rw[q9] at k8;exact aG (F:=f35) rfl rfl (v:=.cl .non) (pre (cs k5 (cs (bQ (cU t6)) (cs (aR (vD v6 rfl L hm.2 (eW _))) (cs k8 (dY t9 (aY (aA _))))))))|some st=>rw[q9] at t9 gf w8 k8;rw[gf];have q3:=so.pl;exact aG rfl rfl (v:=.cl (aV (st,s.2.take p.1++[w.nx]++s.2.drop (p.1+1)))) (pre (cs k5 (cs (bQ (cU t6)) (cs (aR (vD v6 rfl L hm.2 (eW _))) (cs k8 (cs (bQ t9) (aY (gQ w8 (dG (dG (aMp w5 v3 (by omega)) (bB (aC (aZ ((λ_=>aD 7 rfl) _) (aA (.int 2)) (aBr _ _ _ _ rfl)) aU)) (aOY (s.2.take p.1) [w.nx] (by simp;omega))) (aMq (k:=p.1+1) w5 (dC v3 (aA (.int 1))) (by omega)) (aOY _ (s.2.drop (p.1+1)) (by rw[lA,A8];simp;omega)))))))))))
 rw[Az hw] at t6;rw[show goneF bs hs s p=none from if_neg hw];exact aG (F:=f35) rfl rfl (v:=.cl .non) (pre (cs k5 (dY (cU t6) (aY (aA _)))));have q0:q=(hs.getD p.1 []).length:=by omega
 have rn:cL hs s p.1=[]:=by rw[ro,Am,BJ (by omega)];rfl
 rw[show goneF bs hs s p=none from if_neg (by rw[rn];simp)];exact aG (F:=f35) rfl rfl (v:=.cl .non) (pre (cs (bI (cG ih (i5 _ _ _) (by rw[q0];exact pL (n+31) _))) (dY (cU (vC (aA (.int 0)) (@L (.F (aN p.1)) (.F (aL s.1)) (.F (aL s.2)) (.O []) .x .x) (dJ (bD 6 rfl) rfl) (by omega) (Az (by simp)))) (aY (aA _)))))
theorem aAo:∀(ps:List (Nat×Sm)) (B r:List Int),putF bs st B ps=some r->r.length=B.length
 | [],B,r,h=>by cases h;rfl|p::ps,B,r,h=>by unfold putF at h;split at h;have:=aAo ps _ r h;rw[this,AF];cases h
theorem aGQ{st r:List Int}(h:behF bs w st=some r):r.length=st.length:=by unfold behF at h;split at h;exact aAo _ _ _ h;cases h
theorem SOk.go(o:eP bs.length hs)(B:SOk bs.length hs s){p:Nat×Nat}(hp:p.1<hs.length)(h:goneF bs hs s p=some s'):SOk bs.length hs s':=by
 unfold goneF at h;split at h;rename_i G;obtain⟨st,h1,rfl⟩:=Bb.mp h;have U:=B.pl;have W:(s.2.getD p.1 0).toNat<(hs.getD p.1 []).length:=by
  by_cases z:(s.2.getD p.1 0).toNat<(hs.getD p.1 []).length;exact z;have e:cL hs s p.1=[]:=by unfold cL;rw[Am,BJ (by omega)];rfl
  rw[e] at G;exact absurd G (DI _)
 refine⟨by rw[aGQ h1];exact B.st,by simp only[bT,lA,A8,Bs,C5];omega,λk I=>?_⟩;have L:(s.2.take p.1).length=p.1:=by rw[A8];omega
 by_cases h1:k<p.1;have:(s.2.take p.1++[(iR (cL hs s p.1) p.2).nx]++s.2.drop (p.1+1)).getD k 0=s.2.getD k 0:=by rw[Am,BG,AQ (by omega),DL,if_pos h1,Am]
 rw[this];exact B.rg k I;by_cases h2:k=p.1;subst h2;have:(s.2.take p.1++[(iR (cL hs s p.1) p.2).nx]++s.2.drop (p.1+1)).getD p.1 0=(iR (cL hs s p.1) p.2).nx:=by rw[Am,BG,AD (by omega),L,JJ];rfl
 rw[this];have:=(((o.ok _ (mG (cB [] hp))).ok _ (mG (cB [] W))).ok (iR (cL hs s p.1) p.2) (xP G).1).2;omega;have:(s.2.take p.1++[(iR (cL hs s p.1) p.2).nx]++s.2.drop (p.1+1)).getD k 0=s.2.getD k 0:=by
  have l1:(s.2.take p.1++[(iR (cL hs s p.1) p.2).nx]).length=p.1+1:=by rw[lA,L];rfl
  rw[Am,AD (by omega),l1,List.getElem?_drop]
  congr 2
  omega
 rw[this];exact B.rg k I;cases h
theorem jH(n:Nat)(hb:bs∈boxSet)(h:st∈standsL bs):call pg (n+3) 8 [.lst (aE bs),aL st]=.ok (.bl true,false,false):=by
 obtain⟨L,U⟩:=iQ h;obtain⟨l3,l4⟩:=dH hb;have v0:=aI (P:=pg) (W:=cP (n+2)) (Z:=[.T (.lst (aE bs)),.T (aL st)]) 0 rfl;have I:=aK (P:=pg) (W:=cP (n+2)) (Z:=[.T (.lst (aE bs)),.T (aL st)]) 1 rfl (aM st);have n0:=dJ v0 rfl;have G:=dI I (lD _);rw[show(aE bs).length=bs.length from lM _] at n0;rw[lM] at G;have k1:=bQ (a:=.k (.ret (.c (.bl false))) .z) (dZ (cU (fV (cs:=[.tTuple]) I rfl)) (bM (o:=.NotEq) G n0 (by
  show(some ((st.length:Int)==(bs.length:Int))).map (!·)=_;rw[L,beq_self_eq_true];rfl)))
 have hz:fQ (aE bs) (st.map D.int)=(bs.zip st).map λx=>.tup [box x.1,.int x.2]:=by
  clear L U k1 I G;have:∀(bs:List (Str×Int)) st,fQ (bs.map box) (st.map D.int)=(bs.zip st).map λx=>.tup [box x.1,.int x.2]:=λbs=>by
   induction bs with
   | nil=>intro st;cases st <;> rfl|cons b bs B=>
    intro st;cases st with
    | nil=>rfl|cons i st=>show .tup [box b,.int i]::fQ (bs.map box) (st.map D.int)=_;rw[B st];rfl
  exact this bs st
 have hc:eV (n+2) [.T (.lst (aE bs)),.T (aL st)] (.comp 2 [] (.t [0,1]) (.zip (.v 0) (.v 1)) .z (.call 15 (.k (.v 1) (.k (.i 0) (.k (.idx (.v 0) (.i 1)) .z)))))=.ok ⟨.lst ((bs.zip st).map λ_=>.bl true),true,false,[]⟩:=by refine fG (al:=[]) (λx=>Vl.cl (.tup [box x.1,.int x.2])) (λ_=>.bl true) (λ_=>rfl) ?_ (by rw[List.length_zip];unfold lim;omega) λx hx=>?_;rw[iM,v0];show R.ok (items _ (fQ (aE bs) (st.map D.int)),[])=_;rw[hz,cD (λ_=>rfl)];obtain⟨i,hi⟩:=CD hx;rw[D6] at hi;have:=U i x.2 x.1 hi.2 hi.1;exact⟨[.F (box x.1),.F (.int x.2)],nN _ rfl rfl,bL (aD 1 rfl) (aA _) (aZ (aD 0 rfl) (aA (.int 1)) (gO _ _ _ rfl)) (iP n x.2 0 x.1.2 this.1 this.2)⟩
 refine aG (F:=f8) rfl rfl (v:=.cl (.bl true)) (cs k1 (aY (dI hc ?_)));have:cE ((bs.zip st).map λ_=>D.bl true)=some ((bs.zip st).map λ_=>true):=by
  induction (bs.zip st) with
  | nil=>rfl|cons x r B=>rw[mC];unfold cE;rw[B];rfl
 show(match cE ((bs.zip st).map λ_=>D.bl true) with|some bs=>R.ok (Vl.cl (.bl (bs.all id)))|none=>.bad)=_;rw[this];show R.ok (Vl.cl (.bl (((bs.zip st).map λ_=>true).all id)))=_;rw[FE];exact congrArg (λz=>R.ok (Vl.cl (.bl z))) (AO.mpr λ_ _=>rfl)
theorem lP(n:Nat)(hb:bs∈boxSet){q:Cn}(w:q.wf bs.length true)(z:q.sz<=31):call pg (n+32) 9 [.lst (aE bs),q.d]=.ok (.lst (((standsL bs).filter λst=>q.hold st st).map aL),true,false):=by
 have G:(standsL bs).length<=24:=by have:=aGn (nQ hb) bs.length (Al _);rwa [BZ] at this
 refine aG (F:=f9) rfl rfl (aY (aBq (al:=[]) (λst=>Vl.cl (aL st)) aL (λst=>q.hold st st) aM ?_ (by unfold lim;omega) λst B=>⟨[.F (aL st),.T q.d],rfl,fZ (aK 1 rfl q.noL) (aD 0 rfl) (aA _) (kJ n (iQ B).1 w z),aD 0 rfl⟩));rw[bZ,cW (aI 0 rfl) (vA rfl (n+30) (nQ hb)),aH];show R.ok (items _ ((standsL bs).map aL),[])=_;rw[cD aM]
theorem aEc(n:Nat)(hb:bs∈boxSet){ns:List Int}(I:ns.length<=63)(w:g.wf bs.length true)(z:g.sz<=31)(ne:1<=((standsL bs).filter λst=>g.hold st st).length):∃st∈standsL bs,g.hold st st=true/\call pg (n+33) 49 [.lst (ns.map D.int),aQ bs g hs]=.ok (aL st,false,false):=by
 let xs:=sK ((ns++[0]).getD 0 0) 10
 have G:eV (n+32) [.T (.lst (ns.map D.int)),.T (aQ bs g hs),.O (((standsL bs).filter λst=>g.hold st st).map aL)] (.call 43 (.k (.idx (.op .Add (.v 0) (.lst (.k (.i 0) .z))) (.i 0)) (.k (.i 10) .z)))=.ok ⟨.lst (xs.map D.int),true,false,[]⟩:=cG (nU I (by decide) rfl (aC (aA _) aU) (aA _) (by simp)) (aA (.int 10)) (gD rfl (n+31) _ (by decide));obtain⟨st,B,e⟩:=mJ (bD 2 rfl) rfl (eY (k:=9) G rfl (aA _) (by rw[iN];decide)) ne aM;rw[BK] at B;exact⟨st,B.1,B.2,aG rfl rfl (v:=.cl (aL st)) (cs (bI (cG (aBF rfl) (aGN rfl) (lP n hb w z))) (aY e))⟩
variable {bs:List (Str×Int)} {hs:List (List (List Way))}
abbrev bP(hs:List (List (List Way))):List Int:=Af hs.length 0
theorem aIZ(o:eP bs.length hs){st:List Int}(h:st.length=bs.length):SOk bs.length hs (st,bP hs):=⟨h,A9,λk B=>by
 have:(bP hs).getD k 0=0:=by rw[Am,BO,if_pos B];rfl
 rw[this];omega⟩
theorem aAp{Z:Sg}(G:hs.length<=3)(h:Z[i]? = some (.T (aQ bs g hs))):ev P W Z (.bi .tuple (.k (.comp 1 [] (.n 0) (.seq (.idx (.v i) (.i 2))) .z (.i 0)) .z))=.ok (.cl (aL (bP hs))):=by
 have B:ev P W Z (.comp 1 [] (.n 0) (.seq (.idx (.v i) (.i 2))) .z (.i 0))=.ok ⟨.lst (hs.map λ_=>.int 0),true,false,[]⟩:=by
  refine fG (al:=[]) (λh=>Vl.mk (.lst (bR h)) false true []) (λ_=>.int 0) (λ_=>rfl) ?_ (by unfold lim;omega) λh _=>⟨[.T (.lst (bR h))],rfl,aA _⟩
  rw[bZ,aGO h];show R.ok (items _ (cA hs),[])=_;unfold items;rw[A4];rfl
 have e:(hs.map λ_=>D.int 0)=(bP hs).map D.int:=by rw[GS];exact Im ..
 rw[e] at B;refine dI B ?_;show R.ok (Vl.mk (.tup ((bP hs).map D.int)) false (false&&!noLs ((bP hs).map D.int)) (if noLs ((bP hs).map D.int)=true then [] else []))=_;rw[dL];rfl
theorem vG(n:Nat)(B:hs.length<=3)(st:List Int):call pg (n+1) 37 [aQ bs g hs,aL st]=.ok (aV (st,bP hs),false,false):=
 aG (F:=f37) rfl rfl (aY (gQ (aK 1 rfl (aM st)) (aAp B rfl)))
structure Wov (bs:List (Str×Int)) (hs:List (List (List Way))) (s0:St) (ps:List (Nat×Nat)) (ss:List St):Prop where
 len:ss.length=ps.length+1
 z:ss.getD 0 s0=s0
 go:∀i,i<ps.length->goneF bs hs (ss.getD i s0) (ps.getD i (0,0))=some (ss.getD (i+1) s0)
 hd:∀p∈ps,p.1<hs.length
 ok:∀i,SOk bs.length hs (ss.getD i s0)
theorem fP{α:Type}(l r:List α)(d:α){i:Nat}(h:i<l.length):(l++r).getD i d=l.getD i d:=by rw[Am,Am,AQ h]
theorem iS{α:Type}(l:List α)(x d:α):(l++[x]).getD l.length d=x:=by rw[Am,AD (Al _),JJ];rfl
theorem Wov.nil(B:SOk bs.length hs s0):Wov bs hs s0 [] [s0]:=⟨rfl,rfl,λi h=>absurd h (DI _),λ_ h=>absurd h AM,λi=>by
 cases i with
 | zero=>exact B|succ i=>exact B⟩
theorem Wov.snoc(o:eP bs.length hs){ps:List (Nat×Nat)}{ss:List St}(W0:Wov bs hs s0 ps ss){p:Nat×Nat}(hp:p.1<hs.length)(h:goneF bs hs (ss.getD ps.length s0) p=some s'):Wov bs hs s0 (ps++[p]) (ss++[s']):=by
 have G:=W0.len;refine⟨by rw[lA,lA,G];rfl,by rw[fP _ _ _ (by omega)];exact W0.z,λi hi=>?_,λq L=>?_,λi=>?_⟩;rw[lA,C5] at hi;by_cases B:i<ps.length;rw[fP ss _ _ (by omega),fP ps _ _ B,fP ss _ _ (by omega)];exact W0.go i B;have:i=ps.length:=by omega
 subst this;rw[fP ss _ _ (by omega),iS];have e:=iS ss s' s0;rw[G] at e;rw[e];exact h;rcases B8.mp L with z|z;exact W0.hd q z;rw[Av.mp z];exact hp;by_cases B:i<ss.length;rw[fP ss _ _ B];exact W0.ok i;by_cases I:i=ss.length;subst I;rw[iS];exact((W0.ok ps.length).go o hp h);rw[Am,BJ (by simp;omega)];have:=W0.ok 0;rw[W0.z] at this;exact this
theorem fM{α B:Type}(f:α->B)(l:List α)(d:α){i:Nat}(h:i<l.length):(l.take (i+1)).map f=(l.take i).map f++[f (l.getD i d)]:=by rw[EG,A7,Ae h,Am,Ae h];rfl
theorem sR{α:Type}(f:α->D)(B:α):∀(xs:List α) (a:Nat),iK (a:Int) (xs.map f)=(Ap xs.length).map λi=>.tup [aN (a+i),f (xs.getD i B)]
 | [],_=>rfl|x::xs,a=>by rw[lC,Dc,mC,mC,A4];show .tup [.int (a:Int),f x]::iK ((a:Int)+1) (xs.map f)=_;rw[show((a:Int)+1)=((a+1:Nat):Int) by omega,sR f B xs (a+1)];refine congrArg _ (B1 λi _=>?_);rw[show a+1+i=a+(i+1) by omega];rfl
theorem oW(n:Nat)(hb:bs∈boxSet)(o:eP bs.length hs)(gw:g.wf bs.length true)(gz:g.sz<=31)(L:st∈standsL bs)(hg:g.hold st st=true){ps:List (Nat×Nat)}{ss:List St}(W0:Wov bs hs (st,bP hs) ps ss)(hp:ps.length<=100) :
 call pg (n+34) 36 [aQ bs g hs,aL st,.lst (ps.map aO)]=.ok (.lst (ss.map aV),true,false):=by
 obtain⟨l3,l4⟩:=dH hb;obtain⟨h2,h3⟩:=jG o
 let s0:=(st,bP hs)
 let B:Sl->Sl->Sl->Sl->Sg:=λs3 s4 U W=>[.T (aQ bs g hs),.T (aL st),.T (.lst (ps.map aO)),s3,s4,U,W]
 have k1:eX (n+33) (B .x .x .x .x) (hB 0 f36)=.next (B .x .x .x .x):=bQ (dZ (cU (by
  have e:evs pg (cP (n+33)) (B .x .x .x .x) (.k (.idx (.v 0) (.i 0)) (.k (.v 1) .z))=.ok [⟨.lst (aE bs),false,true,[]⟩,.cl (aL st)]:=by rw[aF,aBF rfl,aH,aF,(λ_ _ _ _=>aK 1 rfl (aM st))];rfl
  rw[eG,e];show(call pg (n+33) 8 [.lst (aE bs),aL st] >>= λr=>iJ (iU _ r))=_;rw[jH (n+30) hb L];rfl)) (cU (fZ (aGN rfl) ((λ_ _ _ _=>aK 1 rfl (aM st)) _ _ _ _) (aA _) (by
  have:=kJ (n+2) (iQ L).1 gw gz;rw[hg] at this;exact this))))
 have k3:eX (n+33) (B (.F (aV s0)) .x .x .x) (hB 2 f36)=.next (B (.F (aV (ss.getD 0 s0))) (.O ((ss.take 1).map aV)) .x .x):=by rw[fM aV ss s0 (by rw[W0.len];omega),show ss.getD 0 s0=s0 from W0.z];exact bI (cH (aC (aD 3 rfl) aU))
 have hw:walk pg (cP (n+33)) (B (.F (aV (ss.getD 0 s0))) (.O ((ss.take 1).map aV)) .x .x) (.enum (.v 2))=.ok ((Ap ps.length).map (λi=>Vl.cl (.tup [aN i,aO (ps.getD i (0,0))])),[]):=by rw[aCP (aI 2 rfl) rfl];have:=sR aO (0,0) ps 0;rw[show((0:Nat):Int)=0 from rfl] at this;rw[this];refine congrArg R.ok (congrArg (·,[]) ((cD (λi=>rfl) _).trans (B1 λi _=>?_)));rw[JK]
 obtain⟨Z',ef,U,W,rfl⟩:=dF (t:=.t [5,6]) (b:=match hdS (drp 3 f36.body) with|.for _ _ b=>b|_=>.z) (λi Z=>∃U W,Z=B (.F (aV (ss.getD i s0))) (.O ((ss.take (i+1)).map aV)) U W) hw ⟨_,_,rfl⟩ λi hi Z ⟨U,W,q0⟩=>by
  have I:i<ps.length:=by simpa using hi
  subst q0;have hl:=W0.len;have gr:=nV (g:=g) n l4 o (W0.ok i) (W0.hd (ps.getD i (0,0)) (mG (cB (0,0) I)));rw[W0.go i I] at gr;refine⟨B (.F (aV (ss.getD i s0))) (.O ((ss.take (i+1)).map aV)) (.F (aN i)) (.F (aO (ps.getD i (0,0)))),_,?_,cs (aR (bL (fJ rfl) (aD 3 rfl) (aD 6 rfl) gr)) (cs (bQ (bM (aD 3 rfl) (aA _) rfl)) (bU (fU (aD 3 rfl) rfl (by rw[lM,A8];unfold lim;omega) rfl (fM aV ss s0 (by omega))))),_,_,rfl⟩;rw[AC,AN];exact nN _ rfl rfl
 have G:(ss.take ((Ap ps.length).map (λi=>Vl.cl (.tup [aN i,aO (ps.getD i (0,0))]))).length.succ)=ss:=by rw[lM,Bm];exact Bw (by rw[W0.len];exact Al _)
 refine aG (F:=f36) rfl rfl (v:=⟨.lst (ss.map aV),true,false,[]⟩) (cs k1 (cs (aR (dN (fJ rfl) ((λ_ _ _ _=>aK 1 rfl (aM st)) _ _ _ _) (vG (n+32) h3 st))) (cs k3 (cs ef (pS ?_)))));show O.ret ⟨.lst ((ss.take ((Ap ps.length).map (λi=>Vl.cl (.tup [aN i,aO (ps.getD i (0,0))]))).length.succ).map aV),true,false,[]⟩=_;rw[G]
def pT(ps:List (Nat×Nat))(ss:List St)(s0:St)(i:Nat):D:=.tup [aN (ps.getD i (0,0)).1,.int ((ss.getD i s0).2.getD (ps.getD i (0,0)).1 0),aN (ps.getD i (0,0)).2]
theorem oX{α G:Type}(f:α->D)(h:G->D)(I:α)(L:G):∀(xs:List α) (B:List G),xs.length<=B.length->fQ (xs.map f) (B.map h)=(Ap xs.length).map λi=>.tup [f (xs.getD i I),h (B.getD i L)]
 | [],B,_=>by cases B <;> rfl|x::xs,[],hl=>by simp at hl|x::xs,y::B,hl=>by rw[lC,Dc,mC,mC,mC,A4];show .tup [f x,h y]::fQ (xs.map f) (B.map h)=_;rw[oX f h I L xs B (by simpa using hl)];rfl
theorem mL(n:Nat)(hb:bs∈boxSet)(o:eP bs.length hs)(U:g.wf bs.length true)(gz:g.sz<=31)(G:st∈standsL bs)(hg:g.hold st st=true){ps:List (Nat×Nat)}(W0:Wov bs hs (st,bP hs) ps ss)(hp:ps.length<=100) :
 call pg (n+35) 38 [aQ bs g hs,aL st,.lst (ps.map aO)]=.ok (.lst ((Ap ps.length).map (pT ps ss (st,bP hs))),true,false):=by
 let s0:=(st,bP hs)
 have hc:eV (n+34) [.T (aQ bs g hs),.T (aL st),.T (.lst (ps.map aO)),.O (ss.map aV)] (match hdS (drp 1 f38.body) with|.ret e=>e|_=>.c .non)=.ok ⟨.lst ((Ap ps.length).map (pT ps ss s0)),true,false,[]⟩:=by refine fG (al:=[3]) (λi=>Vl.cl (.tup [aO (ps.getD i (0,0)),aV (ss.getD i s0)])) (pT ps ss s0) (λ_=>rfl) ?_ (by rw[Bm];unfold lim;omega) λi hi=>?_;rw[iM,aI 2 rfl,aH,bD 3 rfl];show R.ok (items _ (fQ (ps.map aO) (ss.map aV)),[3])=_;rw[oX aO aV (0,0) s0 ps ss (by rw[W0.len];omega),cD (λi=>jE rfl (eL _))];have B:=B5.mp hi;have L:=aD (P:=pg) (W:=cP (n+34)) (Z:=[.F (aO (ps.getD i (0,0))),.F (aV (ss.getD i s0))]) 0 rfl;have I:=aZ L (aA (.int 0)) (fY _ _ rfl);exact⟨[.F (aO (ps.getD i (0,0))),.F (aV (ss.getD i s0))],nN _ rfl (eL _),aBt I (aZ (aZ (aD 1 rfl) (aA (.int 1)) (gO _ _ _ (aM _))) I (nK (by rw[(W0.ok i).pl];exact(W0.hd (ps.getD i (0,0)) (mG (cB (0,0) B)))))) (aZ L (aA (.int 1)) (gO _ _ _ rfl))⟩
 exact aG rfl rfl (v:=⟨.lst ((Ap ps.length).map (pT ps ss s0)),true,false,[]⟩) (cs (bI (gR (fJ rfl) (aK 1 rfl (aM st)) (aI 2 rfl) (oW n hb o U gz G hg W0 hp))) (aY hc))
abbrev gsF(bs:List (Str×Int))(g:Cn)(hs:List (List (List Way)))(s:St)(gl:List (Nat×Nat))(s3 s4:Sl):Sg:=[.T (aQ bs g hs),.T (aV s),.O (gl.map aO),s3,s4]
abbrev gsB:Ss:=match hdS (drp 1 f50.body) with|.for _ _ b=>b|_=>.z
abbrev gsI:Ss:=match hdS gsB with|.for _ _ b=>b|_=>.z
theorem aEd(n:Nat)(q0:bs.length<=4)(o:eP bs.length hs)(so:SOk bs.length hs s):∃gl:List (Nat×Nat),(∀p∈gl,p.1<hs.length/\(goneF bs hs s p).isSome=true)/\gl.length<=12/\call pg (n+34) 50 [aQ bs g hs,aV s]=.ok (.lst (gl.map aO),true,false):=by
 obtain⟨h2,h3⟩:=jG o;obtain⟨Z',ef,gl,s3,G,g1,g2,rfl⟩:=dF (t:=.n 3) (λi Z=>∃gl s3 G,(∀p∈gl,p.1<hs.length/\(goneF bs hs s p).isSome=true)/\gl.length<=4*i/\Z=gsF bs g hs s gl s3 G) (cC (aAn (i:=0) rfl) rfl (by omega)) ⟨[],_,_,λ_ z=>absurd z AM,Al _,rfl⟩ λi hi Z ⟨gl,s3,G,g1,g2,B⟩=>by
  have L:i<hs.length:=by simpa using hi
  subst B;obtain⟨I,e2,W,t4,U,q2,rfl⟩:=dF (t:=.n 4) (b:=gsI) (λj Z=>∃gl G,(∀p∈gl,p.1<hs.length/\(goneF bs hs s p).isSome=true)/\gl.length<=4*i+j/\Z=gsF bs g hs s gl (.F (aN i)) G) (cC (aA (.int 4)) rfl (by decide)) ⟨gl,_,g1,g2,rfl⟩ λj hj Z ⟨gl,t4,U,q2,B⟩=>by
   have q3:j<4:=by simpa using hj
   subst B
   let I:=gsF bs g hs s gl (.F (aN i)) (.F (aN j))
   have tp:eV (n+33) I (.tup (.k (.v 3) (.k (.v 4) .z)))=.c (aO (i,j)):=gQ (aD 3 rfl) (aD 4 rfl);have t:=bM (o:=.IsNot) (k:=(goneF bs hs s (i,j)).isSome) (bL (fJ (i:=0) rfl) (aK 1 rfl (eL s)) tp (nV n q0 o so L)) (aA .non) (by cases goneF bs hs s (i,j) <;> rfl);cases q:(goneF bs hs s (i,j)).isSome with
   | true=>rw[q] at t;refine⟨I,gsF bs g hs s (gl++[(i,j)]) (.F (aN i)) (.F (aN j)),?_,bU (oU t (bU (fU tp rfl (by rw[lM];unfold lim;omega) rfl (by rw[A7];rfl)))),_,_,kK U ⟨L,q⟩,by simp;omega,rfl⟩;rw[AC,AN,fB];rfl|false=>rw[q] at t;refine⟨I,I,?_,bU (bQ t),gl,_,U,by omega,rfl⟩;rw[AC,AN,fB];rfl
  refine⟨gsF bs g hs s gl (.F (aN i)) G,_,?_,bU e2,W,_,_,U,by simp at q2;omega,rfl⟩;rw[AC,AN,fB];rfl
 refine⟨gl,g1,by simp at g2;omega,aG (F:=f50) rfl rfl (cs (Z':=gsF bs g hs s [] .x .x) rfl (cs ef (pS rfl)))⟩
abbrev spF(ns:List Int)(bs:List (Str×Int))(g:Cn)(hs:List (List (List Way)))(st:List Int)(at' m:Nat)(s:St)(ps:List (Nat×Nat))(s7 s8 s9 s10:Sl):Sg:=[.T (.lst (ns.map D.int)),.T (aQ bs g hs),.T (aL st),.T (.int at'),.T (.int m),.F (aV s),.O (ps.map aO),s7,s8,s9,s10]
abbrev spB:Ss:=match hdS (drp 2 f51.body) with|.for _ _ b=>b|_=>.z
theorem aBG(n:Nat)(q1:bs.length<=4)(o:eP bs.length hs){ns:List Int}(hn:ns.length<=63)(ha:a<=10)(hi:i<=100){ps:List (Nat×Nat)}{ss:List St}(W0:Wov bs hs (st,bP hs) ps ss)(pl:ps.length<=i)(U G B:Sl) :
 ∃(L:List (Nat×Nat)) (q3:List St) (t8 t9 w3:Sl),Wov bs hs (st,bP hs) L q3/\L.length<=i+1/\exs pg (call pg (n+34)) (spF ns bs g hs st a m (ss.getD ps.length (st,bP hs)) ps (.F (aN i)) U G B) spB=.next (spF ns bs g hs st a m (q3.getD L.length (st,bP hs)) L (.F (aN i)) t8 t9 w3):=by
 let s:=ss.getD ps.length (st,bP hs)
 have so:SOk bs.length hs s:=W0.ok _;obtain⟨gl,g1,g2,g3⟩:=aEd n q1 o so
 let I:St->List (Nat×Nat)->Sl->Sl->Sl->Sg:=λs ps U G B=>spF ns bs g hs st a m s ps (.F (aN i)) U G B
 have v5:∀{s ps U G B},eV (n+34) (I s ps U G B) (.v 5)=.c (aV s):=aD 5 rfl;have v0:∀{s ps U G B},eV (n+34) (I s ps U G B) (.v 0)=.ok ⟨.lst (ns.map D.int),false,true,[]⟩:=aI 0 rfl;have v7:∀{s ps U G B},eV (n+34) (I s ps U G B) (.v 7)=.c (aN i):=aD 7 rfl;have v8:∀{s ps G B},eV (n+34) (I s ps (.O (gl.map aO)) G B) (.v 8)=.ok ⟨.lst (gl.map aO),false,false,[8]⟩:=bD 8 rfl;cases hg:gl with
 | nil=>exact⟨ps,ss,_,_,_,W0,by omega,cs (bI (cG (fJ rfl) v5 g3)) (bU (bQ (bM v8 rfl (by rw[hg];rfl))))⟩|cons p0 gr=>
  have q7:1<=gl.length:=by rw[hg];simp
  have t1:eT (n+34) (I s ps (.O (gl.map aO)) G B) (.cmp .NotEq (.v 8) (.lst .z))=.ok true:=bM v8 rfl (by
   have e:eqD (.lst (gl.map aO)) (.lst [])=some false:=by show(if (gl.map aO).length=([]:List D).length then _ else some false)=_;rw[if_neg (by rw[lM,lN];omega)]
   show(eqD (.lst (gl.map aO)) (.lst [])).map (!·)=_;rw[e];rfl)
  have q4:opD .Mult (.cl (.int 11)) (.cl (.int (i:Int)))=.c (.int (11*i)):=mul_int (by
   unfold iI;rw[Ao (by omega)];rfl)
  have W:∀G,eV (n+34) (I s ps (.O (gl.map aO)) G B) (.bi .len (.k (.v 0) .z))=.c (.int ns.length):=λG=>by have:=dJ (@v0 s ps (.O (gl.map aO)) G B) rfl;rwa [lM] at this
  have ai:∀G,eV (n+34) (I s ps (.O (gl.map aO)) G B) (.op .Add (.v 3) (.v 7))=.c (.int ((a+i:Nat):Int)):=λG=>by have:=dC (aK (Z:=I s ps (.O (gl.map aO)) G B) 3 rfl rfl) v7;rw[show(a:Int)+(i:Int)=((a+i:Nat):Int) by omega] at this;exact this
  have m2:∃x:Int,eX (n+34) (I s ps (.O (gl.map aO)) (.F (.int (11*(i:Int)+ns.length))) B) (.iff (.cmp .Lt (.op .Add (.v 3) (.v 7)) (.bi .len (.k (.v 0) .z))) (.k (.set (.n 9) (.idx (.v 0) (.op .Add (.v 3) (.v 7)))) .z) .z)=.next (I s ps (.O (gl.map aO)) (.F (.int x)) B):=by have t:=bM (o:=.Lt) (ai (.F (.int (11*(i:Int)+ns.length)))) (W _) rfl;by_cases q6:a+i<ns.length;rw[Ao (by omega)] at t;exact⟨ns.getD (a+i) 0,oU t (bU (aR (eY v0 rfl (ai _) q6)))⟩;rw[Az (by omega)] at t;exact⟨_,bQ t⟩
  obtain⟨x,m2⟩:=m2;obtain⟨p,hp,q5⟩:=mJ (@v8 s ps (.F (.int x)) B) rfl (eY (k:=0) (cG (aD 9 rfl) (aA (.int 1)) (gD (f:=43) rfl (n+33) x (by decide))) rfl (aA _) (by rw[iN];decide)) q7 (λ_=>rfl);obtain⟨q2,q8⟩:=g1 p hp;obtain⟨s',es⟩:=Ce.mp q8;have q0:=nV (g:=g) (n+1) q1 o so q2;rw[es] at q0;have q9:(ss++[s']).getD (ps++[p]).length (st,bP hs)=s':=by rw[show(ps++[p]).length=ss.length by rw[lA,W0.len];rfl];exact iS _ _ _
  refine⟨ps++[p],ss++[s'],.O (gl.map aO),.F (.int x),.F (aO p),W0.snoc o q2 es,by rw[lA,C5];omega,?_⟩;rw[q9];exact cs (bI (cG (fJ rfl) v5 g3)) (bU (oU t1 (cs (aR (dC (dG (aA (.int 11)) v7 q4) (W _))) (cs m2 (cs (aR q5) (cs (fU (aD 10 rfl) rfl (by rw[lM];unfold lim;omega) rfl (by rw[A7];rfl)) (bU (aR (bL (fJ rfl) v5 (aD 10 rfl) q0)))))))))
theorem vH(n:Nat)(hb:bs∈boxSet)(o:eP bs.length hs){ns:List Int}(hn:ns.length<=63){st:List Int}(L:st∈standsL bs){a m:Nat}(ha:a<=10)(hm:m<=100):∃(ps:List (Nat×Nat)) (ss:List St),Wov bs hs (st,bP hs) ps ss/\ps.length<=m/\call pg (n+35) 51 [.lst (ns.map D.int),aQ bs g hs,aL st,.int a,.int m]=.ok (.lst (ps.map aO),true,false):=by
 obtain⟨l3,l4⟩:=dH hb;obtain⟨h2,h3⟩:=jG o;obtain⟨Z',ef,ps,ss,s7,G,I,B,W0,pl,rfl⟩:=dF (t:=.n 7) (λi Z=>∃ps ss s7 G I B,Wov bs hs (st,bP hs) ps ss/\ps.length<=i/\Z=spF ns bs g hs st a m (ss.getD ps.length (st,bP hs)) ps s7 G I B) (cC (aK 4 rfl rfl) rfl (by omega)) ⟨[],[(st,bP hs)],_,_,_,_,Wov.nil (aIZ o (iQ L).1),Al _,rfl⟩ λi hi Z ⟨ps,ss,s7,G,I,B,W0,pl,U⟩=>by
  have q2:i<m:=by simpa using hi
  subst U;obtain⟨q0,q1,t8,t9,q3,W',W,e⟩:=aBG n l4 o hn ha (by omega) W0 pl G I B;refine⟨spF ns bs g hs st a m (ss.getD ps.length (st,bP hs)) ps (.F (aN i)) G I B,_,?_,e,q0,q1,_,_,_,_,W',W,rfl⟩;rw[AC,AN,fB];rfl
 exact⟨ps,ss,W0,by simpa using pl,aG rfl rfl (v:=⟨.lst (ps.map aO),true,false,[]⟩) (cs (aR (gQ (aK 2 rfl (aM st)) (aAp h3 rfl))) (cs rfl (cs ef (pS rfl))))⟩
inductive Px where
 | s (x:Sm)|c (x:Cn)
def Px.d:Px->D
 | .s x=>x.d|.c x=>x.d
def Px.sz:Px->Nat
 | .s x=>x.sz|.c x=>x.sz
def Px.word:Px->Str
 | .s (.num _) => "number"|.s (.box _) => "box"|.s (.aft _) => "after"|.s (.two p _ _)=>aDU p|.c .yes => "yes"|.c (.cmp i _ _)=>xK i|.c (.nt _) => "not"|.c (.two p _ _)=>sL p
def Px.items:Px->List (Int ⊕ Px)
 | .s (.num k)=>[.inl k]
 | .s (.box k)=>[.inl k]
 | .s (.aft k)=>[.inl k]
 | .s (.two _ a b)=>[.inr (.s a),.inr (.s b)]
 | .c .yes=>[]
 | .c (.cmp _ a b)=>[.inr (.s a),.inr (.s b)]
 | .c (.nt x)=>[.inr (.c x)]
 | .c (.two _ a b)=>[.inr (.c a),.inr (.c b)]
def itD:Int ⊕ Px->D
 | .inl k=>.int k|.inr p=>p.d
theorem Px.noL:∀p:Px,Hp.noL p.d=true
 | .s x=>x.noL|.c x=>x.noL
theorem aMr:∀t,noL (itD t)=true
 | .inl _=>rfl|.inr p=>p.noL
theorem Px.d_eq:∀p:Px,p.d=.tup (.str p.word::p.items.map itD)
 | .s (.num _)=>rfl|.s (.box _)=>rfl|.s (.aft _)=>rfl|.s (.two _ _ _)=>rfl|.c .yes=>rfl|.c (.cmp _ _ _)=>rfl|.c (.nt _)=>rfl|.c (.two _ _ _)=>rfl
theorem aGR:∀(p q:Px),BP q∈p.items->q.sz+1<=p.sz:=λp q h=>by
 cases p with
 | s x=>cases x with
  | two t a b=>simp only[bT,Px.items,As,Fl,AM,El] at h;rcases h with rfl|rfl <;> simp only[ Px.sz,Sm.sz] <;> omega
  | num _=>simp[Px.items] at h|box _=>simp[Px.items] at h|aft _=>simp[Px.items] at h
 | c x=>cases x with
  | yes=>simp[Px.items] at h|cmp t a b=>simp only[bT,Px.items,As,Fl,AM,El] at h;rcases h with rfl|rfl <;> simp only[ Px.sz,Cn.sz] <;> omega
  | nt y=>simp only[bT,Px.items,As,Fl,AM,El] at h;subst h;simp only[ Px.sz,Cn.sz];omega|two t a b=>simp only[bT,Px.items,As,Fl,AM,El] at h;rcases h with rfl|rfl <;> simp only[ Px.sz,Cn.sz] <;> omega
theorem Px.pos:∀p:Px,1<=p.sz
 | .s x=>x.sz_pos|.c x=>x.sz_pos
def rdS:Sm->List Nat
 | .box k=>[k]
 | .two _ a b=>rdS a++rdS b|_=>[]
def rdC:Cn->List Nat
 | .yes=>[]
 | .cmp _ a b=>rdS a++rdS b|.nt c=>rdC c|.two _ a b=>rdC a++rdC b
def Px.rd:Px->List Nat
 | .s x=>rdS x|.c x=>rdC x
def Px.bx:Px->Option Nat
 | .s (.box k)=>some k|_=>none
theorem aOZ:∀i,(xK i == "box")=false:=by decide +kernel
theorem aPa:∀i,(sL i == "box")=false:=by decide +kernel
theorem aJa:∀p:Px,(p.word == "box")=p.bx.isSome
 | .s (.num _)=>by show(("number" : Str) == "box")=false;decide +kernel|.s (.box _)=>by show(("box" : Str) == "box")=true;decide +kernel|.s (.aft _)=>by show(("after" : Str) == "box")=false;decide +kernel|.s (.two p _ _)=>aOR p|.c .yes=>by show(("yes" : Str) == "box")=false;decide +kernel|.c (.cmp i _ _)=>aOZ i|.c (.nt _)=>by show(("not" : Str) == "box")=false;decide +kernel|.c (.two p _ _)=>aPa p
theorem aJb{p:Px}(h:p.bx=some k):p=.s (.box k):=by
 cases p with
 | s x=>cases x <;> cases h;rfl|c x=>cases h
def prS:Sm->List Px
 | .two p a b=>.s (.two p a b)::(prS a++prS b)|x=>[.s x]
def prC:Cn->List Px
 | .yes=>[.c .yes]
 | .cmp i a b=>.c (.cmp i a b)::(prS a++prS b)|.nt x=>.c (.nt x)::prC x|.two p a b=>.c (.two p a b)::(prC a++prC b)
def Px.pr:Px->List Px
 | .s x=>prS x|.c x=>prC x
def prT:Int ⊕ Px->List Px
 | .inl _=>[]
 | .inr p=>p.pr
theorem aGS(p:Px):p.pr=p::(p.items.map prT).flatten:=by
 cases p with
 | s x=>cases x with|box k=>rfl|num _=>rfl|aft _=>rfl|two _ a b=>simp[Px.pr,Px.items,prT,prS]
 | c x=>cases x with|yes=>rfl|cmp _ a b=>simp[Px.pr,Px.items,prT,prC]|nt y=>simp[Px.pr,Px.items,prT,prC]|two _ a b=>simp[Px.pr,Px.items,prT,prC]
theorem sU:∀x:Sm,(prS x).filterMap Px.bx=rdS x
 | .num _=>rfl|.box _=>rfl|.aft _=>rfl|.two p a b=>by show(EM Px.bx (.s (.two p a b)::(prS a++prS b)))=_;rw[Cf rfl,Dq,sU a,sU b];rfl
theorem xT:∀x:Cn,(prC x).filterMap Px.bx=rdC x
 | .yes=>rfl|.cmp i a b=>by show(EM Px.bx (.c (.cmp i a b)::(prS a++prS b)))=_;rw[Cf rfl,Dq,sU a,sU b];rfl|.nt x=>by show(EM Px.bx (.c (.nt x)::prC x))=_;rw[Cf rfl,xT x];rfl|.two p a b=>by show(EM Px.bx (.c (.two p a b)::(prC a++prC b)))=_;rw[Cf rfl,Dq,xT a,xT b];rfl
theorem aPb:∀p:Px,p.pr.filterMap Px.bx=p.rd
 | .s x=>sU x|.c x=>xT x
theorem nW:∀x:Sm,(prS x).length=x.sz
 | .num _=>rfl|.box _=>rfl|.aft _=>rfl|.two p a b=>by show(prS a++prS b).length+1=1+a.sz+b.sz;rw[lA,nW a,nW b];omega
theorem qK:∀x:Cn,(prC x).length=x.sz
 | .yes=>rfl|.cmp i a b=>by show(prS a++prS b).length+1=1+a.sz+b.sz;rw[lA,nW a,nW b];omega|.nt x=>by show(prC x).length+1=1+x.sz;rw[qK x];omega|.two p a b=>by show(prC a++prC b).length+1=1+a.sz+b.sz;rw[lA,qK a,qK b];omega
theorem aGT:∀p:Px,p.pr.length=p.sz
 | .s x=>nW x|.c x=>qK x
theorem sV:∀x:Sm,x.wf m true->∀k∈rdS x,k<m
 | .num _,_,_,h=>by cases h|.box j,w,k,h=>by rw[Av.mp h];exact w|.aft _,_,_,h=>by cases h|.two _ a b,w,k,h=>by rcases B8.mp h with z|z;exact sV a w.1 k z;exact sV b w.2 k z
theorem xU:∀x:Cn,x.wf m true->∀k∈rdC x,k<m
 | .yes,_,_,h=>by cases h|.cmp _ a b,w,k,h=>by rcases B8.mp h with z|z;exact sV a w.1 k z;exact sV b w.2 k z
 | .nt x,w,k,h=>xU x w k h|.two _ a b,w,k,h=>by rcases B8.mp h with z|z;exact xU a w.1 k z;exact xU b w.2 k z
theorem aBH{p:Px}(h:Z[i]? = some (.T p.d)):walk P W Z (.seq (.sli (.v i) (.k (.i 1) .z) .z))=.ok (p.items.map (λt=>Vl.cl (itD t)),[]):=by
 have B:noLs (.str p.word::p.items.map itD)=true:=by have:=p.noL;rw[p.d_eq] at this;exact this
 have v:ev P W Z (.v i)=.c (.tup (.str p.word::p.items.map itD)):=by rw[<-p.d_eq];exact aK i h p.noL
 have e:ev P W Z (.sli (.v i) (.k (.i 1) .z) .z)=.c (.tup (p.items.map itD)):=by have G:evs P W Z (.k (.i 1) .z)=.ok [.cl (.int ((1:Nat):Int))]:=rfl;show(ev P W Z (.v i) >>= λx=>evs P W Z (.k (.i 1) .z) >>= λl=>evs P W Z .z >>= λh=>_)=_;rw[v,dE];show R.iff (aT ((1:Nat):Int)) (fA (.cl (.tup (.str p.word::p.items.map itD))) (some ((1:Nat):Int)) none)=_;rw[ aMo B,aBE];rfl
 rw[bZ,e];show R.ok (items _ (p.items.map itD),[])=_;rw[cD aMr]
theorem aEe:∀p:Px,p.items.length<=2
 | .s (.num _)=>by simp[Px.items]|.s (.box _)=>by simp[Px.items]|.s (.aft _)=>by simp[Px.items]|.s (.two _ _ _)=>by simp[Px.items]|.c .yes=>by simp[Px.items]|.c (.cmp _ _ _)=>by simp[Px.items]|.c (.nt _)=>by simp[Px.items]|.c (.two _ _ _)=>by simp[Px.items]
theorem oY{α B:Type}(f:α->List B)(l:List α){i:Nat}(h:i<l.length):((l.take (i+1)).map f).flatten=((l.take i).map f).flatten++f l[i]:=by rw[EG,Ae h,A7];simp
theorem xH{p:Px}{α:Type}(f:Int ⊕ Px->List α)(B:∀t∈p.items,(f t).length<=100):∀i,((p.items.take i).map f).flatten.length<=200:=λi=>by
 have h2:=aEe p;have:∀l:List (Int ⊕ Px),(∀t∈l,(f t).length<=100)->(l.map f).flatten.length<=100*l.length:=λl=>by
  induction l with
  | nil=>intro _;exact Al _|cons t l I=>intro h;rw[mC,BR,lA,lC];have:=I λx hx=>h x (Aj _ hx);have:=h t Ar;omega
 have h1:=this (p.items.take i) λt G=>B t (D1 G);have:(p.items.take i).length<=2:=by rw[A8];omega
 omega
theorem aGU{ds ds' r:List D}(h:ev P W Z e=.ok ⟨.lst ds',true,false,[]⟩)(n:noLs ds'=true)(hi:Z[i]? = some (.O ds))(G:r.length<=lim)(B:r=ds++ds'):ex P W Z (.ext i e)=.next (Z.set i (.O r)):=by
 subst B;have s:yO (⟨.lst ds',true,false,[]⟩:Vl)=some (.cl .non,ds'):=by show some (Vl.mk .non false (false&&!noLs ds') (if noLs ds'=true then [] else []),ds')=_;rw[n];rfl
 rw[aGm,h,bT,dD,s];show put Z i (.cl .non) (λds=>some (ds++ds'))=_;unfold put jS;rw[aAf,jD,hi];show(if (ds++ds').length<=lim then O.next _ else .bad)=_;rw[if_pos G];rfl
theorem aMs{k:Nat}{caps al:List Nat}{T:T}{it:It}{c elt:E}{α:Type}{ts:List α}(f:α->Vl)(g:α->D)(p:α->Bool)(ng:∀t,noL (g t)=true)(hw:walk P W Z it=.ok (ts.map f,al))(U:ts.length<=lim)
 (hb:∀t∈ts,∃B,cR (Af k .x++caps.map λi=>((freeze Z al)[i]?).getD .x) (f t) T=.ok B/\tst P W B c=.ok (p t)/\(p t=true->ev P W B elt=.ok (.cl (g t)))):ev P W Z (.comp k caps T it (.k c .z) elt)=.ok ⟨.lst ((ts.filter p).map g),true,false,[]⟩:=by
 rw[kY,hw,aH,kH (p:=p) λt ht=>by
  obtain⟨B,G,I,L⟩:=hb t ht;rw[G];show((tsts P W B (.k c .z)).calm >>= λk=>if k then (ev P W B elt >>= λy=>R.ok (some y)) else R.ok none)=_;rw[uY,I,aH];cases hp:p t with
  | true=>rw[if_pos rfl,aAa,bT,aH,if_pos rfl,L hp];rfl|false=>rfl]
 show R.iff (decide ((ts.map f).length<=lim)) (R.ok (dW k caps al ((ts.filter p).map λt=>Vl.cl (g t))))=_;rw[(Ao (by rw[lM];exact U)),nE,xJ ng]
theorem vI:∀(N:Nat) (p:Px),p.sz<=N->p.sz<=50->∀n,call pg (n+N) 11 [p.d]=.ok (.lst (p.pr.map Px.d),true,false)
 | 0,p,h,_,_=>absurd h (by have:=p.pos;omega)|N+1,p,h,h50,n=>by
  let B:Nat->Sl->Sg:=λi s2=>[.T p.d,.O ((p::((p.items.take i).map prT).flatten).map Px.d),s2]
  obtain⟨Z',W,s2,rfl⟩:=dF (t:=.n 2) (b:=match hdS (drp 1 f11.body) with|.for _ _ b=>b|_=>.z) (λi Z=>∃s2,Z=B i s2) (aBH (i:=0) rfl) ⟨_,rfl⟩ λi hi Z ⟨s2,U⟩=>by
   have G:i<p.items.length:=by simpa using hi
   subst U;have w2:eV (n+N) (B i (.F (itD p.items[i]))) (.v 2)=.c (itD p.items[i]):=aD 2 rfl;have hm:=AI G;cases I:p.items[i] with
   | inl k=>
    rw[I] at w2;refine⟨B i (.F (itD p.items[i])),B (i+1) (.F (itD p.items[i])),?_,?_,_,rfl⟩;rw[AC,fB];rfl;have:B (i+1) (.F (itD p.items[i]))=B i (.F (itD p.items[i])):=by
     show [_,_,_]=[_,_,_]
     rw[oY prT p.items G,I];simp[prT]
    rw[this,I];exact bU (bQ (fV w2 rfl))
   | inr q=>
    rw[I] at w2 hm;have qs:=aGR p q hm;have fl:=xH prT (λt ht=>by
     cases t with
     | inl _=>exact B7 _|inr q=>have:=aGT q;have:=aGR p q ht;show q.pr.length<=100;omega) (i+1)
    refine⟨B i (.F (itD p.items[i])),B (i+1) (.F (itD p.items[i])),?_,?_,_,rfl⟩;rw[AC,fB];rfl;rw[I];exact bU (oU (fV w2 (by show isI [.tTuple] pg q.d=some true;rw[q.d_eq];rfl)) (bU (aGU (cW w2 (vI N q (by omega) (by omega) n)) (bW Px.noL _) rfl (by
     rw[lM,lC];unfold lim;omega) (by rw[oY prT p.items G,I,<-A7];rfl))))
  have L:p::((p.items.take (p.items.map λt=>Vl.cl (itD t)).length).map prT).flatten=p.pr:=by rw[lM,BZ,<-aGS]
  refine aG rfl rfl (v:=⟨.lst (p.pr.map Px.d),true,false,[]⟩) (cs (bI (cH (aC (aK 0 rfl p.noL) aU))) (cs W (pS ?_)));show O.ret ⟨.lst ((p::((p.items.take (p.items.map λt=>Vl.cl (itD t)).length).map prT).flatten).map Px.d),true,false,[]⟩=_;rw[L]
abbrev fC(ks:List Nat):D:=.lst (ks.map aN)
theorem vJ:∀{B:List Nat},(∀k∈B,k<4)->tN (B.map aN)=some B
 | [],_=>rfl|k::B,h=>by have h1:=h k Ar;show(if 0<=(k:Int)/\(k:Int)<=3 then (match tN (B.map aN) with|some r=>some ((k:Int).toNat::r)|none=>none) else none)=_;rw[if_pos (by omega),(vJ λj G=>h j (Aj _ G)),BH]
theorem aCS(k:Nat)(h:k∈gJ ks):k<4:=B5.mp (BK.mp h).1
theorem sW(B:List Nat):(gJ B).length<=4:=AJ (DW _ _) (by decide)
theorem aGV{v:Vl}(h:ev P W Z a=.ok v)(I:v.d=fC B)(G:∀k∈B,k<4):ev P W Z (.sset a)=.ok ⟨fC (gJ B),true,false,[]⟩:=by show((ev P W Z a).calm >>= λx=>_)=_;rw[h,bT,aH];rw[I];show(match tN (B.map aN) with|some ns=>R.ok (⟨.lst ((gJ ns).map λ(k:Nat)=>.int (k:Int)),true,false,[]⟩:Vl)|none=>.bad)=_;rw[vJ G]
def Px.wf(m:Nat):Px->Prop
 | .s x=>x.wf m true|.c x=>x.wf m true
theorem Px.rd_lt:∀{p:Px},p.wf m->∀k∈p.rd,k<m
 | .s x,w=>sV x w|.c x,w=>xU x w
theorem aAq{α G:Type}(f:α->Option G)(d:G):∀l:List α,((l.filter λa=>(f a).isSome).map λa=>(f a).getD d)=l.filterMap f
 | []=>rfl|a::l=>by
  have B:=aAq f d l;cases h:f a with
  | none=>rw[Cf h,<-B,Fw (by rw[h];exact bN)]|some b=>rw[Fi h,<-B,Fv (by rw[h];rfl),mC,h];rfl
theorem vK(n:Nat){p:Px}(w:p.wf m)(hm:m<=4)(L:p.sz<=N)(B:p.sz<=50):call pg (n+N+1) 10 [p.d]=.ok (fC (gJ p.rd),true,false):=by
 have U:walk pg (cP (n+N)) [.T p.d] (.seq (.call 11 (.k (.v 0) .z)))=.ok (p.pr.map (λq=>Vl.cl q.d),[]):=by rw[bZ,cW (aK 0 rfl p.noL) (vI N p L B n),aH];show R.ok (items _ (p.pr.map Px.d),[])=_;rw[cD Px.noL]
 have I:eV (n+N) [.T p.d] (.comp 1 [] (.n 0) (.seq (.call 11 (.k (.v 0) .z))) (.k (.cmp .Eq (.idx (.v 0) (.i 0)) (.c (.str "box"))) .z) (.idx (.v 0) (.i 1)))=.ok ⟨.lst ((p.pr.filter λq=>q.bx.isSome).map λq=>aN (q.bx.getD 0)),true,false,[]⟩:=by
  refine aMs (ts:=p.pr) (λq=>Vl.cl q.d) (λq=>aN (q.bx.getD 0)) (λq=>q.bx.isSome) (λ_=>rfl) U (by rw[aGT];unfold lim;omega) λq _=>⟨[.F q.d],fB _,?_,λh=>?_⟩
  refine cK (aZ (aD 0 rfl) (aA _) ?_) (aJa q);rw[q.d_eq];exact fY _ _ rfl;obtain⟨k,G⟩:=Ce.mp h;have e:=aJb G;subst e;exact aZ (aD 0 rfl) (aA (.int 1)) (gO _ _ _ rfl)
 have e:((p.pr.filter λq=>q.bx.isSome).map λq=>aN (q.bx.getD 0))=p.rd.map aN:=by rw[<-aPb,<-aAq Px.bx 0,A4];rfl
 rw[e] at I;exact aG (F:=f10) rfl rfl (aY (aGV I rfl λk G=>A1 (Px.rd_lt w k G) hm))
def Way.wr(w:Way):List Nat:=w.ps.map (·.1)
def Way.rds(w:Way):List Nat:=gJ (gJ (rdC w.g)++(w.ps.map λp=>gJ (rdS p.2)).flatten)
theorem aGW{α:Type}{f:α->List Nat}{l:List α}{k:Nat}:k∈(l.map f).flatten↔∃a∈l,k∈f a:=by rw[List.mem_flatten];constructor;rintro ⟨r,I,G⟩;obtain⟨a,B,rfl⟩:=A0.mp I;exact⟨a,B,G⟩;rintro ⟨a,B,G⟩;exact⟨_,A0.mpr ⟨a,B,rfl⟩,G⟩
variable {m:Nat}
theorem aPc(hm:m<=4){w:Way}(o:eU m w):∀k∈gJ (rdC w.g)++(w.ps.map λp=>gJ (rdS p.2)).flatten,k<4:=λk B=>by rcases B8.mp B with z|z;exact aCS k z;obtain⟨p,_,hp⟩:=aGW.mp z;exact aCS k hp
theorem aGX:∀{ps:List (Nat×Sm)} {a:Nat},Up ps->(∀p∈ps,a<=p.1/\p.1<m)->a<=m->ps.length+a<=m
 | [],a,_,_,h=>by simpa using h|p::ps,a,u,h,_=>by have hp:=h p Ar;have G:=C0.mp u;have:=aGX G.2 (λq B=>⟨G.1 q B,(h q (Aj _ B)).2⟩) hp.2;rw[lC];omega
theorem xV{w:Way}(o:eU m w):w.ps.length<=m:=by have:=aGX o.up (λp hp=>⟨B7 _,(o.ps p hp).box⟩) (B7 _);omega
theorem aAr{α:Type}{f:α->List Nat}{b:Nat}:∀{l:List α},(∀a∈l,(f a).length<=b)->(l.map f).flatten.length<=b*l.length
 | [],_=>Al _|a::l,h=>by have:=aAr λx hx=>h x (Aj _ hx);have:=h a Ar;rw[mC,BR,lA,lC,Nat.mul_add];omega
section
variable {P:Pg} {W:Caller} {Z:Sg} {w:Way}
theorem w_g(h:ev P W Z e=.ok (.cl w.d)):ev P W Z (.idx e (.i 0))=.ok (.cl w.g.d):=aZ h (aA _) (fY _ _ w.g.noL)
theorem aPd(h:ev P W Z e=.ok (.cl w.d)):walk P W Z (.seq (.idx e (.i 1)))=.ok (w.ps.map (λp=>Vl.cl (fH p)),[]):=by rw[bZ,aZ h (aA _) (gO _ _ _ (gE w.ps)),aH];show R.ok (items _ (w.ps.map fH),[])=_;rw[mI]
theorem aRi(h:ev P W Z e=.ok (.cl w.d))(hm:m<=4)(o:eU m w):ev P W Z (.comp 2 [] (.t [0,1]) (.seq (.idx e (.i 1))) .z (.v 0))=.ok ⟨fC w.wr,true,false,[]⟩:=by
 have:=fG (k:=2) (caps:=[]) (T:=.t [0,1]) (λp=>Vl.cl (fH p)) (λp=>aN p.1) (λ_=>rfl) (aPd h) (by have:=xV o;unfold lim;omega) λp _=>⟨[.F (aN p.1),.F p.2.d],nN _ rfl p.2.noL,aD 0 rfl⟩
 rw[this];unfold Way.wr;rw[fC,A4];rfl
end
theorem aBI(n:Nat)(hm:m<=4){w:Way}(o:eU m w):call pg (n+1) 13 [w.d]=.ok (fC w.wr,true,false):=
 aG (F:=f13) rfl rfl (aY (aRi (aK 0 rfl (eW w)) hm o))
theorem aEf(n:Nat)(hm:m<=4){w:Way}(o:eU m w):call pg (n+33) 12 [w.d]=.ok (fC w.rds,true,false):=by
 let I:Nat->Sl->Sl->Sg:=λi s2 G=>[.T w.d,.O ((gJ (rdC w.g)++((w.ps.take i).map λp=>gJ (rdS p.2)).flatten).map aN),s2,G]
 have pl:=xV o;have W:eV (n+32) [.T w.d,.x,.x,.x] (.v 0)=.c w.d:=aK 0 rfl (eW w);have k1:eX (n+32) [.T w.d,.x,.x,.x] (hB 0 f12)=.next (I 0 .x .x):=by have:=bI (i:=1) (cW (w_g W) (vK n (p:=.c w.g) o.g hm o.gs (AJ o.gs (by decide))));refine this.trans ?_;show O.next [_,_,_,_]=O.next [_,_,_,_];rw[List.take_zero,mN,List.flatten_nil,C9];rfl
 obtain⟨Z',U,s2,G,rfl⟩:=dF (P:=pg) (t:=.t [2,3]) (b:=match hdS (drp 1 f12.body) with|.for _ _ b=>b|_=>.z) (λi Z=>∃s2 G,Z=I i s2 G) (aPd (aK 0 rfl (eW w))) ⟨_,_,rfl⟩ λi hi Z ⟨s2,G,L⟩=>by
  have B:i<w.ps.length:=by simpa using hi
  subst L;have op:=o.ps _ (AI B);have ff:=aAr (f:=λp:Nat×Sm=>gJ (rdS p.2)) (l:=w.ps.take (i+1)) λ_ _=>sW _;have:=sW (rdC w.g);have tl:(w.ps.take (i+1)).length<=4:=by rw[A8];omega
  refine⟨I i (.F (aN w.ps[i].1)) (.F w.ps[i].2.d),I (i+1) (.F (aN w.ps[i].1)) (.F w.ps[i].2.d),?_,bU (aGU (cW (aD 3 rfl) (vK (n+28) (p:=.s w.ps[i].2) op.wf hm op.sz (AJ op.sz (by decide)))) (bW gA _) rfl (by
   rw[lM,lA];unfold lim;omega) (by rw[oY (λp:Nat×Sm=>gJ (rdS p.2)) w.ps B,<-A7,BG];rfl)),_,_,rfl⟩
  rw[AC];exact nN _ rfl w.ps[i].2.noL
 refine aG (F:=f12) rfl rfl (cs k1 (cs U (aY (aGV (bD 1 rfl) ?_ (aPc hm o)))));rw[lM,BZ]
def sX(hs:List (List (List Way)))(h p j:Nat)(w:Way):Prop:=∃hd ws,hs[h]? = some hd/\hd[p]? = some ws/\ws[j]? = some w
theorem sX.ok(a:sX hs h p j w)(o:eP m hs):eU m w:=by obtain⟨hd,ws,h1,h2,B⟩:=a;exact(((o.ok hd (mG h1)).ok ws (mG h2)).ok w (mG B)).1
abbrev tkD(h p j:Nat):D:=.tup [aN h,aN p,aN j]
def gV(h:Nat)(w:Way):D:=.tup [aN h,fC w.wr,fC (w.rds++w.wr)]
theorem aPe(a:ev P W Z e=.ok (.cl (tkD h p j))):ev P W Z (.idx e (.i 0))=.ok (.cl (aN h)):=aZ a (aA _) (fY _ _ rfl)
theorem aRj(a:ev P W Z e=.ok (.cl (tkD h p j))):ev P W Z (.idx e (.i 1))=.ok (.cl (aN p)):=aZ a (aA _) (gO _ _ _ rfl)
theorem aRk(a:ev P W Z e=.ok (.cl (tkD h p j))):ev P W Z (.idx e (.i 2))=.ok (.cl (aN j)):=aZ a (aA _) (aOV _ _ _ rfl)
theorem oZ(n:Nat)(B:bs.length<=4)(o:eP bs.length hs)(a:sX hs h p j w):call pg (n+34) 40 [aQ bs g hs,tkD h p j]=.ok (gV h w,false,false):=by
 have L:=a.ok o;obtain⟨hd,ws,h1,h2,h3⟩:=a;have pl:=xV L
 let G:Sl->Sg:=λs=>[.T (aQ bs g hs),.T (tkD h p j),s]
 have I:∀{s},eV (n+33) (G s) (.v 1)=.c (tkD h p j):=aK 1 rfl rfl;have k1:eX (n+33) (G .x) (hB 0 f40)=.next (G (.F w.d)):=aR (aZ (sM (aZ (aGO rfl) (aPe I) (sQ h1)) (aRj I) (mK (n+32) hd h2) rfl rfl) (aRk I) (by
  rw[nO rfl h3];exact congrArg R.ok (cS (eW w))))
 have W:eV (n+33) (G (.F w.d)) (.v 2)=.c w.d:=aD 2 rfl;have U:=cW W (aBI (n+32) B L);have cr:=dG (cW W (aEf n B L)) U (tQ rfl rfl (bW gA _) (bW gA _) (by
  have:=sW (gJ (rdC w.g)++(w.ps.map λp=>gJ (rdS p.2)).flatten);rw[lM,lM];unfold Way.rds Way.wr lim;rw[lM];omega))
 have e:evs pg (cP (n+33)) (G (.F w.d)) (.k (.idx (.v 1) (.i 0)) (.k (.call 13 (.k (.v 2) .z)) (.k (.op .Add (.call 12 (.k (.v 2) .z)) (.call 13 (.k (.v 2) .z))) .z)))=.ok [.cl (aN h),⟨fC w.wr,true,false,[]⟩,⟨.lst (w.rds.map aN++w.wr.map aN),true,false,[]⟩]:=by rw[aF,aPe I,aF,U,aF,cr];rfl
 refine aG (F:=f40) rfl rfl (v:=.cl (gV h w)) (cs k1 (aY ?_));rw[wZ,e,<-A7];rfl
theorem aGY(a b:Nat):((a:Int)==(b:Int))=(a==b):=by by_cases h:a=b;subst h;simp;rw[beq_eq_false_iff_ne.mpr h,beq_eq_false_iff_ne.mpr (by omega)]
theorem aAs(k:Nat):∀B:List Nat,mQ (aN k) (B.map aN)=some (decide (k∈B))
 | []=>rfl|a::B=>by
  show(match eqD (aN a) (aN k),mQ (aN k) (B.map aN) with|some a,some b=>some (a||b)|_,_=>none)=_;rw[(aAs k B),aCG,aGY];by_cases h:a=k;subst h;simp
  . rw[beq_eq_false_iff_ne.mpr h];show some (false||decide (k∈B))=_;rw[Bool.false_or]
    congr 1
    simp only[bT,As,show ¬ k=a from λe=>h e.symm,false_or]
theorem aCT:∀B:List Nat,noDics (B.map aN)=true
 | []=>rfl|k::B=>aCT B
theorem aJc(k:Nat)(B:List Nat):cZ .In (aN k) (fC B)=some (decide (k∈B)):=by show(if noDics (B.map aN)=true then mQ (aN k) (B.map aN) else none)=_;rw[if_pos (aCT B),aAs]
theorem pA{α:Type}(f:α->Bool):∀l:List α,cE (l.map λa=>D.bl (f a))=some (l.map f)
 | []=>rfl|a::l=>by show(match cE (l.map λa=>D.bl (f a)) with|some bs=>some (f a::bs)|none=>none)=_;rw[pA f l];rfl
theorem aAt(n:Nat){as cs:List Nat}(G:as.length<=100):call pg (n+1) 42 [fC as,fC cs]=.ok (.bl (as.any λk=>decide (k∈cs)),false,false):=by
 have B:eV n [.T (fC as),.T (fC cs)] (.comp 1 [1] (.n 0) (.seq (.v 0)) .z (.cmp .In (.v 0) (.v 1)))=.ok ⟨.lst (as.map λk=>D.bl (decide (k∈cs))),true,false,[]⟩:=by
  refine fG (al:=[]) (λk=>Vl.cl (aN k)) (λk=>D.bl (decide (k∈cs))) (λ_=>rfl) ?_ (by unfold lim;omega) λk _=>⟨[.F (aN k),.T (fC cs)],fB _,sJ (aD 0 rfl) (aI 1 rfl) (aJc k cs)⟩
  rw[bZ,aI 0 rfl,aH];show R.ok (items _ (as.map aN),[])=_;rw[cD gA]
 refine aG (F:=f42) rfl rfl (v:=.cl (.bl (as.any λk=>decide (k∈cs)))) (aY (dI B ?_));show(match cE (as.map λk=>D.bl (decide (k∈cs))) with|some bs=>R.ok (Vl.cl (.bl (bs.any id)))|none=>.bad)=_;rw[pA];show R.ok (Vl.cl (.bl ((as.map λk=>decide (k∈cs)).any id)))=_;rw[List.any_map];rfl
def sY(h h':Nat)(w w':Way):Bool:=!(h==h')&&(!(w.wr.any λk=>decide (k∈w'.rds++w'.wr))&&!(w'.wr.any λk=>decide (k∈w.rds++w.wr)))
theorem aJd(a:Z[i]? = some (.T (gV h w))):ev P W Z (.v i)=.ok ⟨gV h w,false,true,[]⟩:=by show cT Z i=_;unfold cT;rw[a];rfl
theorem aPf(a:Z[i]? = some (.T (gV h w))):ev P W Z (.idx (.v i) (.i 0))=.ok (.cl (aN h)):=aZ (aJd a) (aA _) rfl
theorem aPg(a:Z[i]? = some (.T (gV h w))):ev P W Z (.idx (.v i) (.i 1))=.ok ⟨fC w.wr,false,true,[]⟩:=aZ (aJd a) (aA _) rfl
theorem aPh(a:Z[i]? = some (.T (gV h w))):ev P W Z (.idx (.v i) (.i 2))=.ok ⟨fC (w.rds++w.wr),false,true,[]⟩:=aZ (aJd a) (aA _) rfl
theorem aMt(a b:Nat):cZ .NotEq (aN a) (aN b)=some (!(a==b)):=by rw[aGq,aCG,aGY];rfl
theorem vL(n:Nat)(hm:m<=4)(o:eU m w)(o':eU m w'):call pg (n+2) 41 [gV h w,gV h' w']=.ok (.bl (sY h h' w w'),false,false):=by
 have l:∀{w:Way},eU m w->w.wr.length<=100:=λ{w} o=>by have:=xV o;unfold Way.wr;rw[lM];omega
 exact aG (F:=f41) rfl rfl (aY (aIK (sJ (aPf rfl) (aPf rfl) (aMt h h')) (aIK (aMg (dN (aPg rfl) (aPh rfl) (aAt n (l o)))) (aMg (dN (aPg rfl) (aPh rfl) (aAt n (l o')))))))
theorem aGZ(n:Nat)(B:bs.length<=4)(o:eP bs.length hs)(a:sX hs h p j w)(G:sX hs h' p' j' w'):call pg (n+35) 39 [aQ bs g hs,tkD h p j,tkD h' p' j']=.ok (.bl (sY h h' w w'),false,false):=
 aG (F:=f39) rfl rfl (aY (dN (dN (fJ rfl) (aK 1 rfl rfl) (oZ n B o a)) (dN (fJ rfl) (aK 2 rfl rfl) (oZ n B o G)) (vL (n+32) B (a.ok o) (G.ok o))))
end K69
noncomputable section
set_option maxHeartbeats 4000000
namespace K69
open Hp HpS PySem
theorem aMu(h1:ev P W Z a=.ok (.cl (.int 0)))(h2:ev P W Z b=.ok (.cl (.int y)))(B:ev P W Z c=.ok (.cl (.int z))):tst P W Z (.cmp2 .LtE .Lt a b c)=.ok (decide (0<=y/\y<z)):=by by_cases p:0<=y;refine vC h1 h2 B p ?_;by_cases q:y<z;rw[Ao q,Ao ⟨p,q⟩];rw[Az q,Az λw=>q w.2];rw[nF,h1,h2];show(match some (decide ((0:Int)<=y)) with|some true=>ev P W Z c >>= λz=>(match cZ .Lt (.int y) z.d with|some k=>R.ok k|none=>.bad)|some false=>.ok false|none=>.bad)=_;rw[Az p,Az λw=>p w.1]
def stP(p:Int×Int):D:=.tup [.int p.1,.int p.2]
def up(p:Nat×Nat):Int×Int:=((p.1:Int),(p.2:Int))
def goneX(bs:List (Str×Int))(hs:List (List (List Way)))(s:St)(p:Int×Int):Option St:=if 0<=p.1/\p.1<hs.length/\0<=p.2 then goneF bs hs s (p.1.toNat,p.2.toNat) else none
theorem aAu(n:Nat)(q2:bs.length<=4)(o:eP bs.length hs)(so:SOk bs.length hs s)(p:Int×Int):call pg (n+33) 35 [aQ bs g hs,aV s,stP p]=.ok (aGP (goneX bs hs s p),false,false):=by
 obtain⟨x,y⟩:=p
 let W:Sl->Sl->Sl->Sl->Sl->Sl->Sg:=λU I L B s7 G=>[.T (aQ bs g hs),.T (aV s),.T (stP (x,y)),U,I,L,B,s7,G]
 have v1:∀{U I L B s7 G},eV (n+32) (W U I L B s7 G) (.v 1)=.c (aV s):=aK 1 rfl (eL s);have v2:∀{U I L B s7 G},eV (n+32) (W U I L B s7 G) (.v 2)=.c (stP (x,y)):=aK 2 rfl rfl;have q1:∀{U I L B s7 G},eV (n+32) (W U I L B s7 G) (.idx (.v 2) (.i 1))=.c (.int y):=aZ v2 (aA _) (gO _ _ _ rfl);have v3:∀{I L B s7 G},eV (n+32) (W (.F (.int x)) I L B s7 G) (.v 3)=.c (.int x):=aD 3 rfl;have t2:=cU (aMu (aA (Z:=W (.F (.int x)) .x .x .x .x .x) (.int 0)) v3 (aAn (i:=0) rfl));by_cases hx:0<=x/\x<hs.length;obtain⟨i,rfl⟩:∃i:Nat,x=(i:Int):=⟨x.toNat,by omega⟩
 by_cases hy:0<=y;obtain⟨k,rfl⟩:∃k:Nat,y=(k:Int):=⟨y.toNat,by omega⟩
 rw[show goneX bs hs s ((i:Int),(k:Int))=goneF bs hs s (i,k) by unfold goneX;rw[if_pos ⟨by omega,by omega,hy⟩];rfl];exact nV n q2 o so (p:=(i,k)) (by omega)
 . rw[show goneX bs hs s ((i:Int),y)=none from if_neg λz=>hy z.2.2];rw[Ao hx] at t2
   let μ:Sl->Sl->Sl->Sg:=λB s7 G=>W (.F (.int (i:Int))) (.F (aL s.1)) (.F (aL s.2)) B s7 G
   have w5:∀{B s7 G},eV (n+32) (μ B s7 G) (.v 5)=.c (aL s.2):=aD 5 rfl;obtain⟨r0,r1⟩:=so.rg i (by omega);obtain⟨q,eq⟩:∃q:Nat,s.2.getD i 0=(q:Int):=⟨_,(BV r0).symm⟩
   have i5:∀B s7 G,eV (n+32) (μ B s7 G) (.idx (.v 5) (.v 3))=.c (.int (q:Int)):=λB s7 G=>by have:=aZ (@w5 B s7 G) v3 (nK (by rw[so.pl];exact(by omega)));rw[eq] at this;exact this
   have ih:∀{B s7 G},eV (n+32) (μ B s7 G) (.idx (.idx (.v 0) (.i 2)) (.v 3))=.ok ⟨.lst (bR (hs.getD i [])),false,true,[]⟩:=aZ (aGO rfl) v3 (sQ (cB [] (by omega)));have pre:∀{v:Vl},eS (n+32) (μ .x .x .x) (drp 4 f35.body)=.ret v->eS (n+32) (W .x .x .x .x .x .x) f35.body=.ret v:=λe=>cs (aR (aZ v2 (aA _) (fY _ _ rfl))) (cs (bQ t2) (cs (aR (aZ v1 (aA _) (fY _ _ (aM _)))) (cs (aR (aZ v1 (aA _) (gO _ _ _ (aM _)))) e)));have ty:∀{Z:Sg} {m:Int},eV (n+32) Z (.idx (.v 2) (.i 1))=.c (.int y)->eV (n+32) Z (.bi .len (.k (.v 6) .z))=.c (.int m)->eT (n+32) Z (.nt (.cmp2 .LtE .Lt (.i 0) (.idx (.v 2) (.i 1)) (.bi .len (.k (.v 6) .z))))=.ok true:=λh1 h2=>by have:=cU (aMu (aA (.int 0)) h1 h2);rw[Az λw=>hy w.1] at this;exact this
   by_cases q4:q<(hs.getD i []).length;have q0:=cB [] q4;exact aG rfl rfl (v:=.cl .non) (pre (cs (aBu (sM ih (i5 _ _ _) (mK (n+31) _ q0) rfl rfl)) (dY (ty q1 (dJ (aI 6 rfl) rfl)) (aY (aA _)))));have q3:q=(hs.getD i []).length:=by omega
   exact aG (F:=f35) rfl rfl (v:=.cl .non) (pre (cs (bI (cG ih (i5 _ _ _) (by rw[q3];exact pL (n+31) _))) (dY (ty q1 rfl) (aY (aA _)))))
 rw[show goneX bs hs s (x,y)=none from if_neg λz=>hx ⟨z.1,z.2.1⟩];rw[Az hx] at t2;exact aG (F:=f35) rfl rfl (cs (aR (aZ v2 (aA _) (fY _ _ rfl))) (dY t2 (aY (aA _))))
theorem aHa(s:St){p:Nat×Nat}(h:p.1<hs.length):goneX bs hs s (up p)=goneF bs hs s p:=by unfold goneX up;rw[if_pos ⟨by simp,by simpa using h,by simp⟩];rfl
theorem cx(h:ex P W Z s=.exc e Z'):exs P W Z (.k s ss)=.exc e Z':=by rw[cN,h];rfl
abbrev wvT(bs:List (Str×Int))(g:Cn)(hs:List (List (List Way)))(st:List Int)(d:D)(s3 s4 s5 s6:Sl):Sg:=[.T (aQ bs g hs),.T (aL st),.T d,s3,s4,s5,s6]
theorem aJe(n:Nat)(hb:bs∈boxSet)(o:eP bs.length hs)(I:g.wf bs.length true)(L:g.sz<=31)(B:st∈standsL bs)(W:g.hold st st=true)(d:D):∀{r:O},exs pg (call pg (n+33)) (wvT bs g hs st d (.F (aV (st,bP hs))) (.O [aV (st,bP hs)]) .x .x) (drp 3 f36.body)=r->exs pg (call pg (n+33)) (wvT bs g hs st d .x .x .x .x) f36.body=r:=λ{r} h=>by
 obtain⟨l3,l4⟩:=dH hb;obtain⟨h2,U⟩:=jG o
 let G:=wvT bs g hs st d
 have k1:eX (n+33) (G .x .x .x .x) (hB 0 f36)=.next (G .x .x .x .x):=bQ (dZ (cU (by
  have e:evs pg (cP (n+33)) (G .x .x .x .x) (.k (.idx (.v 0) (.i 0)) (.k (.v 1) .z))=.ok [⟨.lst (aE bs),false,true,[]⟩,.cl (aL st)]:=by rw[aF,aBF rfl,aH,aF,(λ_ _ _ _=>aK 1 rfl (aM st))];rfl
  rw[eG,e];show(call pg (n+33) 8 [.lst (aE bs),aL st] >>= λr=>iJ (iU _ r))=_;rw[jH (n+30) hb B];rfl)) (cU (fZ (aGN rfl) ((λ_ _ _ _=>aK 1 rfl (aM st)) _ _ _ _) (aA _) (by
  have:=kJ (n+2) (iQ B).1 I L;rw[W] at this;exact this))))
 exact cs k1 (cs (aR (dN (fJ rfl) ((λ_ _ _ _=>aK 1 rfl (aM st)) _ _ _ _) (vG (n+32) U st))) (cs (bI (cH (aC (aD 3 rfl) aU))) h))
theorem aJf(n:Nat)(st:List Int)(L:List (Int×Int))(B G I U:Sl):walk pg (call pg n) (wvT bs g hs st (.lst (L.map stP)) B G I U) (.enum (.v 2))=.ok ((Ap L.length).map (λi=>Vl.cl (.tup [aN i,stP (L.getD i (0,0))])),[]):=by rw[aCP (aI 2 rfl) rfl];have:=sR stP (0,0) L 0;rw[show((0:Nat):Int)=0 from rfl] at this;rw[this];refine congrArg R.ok (congrArg (·,[]) ((cD (λi=>rfl) _).trans (B1 λi _=>?_)));rw[JK]
theorem pM(n:Nat)(hb:bs∈boxSet)(o:eP bs.length hs)(gw:g.wf bs.length true)(gz:g.sz<=31)(I:st∈standsL bs)(hg:g.hold st st=true){ps:List (Nat×Nat)}{ss:List St}(W0:Wov bs hs (st,bP hs) ps ss)(hp:ps.length<=100)(hx:goneX bs hs (ss.getD ps.length (st,bP hs)) x=none)(qs:List (Int×Int)) :
 call pg (n+34) 36 [aQ bs g hs,aL st,.lst ((ps.map up++[x]++qs).map stP)]=.exc (.err "NoStep" [.int (ps.length:Int)]):=by
 obtain⟨l3,l4⟩:=dH hb
 let s0:=(st,bP hs)
 let L:=ps.map up++[x]++qs
 have q1:∀i,i<ps.length->L.getD i (0,0)=up (ps.getD i (0,0)):=λi hi=>by show(ps.map up++[x]++qs).getD i (0,0)=_;rw[BG,fP _ _ _ (by simpa using hi),Am,A3,cB (0,0) hi];rfl
 have q2:L.getD ps.length (0,0)=x:=by rw[fP _ _ _ (by simp)];have:=iS (ps.map up) x (0,0);rwa [lM] at this
 have hl:=W0.len
 let G:=wvT bs g hs st (.lst (L.map stP))
 have m1:∀i y,eX (n+33) (G (.F (aV (ss.getD i s0))) (.O ((ss.take (i+1)).map aV)) (.F (aN i)) (.F (stP y))) (.set (.n 3) (.call 35 (.k (.v 0) (.k (.v 3) (.k (.v 6) .z)))))=.next (G (.F (aGP (goneX bs hs (ss.getD i s0) y))) (.O ((ss.take (i+1)).map aV)) (.F (aN i)) (.F (stP y))):=λi y=>(aR (bL (fJ rfl) (aD 3 rfl) (aD 6 rfl) (aAu n l4 o (W0.ok i) y))).trans rfl;obtain⟨Z',e4⟩:=aIL (t:=.t [5,6]) (b:=match hdS (drp 3 f36.body) with|.for _ _ b=>b|_=>.z) ps.length (λi Z=>∃U W,Z=G (.F (aV (ss.getD i s0))) (.O ((ss.take (i+1)).map aV)) U W) (aJf (n+33) st L (.F (aV s0)) (.O [aV s0]) .x .x) ⟨.x,.x,by
  rw[fM aV ss s0 (by rw[W0.len];omega),show ss.getD 0 s0=s0 from W0.z];rfl⟩ (by simp[L]) (λi hi Z ⟨U,W,B⟩=>by
  subst B;have m:=m1 i (up (ps.getD i (0,0)));rw[aHa _ (W0.hd (ps.getD i (0,0)) (mG (cB (0,0) hi))),W0.go i hi] at m;refine⟨G (.F (aV (ss.getD i s0))) (.O ((ss.take (i+1)).map aV)) (.F (aN i)) (.F (stP (up (ps.getD i (0,0))))),_,?_,cs m (cs (bQ (bM (aD 3 rfl) (aA _) rfl)) (bU (fU (aD 3 rfl) rfl (by rw[lM,A8];unfold lim;omega) rfl (fM aV ss s0 (by omega))))),_,_,rfl⟩;rw[AC,AN,q1 i hi];exact nN _ rfl rfl) (λZ ⟨U,W,B⟩=>by
  subst B;have m:=m1 ps.length x;rw[hx] at m;refine⟨G (.F (aV (ss.getD ps.length s0))) (.O ((ss.take (ps.length+1)).map aV)) (.F (aN ps.length)) (.F (stP x)),_,?_,cs m rfl⟩;rw[AC,AN,q2];exact nN _ rfl rfl)
 refine gN rfl rfl (Z:=Z') ?_;exact aJe n hb o gw gz I hg _ (cx e4)
theorem nX(n:Nat)(h:tst pg (call pg (n+33)) [.T (aQ bs g hs),.T st,.T d,.x,.x,.x,.x] (.orr (.nt (.call 8 (.k (.idx (.v 0) (.i 0)) (.k (.v 1) .z)))) (.nt (.call 1 (.k (.idx (.v 0) (.i 1)) (.k (.v 1) (.k (.c .non) .z))))))=.ok true):call pg (n+34) 36 [aQ bs g hs,st,d]=.exc (.err "NoStart" []):=by refine gN rfl rfl (Z:=[.T (aQ bs g hs),.T st,.T d,.x,.x,.x,.x]) ?_;refine cx ?_;show ex pg (cP (n+33)) [.T (aQ bs g hs),.T st,.T d,.x,.x,.x,.x] (.iff _ (.k (.rse "NoStart" false _) .z) .z)=_;rw[gM,h];rfl
abbrev Lf:=(Nat×Nat)×Nat×Way
def lfD(t:Lf):D:=.tup [aO t.1,gV t.2.1 t.2.2]
theorem aJg{ts:List Lf}(h:ts≠[]):noLs (ts.map lfD)=false:=by
 cases ts with
 | nil=>exact absurd rfl h|cons t ts=>rfl
theorem aHb(n:Nat)(hm:m<=4){ts:List Lf}(o:∀t∈ts,eU m t.2.2)(U:ts.length<=100)(hi:i<ts.length):∃b,call pg (n+3) 55 [.lst (ts.map lfD),.int (i:Int)]=.ok (.bl b,false,false):=by
 obtain⟨u,B⟩:∃u,ts[i]? = some u:=⟨_,Ae hi⟩
 let Z:Sg:=[.T (.lst (ts.map lfD)),.T (.int (i:Int))]
 have L:walk pg (cP (n+2)) Z (.seq (.sli (.v 0) .z (.k (.v 1) .z)))=.ok ((ts.take i).map (λt=>(⟨lfD t,false,true,[]⟩:Vl)),[]):=by rw[bZ,xB,aI 0 rfl,aH,aK 1 rfl rfl,aH];show(R.iff (aT (i:Int)) (fA _ none (some (i:Int))) >>= λx=>_)=_;rw[show aT (i:Int)=true by unfold aT;rw[bA];exact⟨Ao (by omega),Ao (by omega)⟩,nE];show((R.ok (⟨.lst (cut (ts.map lfD) none (some (i:Int))),true,true&&!noLs (ts.map lfD),if noLs (ts.map lfD) then [] else []⟩:Vl)) >>= λx=>_)=_;rw[aJg (λz=>by rw[z] at hi;exact absurd hi (DI _)),aBD,<-Dk];show R.ok (items _ ((ts.take i).map lfD),[])=_;unfold items;rw[A4];rfl
 have G:eV (n+2) Z (.comp 2 [0,1] (.t [0,1]) (.seq (.sli (.v 0) .z (.k (.v 1) .z))) .z (.call 41 (.k (.idx (.idx (.v 2) (.v 3)) (.i 1)) (.k (.v 1) .z))))=.ok ⟨.lst ((ts.take i).map λt=>D.bl (sY u.2.1 t.2.1 u.2.2 t.2.2)),true,false,[]⟩:=by exact fG (λt=>(⟨lfD t,false,true,[]⟩:Vl)) (λt=>D.bl (sY u.2.1 t.2.1 u.2.2 t.2.2)) (λ_=>rfl) L (by rw[A8];unfold lim;omega) λt I=>⟨[.F (aO t.1),.T (gV t.2.1 t.2.2),.T (.lst (ts.map lfD)),.T (.int (i:Int))],rfl,(dN (aZ (aZ (aI 2 rfl) (aK 3 rfl rfl) ((nO (f:=lfD) rfl B).trans rfl)) (aA (.int 1)) rfl) (aJd rfl) (vL n hm (o u (mG B)) (o t (D1 I))))⟩
 refine⟨(ts.take i).all λt=>sY u.2.1 t.2.1 u.2.2 t.2.2,aG (F:=f55) rfl rfl (v:=.cl (.bl ((ts.take i).all λt=>sY u.2.1 t.2.1 u.2.2 t.2.2))) (aY (dI G ?_))⟩;show(match cE ((ts.take i).map λt=>D.bl (sY u.2.1 t.2.1 u.2.2 t.2.2)) with|some bs=>R.ok (Vl.cl (.bl (bs.all id)))|none=>.bad)=_;rw[pA];show R.ok (Vl.cl (.bl (((ts.take i).map λt=>sY u.2.1 t.2.1 u.2.2 t.2.2).all id)))=_;rw[FE];rfl
theorem aJh{x y:Vl}(h1:ev P W Z a=.ok x)(h2:ev P W Z b=.ok y)(B:W f [x.d,y.d]=.ok (.bl k,false,false)):tst P W Z (.call f (.k a (.k b .z)))=.ok k:=by
 have e:evs P W Z (.k a (.k b .z))=.ok [x,y]:=by rw[aF,h1,aF,h2];rfl
 rw[eG,e];show(W f [x.d,y.d] >>= λr=>iJ (iU _ r))=_;rw[B];rfl
theorem aJi(i j:Int):(iB i j).map Vl.cl=(Ap (j-i).toNat).map λ(k:Nat)=>Vl.cl (.int (i+(k:Int))):=by unfold iB;rw[A4];rfl
theorem aJj(a b:Nat×Nat):∃k,cZ .Lt (aO a) (aO b)=some k:=⟨_,rfl⟩
theorem aBJ(n:Nat)(hm:m<=4){ts:List Lf}(o:∀t∈ts,eU m t.2.2)(hl:ts.length<=100)(ne:0<ts.length):∃k:Nat,k<ts.length/\call pg (n+4) 54 [.lst (ts.map lfD)]=.ok (.int (k:Int),false,false):=by
 let I:Sl->Sl->Sg:=λs1 s2=>[.T (.lst (ts.map lfD)),s1,s2]
 have W:∀{s1 s2},eV (n+3) (I s1 s2) (.v 0)=.ok ⟨.lst (ts.map lfD),false,true,[]⟩:=aI 0 rfl;have hw:walk pg (cP (n+3)) (I (.F (.int ((0:Nat):Int))) .x) (.rng (.i 1) (.bi .len (.k (.v 0) .z)))=.ok ((Ap (ts.length-1)).map (λi=>Vl.cl (.int ((i+1:Nat):Int))),[]):=by have e:=dJ (@W (.F (.int ((0:Nat):Int))) .x) rfl;rw[lM] at e;rw[aAb,aA,aH,e,aH];show R.iff (aT 1&&aT (ts.length:Int)) (R.ok ((iB 1 (ts.length:Int)).map Vl.cl,[]))=_;rw[show aT (ts.length:Int)=true by unfold aT;rw[bA];exact⟨Ao (by omega),Ao (by omega)⟩,show(aT 1&&true)=true by decide,nE,aJi,show((ts.length:Int)-1).toNat=ts.length-1 by omega];refine congrArg R.ok (congrArg (·,[]) (B1 λi _=>?_));rw[show(1:Int)+(i:Int)=((i+1:Nat):Int) by omega]
 obtain⟨Z',ef,k,L,s2,rfl⟩:=dF (t:=.n 2) (b:=match hdS (drp 1 f54.body) with|.for _ _ b=>b|_=>.z) (λi Z=>∃k:Nat,k<ts.length/\∃s2,Z=I (.F (.int (k:Int))) s2) hw ⟨0,ne,_,rfl⟩ λi hi Z ⟨k,L,s2,q0⟩=>by
  have G:i+1<ts.length:=by
   have:i<ts.length-1:=by simpa using hi
   omega
  subst q0;obtain⟨x,hx⟩:∃x,ts[i+1]? = some x:=⟨_,Ae G⟩
  obtain⟨y,hy⟩:∃y,ts[k]? = some y:=⟨_,Ae L⟩
  obtain⟨b,hb⟩:=aHb n hm o hl G;obtain⟨c,hc⟩:=aJj x.1 y.1
  let μ:=I (.F (.int (k:Int))) (.F (.int ((i+1:Nat):Int)))
  have U:=aMk (bM (aZ (aZ W (aD 2 rfl) ((nO rfl hx).trans rfl)) (aA (.int 0)) rfl) (aZ (aZ W (aD 1 rfl) ((nO rfl hy).trans rfl)) (aA (.int 0)) rfl) hc) (aJh W (aD 2 rfl) hb);refine⟨μ,if (c&&b)=true then I (.F (.int ((i+1:Nat):Int))) (.F (.int ((i+1:Nat):Int))) else μ,?_,?_,?_⟩;rw[AC,AN];exact fB _;cases B:(c&&b) with
  | true=>rw[B] at U;exact bU (oU U (bU rfl))|false=>rw[B] at U;exact bU (bQ U)
  cases B:(c&&b) with
  | true=>exact⟨i+1,G,_,rfl⟩|false=>exact⟨k,L,_,rfl⟩
 exact⟨k,L,aG rfl rfl (v:=.cl (.int (k:Int))) (cs rfl (cs ef rfl))⟩
theorem aHc{t:Sg->R Bool}{f:Sg->O}(n:Nat)(h:t Z=.ok false):iL t f (n+1) Z=.next Z:=by show O.from Z (t Z) _=_;rw[h];rfl
theorem aHd{t:Sg->R Bool}{f:Sg->O}(n:Nat)(h:t Z=.ok true)(B:f Z=.next Z'):iL t f (n+1) Z=iL t f n Z':=by show O.from Z (t Z) _=_;rw[h];show(match f Z with|.next Z'=>iL t f n Z'|.cnt Z'=>iL t f n Z'|.brk Z'=>.next Z'|o=>o)=_;rw[B]
def lsS(a b c:Sl)(L:List Lf)(F:List (Nat×Nat))(T:List Int)(s6:Sl):Sg:=[a,b,c,.O (L.map lfD),.O (F.map aO),.O (T.map D.int),s6]
def lsB:Ss:=match hdS (drp 3 f53.body) with|.whl _ b=>b|_=>.z
theorem vM(h:-1000000<=k)(h':k<=1000000):aT k=true:=by unfold aT;rw[bA];exact⟨Ao (by omega),Ao (by omega)⟩
theorem aPi(h:aT k=true):qX (some (R.ok (Vl.cl (.int k))))=.ok (some k):=by show R.iff (aT k) (R.ok (some k))=_;rw[h,nE]
theorem vN{α B:Type}(f:α->B):∀(l:List α) (k:Nat),(l.map f).eraseIdx k=(l.eraseIdx k).map f
 | [],_=>rfl|x::l,0=>rfl|x::l,k+1=>congrArg (f x::·) (vN f l k)
theorem aJk(n:Nat)(hm:m<=4)(a b c:Sl){L:List Lf}{F:List (Nat×Nat)}{T:List Int}(o:∀t∈L,eU m t.2.2)(ne:0<L.length)(hl:L.length+F.length<=100)(hT:T.length<=100*F.length)(s6:Sl) :
 ∃(G:List Lf) (p:Nat×Nat) (B:List Int) (t6:Sl),(∀t∈G,t∈L)/\G.length+1=L.length/\B.length<=100*(F.length+1)/\exs pg (call pg (n+4)) (lsS a b c L F T s6) lsB=.next (lsS a b c G (F++[p]) B t6):=by
 obtain⟨k,I,U⟩:=aBJ n hm o (by omega) ne;obtain⟨t,ht⟩:∃t,L[k]? = some t:=⟨_,Ae I⟩
 let B:=T++(Ap k).map λ(j:Nat)=>(F.length:Int)+((k:Int)-1-(j:Int))
 have lT:B.length<=100*(F.length+1):=by rw[lA,lM,Bm];omega
 have hc:eV (n+4) (lsS a b c L F T (.F (.int (k:Int)))) (.comp 1 [4] (.n 0) (.dwn (.op .Sub (.v 6) (.i 1))) .z (.op .Add (.bi .len (.k (.v 1) .z)) (.v 0)))=.ok ⟨.lst ((Ap k).map λ(j:Nat)=>D.int ((F.length:Int)+((k:Int)-1-(j:Int)))),true,false,[]⟩:=by
  refine fG (al:=[]) (λ(j:Nat)=>Vl.cl (.int ((k:Int)-1-(j:Int)))) (λj=>D.int ((F.length:Int)+((k:Int)-1-(j:Int)))) (λ_=>rfl) ?_ (by rw[Bm];unfold lim;omega) λj _=>⟨[.F (.int ((k:Int)-1-(j:Int))),.O (F.map aO)],fB _,?_⟩
  rw[aGs,dG (aD 6 rfl) (aA (.int 1)) (sub_int _ 1),bT,aH];show R.iff (aT ((k:Int)-1)) (R.ok ((pF ((k:Int)-1)).map Vl.cl,[]))=_;rw[vM (by omega) (by omega),nE];unfold pF;rw[A4,show((k:Int)-1+1).toNat=k by omega];rfl;have e:=dJ (bD (P:=pg) (W:=cP (n+4)) (Z:=[.F (.int ((k:Int)-1-(j:Int))),.O (F.map aO)]) 1 rfl) rfl;rw[lM] at e;exact dC e (aD 0 rfl)
 have k2:=
  (aGU (i:=5) (r:=B.map D.int) hc (bW (λ_=>rfl) _) rfl (by rw[lM];unfold lim;omega) (by rw[A7,A4];rfl)).trans rfl
 have k3:ex pg (cP (n+4)) (lsS a b c L F B (.F (.int (k:Int)))) (.appPop 4 3 (.v 6) 0)=.next (lsS a b c (L.eraseIdx k) (F++[t.1]) B (.F (.int (k:Int)))):=by
  rw[aDT,show ev pg (cP (n+4)) (lsS a b c L F B (.F (.int (k:Int)))) (.v 6)=.c (.int (k:Int)) from aD 6 rfl,bT];rw[aPi (vM (by omega) (by omega)),dD];have ep:jT (lsS a b c L F B (.F (.int (k:Int)))) 3 (some (k:Int))=.ok (⟨lfD t,false,false,[]⟩,lsS a b c (L.eraseIdx k) F B (.F (.int (k:Int)))):=by show(match ixN (L.map lfD).length (k:Int) with|some j=>(match (L.map lfD)[j]? with|some d=>R.ok (Vl.sub ⟨.non,false,false,[]⟩ d,(lsS a b c L F B (.F (.int (k:Int)))).set 3 (.O ((L.map lfD).eraseIdx j)))|none=>.bad)|none=>.bad)=_;rw[show ixN (L.map lfD).length (k:Int)=some k by unfold ixN;rw[if_pos (by omega),if_pos (by rw[lM];omega)];rfl];show(match (L.map lfD)[k]? with|some d=>R.ok (Vl.sub ⟨.non,false,false,[]⟩ d,_)|none=>.bad)=_;rw[A3,ht,vN];rfl
  rw[ep,dD];show(if (F.map aO++[aO t.1]).length<=lim then O.next _ else .bad)=_;rw[if_pos (by rw[lA,lM];unfold lim;simp;omega)];show O.next [a,b,c,.O ((L.eraseIdx k).map lfD),.O (F.map aO++[aO t.1]),.O (B.map D.int),.F (.int (k:Int))]=O.next [a,b,c,.O ((L.eraseIdx k).map lfD),.O ((F++[t.1]).map aO),.O (B.map D.int),.F (.int (k:Int))];rw[show(F++[t.1]).map aO=F.map aO++[aO t.1] from A7]
 exact⟨L.eraseIdx k,t.1,B,.F (.int (k:Int)),λx hx=>List.mem_of_mem_eraseIdx hx,by rw[EJ I];omega,lT,(cs (aR (cW (bD 3 rfl) U)) (cs k2 (bU k3)))⟩
theorem aCU(a b c:Sl)(L:List Lf)(F:List (Nat×Nat))(T:List Int)(B:Sl):tst pg W (lsS a b c L F T B) (.v 3)=.ok (!(L.map lfD).isEmpty):=by rfl
theorem aCV(n:Nat)(hm:m<=4)(a b c:Sl):∀(N:Nat) (L:List Lf) (F:List (Nat×Nat)) (T:List Int) (B:Sl) (G:Nat),L.length=N->N<G->(∀t∈L,eU m t.2.2)->L.length+F.length<=100->T.length<=100*F.length ->
 ∃(I:List (Nat×Nat)) (U:List Int) (W:Sl),I.length<=100/\iL (λZ=>tst pg (call pg (n+4)) Z (.v 3)) (λZ=>exs pg (call pg (n+4)) Z lsB) G (lsS a b c L F T B)=.next (lsS a b c [] I U W)
 | 0,L,F,T,B,G+1,e,_,_,hl,_=>by cases CN.mp e;exact⟨F,T,B,by omega,aHc _ (aCU a b c [] F T B)⟩|N+1,L,F,T,B,G+1,e,h,o,hl,hT=>by
  obtain⟨L',p,U,W,h1,h2,h3,h4⟩:=aJk n hm a b c o (by omega) hl hT B;obtain⟨I,T2,u6,g1,g2⟩:=aCV n hm a b c N L' (F++[p]) U W G (by omega) (by omega) (λt ht=>o t (h1 t ht)) (by simp;omega) (by simpa using h3);refine⟨I,T2,u6,g1,(aHd (f:=λZ=>eS (n+4) Z lsB) _ ((aCU a b c L F T B).trans ?_) h4).trans g2⟩;cases L with
  | nil=>cases e|cons x L=>rfl
theorem aMv{l:List Int}(h:i<l.length):l.take i++[x]++l.drop (i+1)=l.set i x:=by rw[List.set_eq_take_append_cons_drop,if_pos h,BG];rfl
abbrev wyS(hs:List (List (List Way)))(s:St)(p:Nat×Nat):Way:=iR (cL hs s p.1) p.2
theorem aHe{s t:St}{p:Nat×Nat}(h:p.1<s.2.length):goneF bs hs s p=some t↔p.2<(cL hs s p.1).length/\behF bs (wyS hs s p) s.1=some t.1/\t.2=s.2.set p.1 (wyS hs s p).nx:=by unfold goneF;rw[aMv h];by_cases B:p.2<(cL hs s p.1).length;rw[if_pos B];constructor;intro e;obtain⟨st,h1,h2⟩:=Bb.mp e;subst h2;exact⟨B,h1,rfl⟩;rintro ⟨_,h1,h2⟩;rw[h1];show some _=some t;rw[<-h2];rw[if_neg B];exact⟨λe=>(by cases e),λe=>absurd e.1 B⟩
theorem aMw{s:St}(G:SOk m hs s){p:Nat×Nat}(hp:p.1<hs.length)(B:p.2<(cL hs s p.1).length):sX hs p.1 (s.2.getD p.1 0).toNat p.2 (wyS hs s p):=by refine⟨hs.getD p.1 [],cL hs s p.1,cB [] hp,?_,(xP B).2⟩;refine cB [] ?_;rcases Nat.lt_or_ge (s.2.getD p.1 0).toNat (hs.getD p.1 []).length with z|z;exact z;unfold cL at B;rw[Am,BJ z] at B;exact absurd B (DI _)
theorem Wov.at(o:eP bs.length hs)(W0:Wov bs hs s0 ps ss)(h:i<ps.length):(ps.getD i (0,0)).1<hs.length/\sX hs (ps.getD i (0,0)).1 ((ss.getD i s0).2.getD (ps.getD i (0,0)).1 0).toNat (ps.getD i (0,0)).2 (wyS hs (ss.getD i s0) (ps.getD i (0,0))):=by have hp:=W0.hd (ps.getD i (0,0)) (mG (cB (0,0) h));exact⟨hp,aMw (W0.ok i) hp ((aHe (by rw[(W0.ok i).pl];exact hp)).mp (W0.go i h)).1⟩
theorem aHf(W0:Wov bs hs s0 ps ss)(h:i<ps.length):pT ps ss s0 i=tkD (ps.getD i (0,0)).1 ((ss.getD i s0).2.getD (ps.getD i (0,0)).1 0).toNat (ps.getD i (0,0)).2:=by have:=((W0.ok i).rg _ (W0.hd (ps.getD i (0,0)) (mG (cB (0,0) h)))).1;unfold pT tkD aN;rw[BV this]
theorem aHg{α:Type}(g:α->D):∀ts:List α,dP (ts.map λt=>Vl.cl (g t))=false
 | []=>rfl|t::ts=>aHg g ts
theorem aJN{α:Type}(g:α->D):∀ts:List α,bY (ts.map λt=>Vl.cl (g t))=[]
 | []=>rfl|t::ts=>by rw[mC];exact aJN g ts
theorem aJl{α:Type}(k:Nat)(caps:List Nat)(g:α->D)(ts:List α):dW k caps [] (ts.map λt=>Vl.cl (g t))=⟨.lst (ts.map g),true,false,[]⟩:=by
 have e:(ts.map λt=>Vl.cl (g t)).map (·.d)=ts.map g:=by rw[A4];rfl
 unfold dW;rw[e,aHg,aJN];split <;> rfl
theorem aMx{P:Pg}{W:Caller}{Z:Sg}{k:Nat}{caps:List Nat}{T:T}{it:It}{elt:E}{α:Type}{ts:List α}(f:α->Vl)(g:α->D)(hw:walk P W Z it=.ok (ts.map f,[]))(L:ts.length<=lim)
 (hb:∀t∈ts,∃B,cR (Af k .x++caps.map λi=>((freeze Z [])[i]?).getD .x) (f t) T=.ok B/\ev P W B elt=.ok (.cl (g t))):ev P W Z (.comp k caps T it .z elt)=.ok ⟨.lst (ts.map g),true,false,[]⟩:=by
 rw[kY,hw,aH,kH (p:=λ_=>true) λt U=>by
  obtain⟨B,G,I⟩:=hb t U;rw[G];show(ev P W B elt >>= λy=>R.ok (some y))=_;rw[I];rfl]
 show R.iff (decide ((ts.map f).length<=lim)) (R.ok (dW k caps [] ((ts.filter λ_=>true).map λt=>Vl.cl (g t))))=_;rw[(Gz.mpr λ_ _=>rfl),(Ao (by rw[lM];exact L)),nE,aJl]
def aMy(hs:List (List (List Way)))(s0:St)(ps:List (Nat×Nat))(ss:List St)(i:Nat):Lf:=(ps.getD i (0,0),(ps.getD i (0,0)).1,wyS hs (ss.getD i s0) (ps.getD i (0,0)))
theorem lG(n:Nat)(hb:bs∈boxSet)(o:eP bs.length hs)(U:g.wf bs.length true)(W:g.sz<=31){st:List Int}(G:st∈standsL bs)(hg:g.hold st st=true){ps:List (Nat×Nat)}{ss:List St}(W0:Wov bs hs (st,bP hs) ps ss)(hp:ps.length<=100) :
 ∃(F:List (Nat×Nat)) (T:List Int),F.length<=100/\call pg (n+36) 53 [aQ bs g hs,aL st,.lst (ps.map aO)]=.ok (.tup [.lst (F.map aO),.lst (T.map D.int)],false,false):=by
 obtain⟨l3,I⟩:=dH hb
 let s0:=(st,bP hs)
 let a:Sl:=.T (aQ bs g hs)
 let b:Sl:=.T (aL st)
 let c:Sl:=.T (.lst (ps.map aO))
 let L:=(Ap ps.length).map (aMy hs s0 ps ss)
 have hc:eV (n+35) [a,b,c,.x,.x,.x,.x] (.comp 2 [0] (.t [0,1]) (.zip (.v 2) (.call 38 (.k (.v 0) (.k (.v 1) (.k (.v 2) .z))))) .z (.tup (.k (.v 0) (.k (.call 40 (.k (.v 2) (.k (.v 1) .z))) .z))))=.ok ⟨.lst (L.map lfD),true,false,[]⟩:=by rw[show L.map lfD=(Ap ps.length).map (λi=>lfD (aMy hs s0 ps ss i)) from A4];refine aMx (λi=>Vl.cl (.tup [aO (ps.getD i (0,0)),pT ps ss s0 i])) (λi=>lfD (aMy hs s0 ps ss i)) ?_ (by rw[Bm];unfold lim;omega) λi hi=>?_;rw[iM,aI 2 rfl,aH,gR (fJ rfl) (aK 1 rfl (aM st)) (aI 2 rfl) (mL n hb o U W G hg W0 hp)];show R.ok (items _ (fQ (ps.map aO) ((Ap ps.length).map (pT ps ss s0))),[])=_;rw[oX aO (pT ps ss s0) (0,0) 0 ps (Ap ps.length) (by simp),cD (λi=>rfl)];refine congrArg R.ok (congrArg (·,[]) (B1 λi hi=>?_));rw[Am (l:=Ap ps.length),D9 (B5.mp hi)];rfl;have B:=B5.mp hi;obtain⟨h1,wa⟩:=W0.at o B;refine⟨[.F (aO (ps.getD i (0,0))),.F (pT ps ss s0 i),a],nN _ rfl rfl,?_⟩;rw[aHf W0 B];exact gQ (aD 0 rfl) (dN (fJ rfl) (aD 1 rfl) (oZ (n+1) I o wa))
 obtain⟨F,T,t6,hF,e⟩:=aCV (n+31) I a b c ps.length L [] [] .x aBS (by simp[L]) (by unfold aBS;omega) (λt ht=>by
  obtain⟨i,hi,rfl⟩:=A0.mp ht;exact((W0.at o (B5.mp hi)).2).ok o) (by simp[L];omega) (by simp)
 refine⟨F,T,hF,?_⟩;refine aG (F:=f53) rfl rfl (cs (bI hc) (cs rfl (cs (Z':=lsS a b c L [] [] .x) rfl (cs (s:=.whl (.v 3) lsB) e rfl))))
theorem pB{Z:Sg}(i:Nat)(h:Z[i]? = some (.sh pa d)):∃v,ev P W Z (.v i)=.ok v/\v.d=d:=by show ∃v,cT Z i=.ok v/\v.d=d;unfold cT;rw[h];exact⟨_,rfl,rfl⟩
theorem aAv{x y z:Vl}(h1:ev P W Z a=.ok x)(h2:ev P W Z b=.ok y)(B:ev P W Z c=.ok z)(G:W f [x.d,y.d,z.d]=.exc e):ev P W Z (.call f (.k a (.k b (.k c .z))))=.exc e:=by
 have w:evs P W Z (.k a (.k b (.k c .z)))=.ok [x,y,z]:=by rw[aF,h1,aH,aF,h2,aH,aF,B,aH,dE];rfl
 rw[eH,w,aH,show [x,y,z].map (·.d)=[x.d,y.d,z.d] from rfl,G];rfl
theorem jI(h:call pg n f [d0,d1,d2]=.exc e):ev pg (call pg n) (.T d0::.T d1::.T d2::r) (.call f (.k (.v 0) (.k (.v 1) (.k (.v 2) .z))))=.exc e:=by obtain⟨x,hx,ex⟩:=pB (Z:=.T d0::.T d1::.T d2::r) 0 rfl;obtain⟨y,I,B⟩:=pB (Z:=.T d0::.T d1::.T d2::r) 1 rfl;obtain⟨z,L,G⟩:=pB (Z:=.T d0::.T d1::.T d2::r) 2 rfl;exact aAv hx I L (by rw[ex,B,G];exact h)
theorem sZ(h:ev P W Z e=.exc x):ex P W Z (.set t e)=.exc x Z:=by rw[kE,h];rfl
theorem nY(h:call pg n 36 [d0,d1,d2]=.exc e):call pg (n+1) 38 [d0,d1,d2]=.exc e:=
 gN rfl rfl (cx (sZ (jI h)))
theorem aAw(h:call pg n 36 [d0,d1,d2]=.exc e):call pg (n+2) 52 [d0,d1,d2,d3]=.exc e:=
 gN rfl rfl (cx (sZ (jI (nY h))))
theorem qL(h:call pg n 36 [d0,d1,.lst d2s]=.exc e):call pg (n+2) 53 [d0,d1,.lst d2s]=.exc e:=by refine gN rfl rfl (cx (sZ ?_));obtain⟨z,B,G⟩:=pB (Z:=[.T d0,.T d1,.T (.lst d2s),.x,.x,.x,.x]) 2 rfl;rw[kY];show(walk pg (cP (n+1)) [.T d0,.T d1,.T (.lst d2s),.x,.x,.x,.x] (.zip (.v 2) (.call 38 (.k (.v 0) (.k (.v 1) (.k (.v 2) .z))))) >>= _)=_;rw[iM,B,aH,jI (nY h)];rfl
theorem aCW(h:call pg n 36 [d0,d1,.lst d2s]=.exc e):call pg (n+3) 56 [d0,d1,.lst d2s,d3]=.exc e:=
 gN rfl rfl (cx (sZ (jI (qL h))))
theorem aPj(n:Nat)(p q:Nat×Nat):∃b,eqF (n+2) (aO p) (aO q)=some b:=⟨_,rfl⟩
theorem aHh(n:Nat):∀F B:List (Nat×Nat),∃b,gH (n+2) (F.map aO) (B.map aO)=some b
 | [],[]=>⟨_,rfl⟩
 | [],_::_=>⟨_,rfl⟩
 | _::_,[]=>⟨_,rfl⟩
 | p::F,q::B=>by obtain⟨x,hx⟩:=aPj n p q;obtain⟨y,G⟩:=aHh n F B;refine⟨x&&y,?_⟩;rw[mC,mC,gH,hx,G]
theorem aPk(F B:List (Nat×Nat)):∃b,eqD (.lst (F.map aO)) (.lst (B.map aO))=some b:=by show ∃b,(if (F.map aO).length=(B.map aO).length then eqL (eqF 119) (F.map aO) (B.map aO) else some false)=some b;split;rw[wD];exact aHh 117 F B;exact⟨_,rfl⟩
theorem aEg(n:Nat)(hb:bs∈boxSet)(o:eP bs.length hs)(I:g.wf bs.length true)(L:g.sz<=31)(B:st∈standsL bs)(U:g.hold st st=true){ps qs:List (Nat×Nat)}(W0:Wov bs hs (st,bP hs) ps ss)(hp:ps.length<=100)(V:Wov bs hs (st,bP hs) qs us)(hq:qs.length<=100) :
 ∃b,call pg (n+37) 56 [aQ bs g hs,aL st,.lst (ps.map aO),.lst (qs.map aO)]=.ok (.bl b,false,false):=by
 obtain⟨F,T,_,W⟩:=lG n hb o I L B U W0 hp;obtain⟨G,T',_,e2⟩:=lG n hb o I L B U V hq;obtain⟨b,eb⟩:=aPk F G
 let τ:Sl->Sl->Sg:=λs4 s5=>[.T (aQ bs g hs),.T (aL st),.T (.lst (ps.map aO)),.T (.lst (qs.map aO)),s4,s5]
 refine⟨b,aG (F:=f56) rfl rfl (cs (aR (bL (fJ rfl) (aK 1 rfl (aM st)) (aI 2 rfl) W)) (cs (aR (bL (fJ rfl) (aK 1 rfl (aM st)) (aI 3 rfl) e2)) (aY (sJ (x:=⟨.lst (F.map aO),false,false,[]⟩) (y:=⟨.lst (G.map aO),false,false,[]⟩) ?_ ?_ eb))))⟩;refine aZ (aD 4 rfl) (aA _) ?_;show R.ok (Vl.sub _ (.lst (F.map aO)))=_;unfold Vl.sub;split <;> rfl;refine aZ (aD 5 rfl) (aA _) ?_;show R.ok (Vl.sub _ (.lst (G.map aO)))=_;unfold Vl.sub;split <;> rfl
theorem aHi(n:Nat)(hb:bs∈boxSet)(o:eP bs.length hs)(L:g.wf bs.length true)(U:g.sz<=31)(B:st∈standsL bs)(W:g.hold st st=true){ps:List (Nat×Nat)}(W0:Wov bs hs (st,bP hs) ps ss)(hp:ps.length<=100)(h:call pg (n+34) 36 [aQ bs g hs,aL st,.lst ds]=.exc e) :
 call pg (n+37) 56 [aQ bs g hs,aL st,.lst (ps.map aO),.lst ds]=.exc e:=by
 obtain⟨F,T,_,G⟩:=lG n hb o L U B W W0 hp
 let τ:Sl->Sl->Sg:=λs4 s5=>[.T (aQ bs g hs),.T (aL st),.T (.lst (ps.map aO)),.T (.lst ds),s4,s5]
 obtain⟨z,hz,I⟩:=pB (Z:=τ (.F (.tup [.lst (F.map aO),.lst (T.map D.int)])) .x) 3 rfl;exact gN rfl rfl (cs (aR (bL (fJ rfl) (aK 1 rfl (aM st)) (aI 2 rfl) G)) (cx (sZ (aAv (fJ rfl) (aK 1 rfl (aM st)) hz (by rw[I];exact qL h)))))
theorem aPl{v:Vl}(B:v.d=.lst ds)(n:noLs ds=true)(lo hi:Option Int):fA v lo hi=.ok ⟨.lst (cut ds lo hi),true,false,[]⟩:=by unfold fA;rw[B];show R.ok (Vl.mk (.lst (cut ds lo hi)) true (v.pa&&!noLs ds) (if noLs ds=true then [] else v.al))=_;rw[n,if_pos rfl,Dl,ED]
theorem aHj{a b:E}{v:Vl}{ds:List D}{k:Nat}(h:ev P W Z a=.ok v)(G:v.d=.lst ds)(n:noLs ds=true)(hb:ev P W Z b=.ok (.cl (.int (k:Int))))(B:k<=1000000):ev P W Z (.sli a .z (.k b .z))=.ok ⟨.lst (ds.take k),true,false,[]⟩:=by rw[xB,h,aH,hb,aH];show R.iff (aT (k:Int)) (fA v none (some (k:Int)))=_;rw[kZ B,aPl G n,aBD];rfl
theorem tB{a b:E}{v:Vl}{ds:List D}{k:Nat}(h:ev P W Z a=.ok v)(I:v.d=.lst ds)(n:noLs ds=true)(hb:ev P W Z b=.ok (.cl (.int (k:Int))))(G:k<=1000000):ev P W Z (.sli a (.k b .z) .z)=.ok ⟨.lst (ds.drop k),true,false,[]⟩:=by
 have B:evs P W Z (.k b .z)=.ok [.cl (.int (k:Int))]:=by rw[aF,hb];rfl
 show(ev P W Z a >>= λx=>evs P W Z (.k b .z) >>= λl=>evs P W Z .z >>= λh=>_)=_;rw[h,aH,B,aH,dE,aH];show R.iff (aT (k:Int)) (fA v (some (k:Int)) none)=_;rw[kZ G,aPl I n,aBE];rfl
theorem aBK(n:Nat)(hb:bs∈boxSet)(o:eP bs.length hs)(gw:g.wf bs.length true)(gz:g.sz<=31){st:List Int}(W:st∈standsL bs)(hg:g.hold st st=true){ps:List (Nat×Nat)}{ss:List St}(W0:Wov bs hs (st,bP hs) ps ss)(hp:ps.length<=100) :
 ∃r,call pg (n+36) 52 [aQ bs g hs,aL st,.lst (ps.map aO),.int ((0:Nat):Int)]=.ok r:=by
 obtain⟨l3,l4⟩:=dH hb
 let s0:=(st,bP hs)
 let K:=(Ap ps.length).map (pT ps ss s0)
 let B:Sl->Sg:=λs4=>[.T (aQ bs g hs),.T (aL st),.T (.lst (ps.map aO)),.T (.int ((0:Nat):Int)),s4]
 have k1:eX (n+35) (B .x) (hB 0 f52)=.next (B (.O K)):=bI (gR (fJ rfl) (aK 1 rfl (aM st)) (aI 2 rfl) (mL n hb o gw gz W hg W0 hp));have v4:eV (n+35) (B (.O K)) (.v 4)=.ok ⟨.lst K,false,false,[4]⟩:=bD 4 rfl;have G:eV (n+35) (B (.O K)) (.v 3)=.c (.int ((0:Nat):Int)):=aK 3 rfl rfl;have hl:=dJ v4 rfl;rw[show K.length=ps.length by simp[K]] at hl;have L:=cU (aMu (aA (.int 0)) G (dG hl (aA (.int 1)) (sub_int _ 1)));by_cases h2:2<=ps.length;rw[Ao ⟨by simp,by simp;omega⟩] at L;have tk:∀i,i<ps.length->∀{e:E},eV (n+35) (B (.O K)) e=.c (.int (i:Int))->eV (n+35) (B (.O K)) (.idx (.v 4) e)=.c (pT ps ss s0 i):=λi hi e U=>aZ v4 U ((nO rfl (D9 hi)).trans (congrArg R.ok (cS rfl)));have a0:=tk 0 (by omega) G;have a1:=tk 1 (by omega) (dC G (aA (.int 1)));rw[aHf W0 (by omega)] at a0 a1;have tt:=dZ L (cU (fZ (fJ (i:=0) rfl) a0 a1 (aGZ n l4 o (W0.at o (by omega)).2 (W0.at o (by omega)).2)));cases I:sY (ps.getD 0 (0,0)).1 (ps.getD 1 (0,0)).1 (wyS hs (ss.getD 0 s0) (ps.getD 0 (0,0))) (wyS hs (ss.getD 1 s0) (ps.getD 1 (0,0))) with
 | false=>rw[show sY (ps.getD 0 (0,0)).1 (ps.getD 1 (0,0)).1 (wyS hs (ss.getD 0 (st,bP hs)) (ps.getD 0 (0,0))) (wyS hs (ss.getD 1 (st,bP hs)) (ps.getD 1 (0,0)))=false from I] at tt;exact⟨_,aG (F:=f52) rfl rfl (cs k1 (dY tt (aY (aA _))))⟩|true=>rw[show sY (ps.getD 0 (0,0)).1 (ps.getD 1 (0,0)).1 (wyS hs (ss.getD 0 (st,bP hs)) (ps.getD 0 (0,0))) (wyS hs (ss.getD 1 (st,bP hs)) (ps.getD 1 (0,0)))=true from I] at tt;have ix:∀i,i<ps.length->∀{e:E},eV (n+35) (B (.O K)) e=.c (.int (i:Int))->eV (n+35) (B (.O K)) (.idx (.v 2) e)=.c (aO (ps.getD i (0,0))):=λi hi e U=>aZ (aI 2 rfl) U ((nO rfl (cB (0,0) hi)).trans (congrArg R.ok (cS rfl)));have q0:eV (n+35) (B (.O K)) (.op .Add (.v 3) (.i 2))=.c (.int ((2:Nat):Int)):=dC G (aA (.int 2));exact⟨_,aG (F:=f52) rfl rfl (cs k1 (cs (bQ tt) (aY (dG (dG (aHj (aI 2 rfl) rfl (bW (λ_=>rfl) ps) G (by omega)) (cH (aC (ix 1 (by omega) (dC G (aA (.int 1)))) (aC (ix 0 (by omega) G) aU))) (tQ rfl rfl rfl rfl (by simp[lim]))) (tB (aI 2 rfl) rfl (bW (λ_=>rfl) ps) q0 (by omega)) (tQ rfl rfl rfl (by rw[<-Cs];exact bW (λ_=>rfl) _) (by rw[Bs];simp[lim];omega))))))⟩
 rw[Az λw=>h2 (by have:=w.2;omega)] at L;exact⟨_,aG (F:=f52) rfl rfl (cs k1 (dY (aCM L) (aY (aA _))))⟩
theorem tD(L:List (Int×Int)):noLs (L.map stP)=true:=bW (λ_=>rfl) L
theorem aJm(n:Nat)(G:bs.length<=4)(o:eP bs.length hs)(so:SOk bs.length hs s):∃L:List (Int×Int),(∀p∈L,goneX bs hs s p=none)/\1<=L.length/\call pg (n+34) 57 [aQ bs g hs,aV s]=.ok (.lst (L.map stP),true,false):=by
 obtain⟨h2,h3⟩:=jG o
 let U:List (Int×Int)->Sl->Sg:=λL B=>[.T (aQ bs g hs),.T (aV s),.O (L.map stP),B]
 let L0:List (Int×Int):=[(-1,0),(hs.length,0),(0,-1),(0,9),(1,2)]
 obtain⟨Z',ef,L,B,g1,g2,rfl⟩:=dF (t:=.n 3) (b:=match hdS (drp 1 f57.body) with|.for _ _ b=>b|_=>.z) (λi Z=>∃L B,(-1,0)∈L/\L.length=5+2*i/\Z=U L B) (cC (aAn (i:=0) rfl) rfl (by omega)) ⟨L0,_,Ar,rfl,rfl⟩ λi hi Z ⟨L,B,g1,g2,I⟩=>by
  have q0:i<hs.length:=by simpa using hi
  subst I
  let M:List (Int×Int):=[(i,0),(i,1)]
  have m:=bI (i:=2) (dG (bD (P:=pg) (W:=cP (n+33)) (Z:=U L (.F (aN i))) 2 rfl) (cH (ds:=M.map stP) (aC (gQ (aD 3 rfl) (aA _)) (aC (gQ (aD 3 rfl) (aA _)) aU))) (tQ rfl rfl (tD L) (tD M) (by rw[lM,g2];simp[lim,M];omega)));rw[<-A7] at m;refine⟨U L (.F (aN i)),_,?_,bU m,L++M,_,Bc _ g1,by rw[lA,g2];simp[M];omega,rfl⟩;rw[AC,AN,fB];rfl
 refine⟨L.filter λp=>(goneX bs hs s p).isNone,λp hp=>Option.isNone_iff_eq_none.mp (BK.mp hp).2,List.length_pos_of_mem (BK.mpr ⟨g1,?_⟩),aG (F:=f57) rfl rfl (v:=⟨.lst ((L.filter λp=>(goneX bs hs s p).isNone).map stP),true,false,[]⟩) (cs (bI (cH (aC rfl (aC (bB (aC (aAn rfl) (aC (aA _) aU))) (aC rfl (aC rfl (aC rfl aU))))))) (cs ef (aY (aBq (al:=[2]) (λp=>Vl.cl (stP p)) stP (λp=>(goneX bs hs s p).isNone) (λ_=>rfl) ?_ (by rw[g2];simp[lim];omega) λp hp=>⟨[.F (stP p),.T (aQ bs g hs),.T (aV s)],rfl,bM (bL (fJ rfl) (aK 2 rfl (eL s)) (aD 0 rfl) (aAu n G o so p)) (aA .non) (by cases goneX bs hs s p <;> rfl),aD 0 rfl⟩))))⟩;rfl;rw[bZ,bD 2 rfl,aH];show R.ok (items _ (L.map stP),[2])=_;rw[cD (λ_=>rfl)]
theorem Wov.cut(W0:Wov bs hs s0 ps ss)(h:k<=ps.length):Wov bs hs s0 (ps.take k) (ss.take (k+1)):=by
 have G:=W0.len;have e:∀i,i<k+1->(ss.take (k+1)).getD i s0=ss.getD i s0:=λi hi=>by rw[Am,DL,if_pos hi,Am]
 refine⟨by rw[A8,A8];omega,by rw[e 0 (by omega)];exact W0.z,λi hi=>?_,λp hp=>W0.hd p (D1 hp),λi=>?_⟩;have B:i<k:=by rw[A8] at hi;omega
 rw[e i (by omega),e (i+1) (by omega),Am (l:=ps.take k),DL,if_pos B];exact W0.go i (by omega);by_cases hi:i<k+1;rw[e i hi];exact W0.ok i;rw[Am,BJ (by rw[A8];omega)];have:=W0.ok 0;rw[W0.z] at this;exact this
theorem jJ(ps:List (Nat×Nat)):(ps.map up).map stP=ps.map aO:=A4
theorem aAx(n:Nat)(hb:bs∈boxSet)(o:eP bs.length hs)(gw:g.wf bs.length true)(gz:g.sz<=31)(U:st∈standsL bs)(hg:g.hold st st=true){ps:List (Nat×Nat)}{ss:List St}(W0:Wov bs hs (st,bP hs) ps ss)(hp:ps.length<=100){xs:List Int}(hx:3<=xs.length) :
 ∃(k:Nat) (x:Int×Int) (qs:List (Int×Int)),k<=ps.length/\goneX bs hs (ss.getD k (st,bP hs)) x=none/\call pg (n+35) 58 [aQ bs g hs,aL st,.lst (ps.map aO),.lst (xs.map D.int)]=.ok (.tup [.lst (((ps.take k).map up++[x]++qs).map stP),aN k],false,false):=by
 obtain⟨l3,l4⟩:=dH hb
 let s0:=(st,bP hs)
 have hl:=W0.len
 let G:Sl->Sl->Sl->Sl->Sg:=λs4 W s6 s7=>[.T (aQ bs g hs),.T (aL st),.T (.lst (ps.map aO)),.T (.lst (xs.map D.int)),s4,W,s6,s7]
 let A:Sl:=.O (ss.map aV)
 have x:∀(k:Nat) s4 W s6 s7,k<3->eV (n+34) (G s4 W s6 s7) (.idx (.v 3) (.i (k:Int)))=.c (.int (xs.getD k 0)):=λk _ _ _ _ hk=>eY (aI 3 rfl) rfl (aA _) (by omega);obtain⟨k,ek,hk⟩:=xQ (xs.getD 0 0) (n:=ss.length) (by omega);have v4:∀{W s6 s7},eV (n+34) (G A W s6 s7) (.v 4)=.ok ⟨.lst (ss.map aV),false,false,[4]⟩:=bD 4 rfl;have k2:eX (n+34) (G A .x .x .x) (hB 1 f58)=.next (G A (.F (aN k)) .x .x):=by have:=dJ (@v4 .x .x .x) rfl;rw[lM] at this;have:=dR (x 0 A .x .x .x (by decide)) this (by omega);rw[ek] at this;exact aR this
 obtain⟨L,hL,h1,I⟩:=aJm n l4 o (W0.ok k)
 let B:Sl:=.O (L.map stP)
 obtain⟨y,hy,ey⟩:=mJ (f:=stP) (bD 6 rfl) rfl (x 1 _ _ _ _ (by decide)) h1 (λ_=>rfl)
 let F:=(ps.take k).map up++[y]++(ps.drop k).map up
 have eF:F.map stP=(ps.map aO).take k++[stP y]++(ps.map aO).drop k:=by rw[A7,A7,jJ,jJ,Dk,Cs];rfl
 have fl:F.length<=101:=by simp[F];omega
 have k4:eX (n+34) (G A (.F (aN k)) B .x) (hB 3 f58)=.next (G A (.F (aN k)) B (.O (F.map stP))):=by
  have na:noLs ((ps.map aO).take k++[stP y])=true:=by rw[<-Dk,show [stP y]=[y].map stP from rfl,<-jJ,<-A7];exact tD _
  rw[eF];exact bI (dG (dG (aHj (aI 2 rfl) rfl (bW (λ_=>rfl) ps) ((λ_ _=>aD 5 rfl) _ _) (by omega)) (cH (aC ey aU)) (tQ rfl rfl (by rw[<-Dk];exact bW (λ_=>rfl) _) rfl (by simp[lim];omega))) (tB (aI 2 rfl) rfl (bW (λ_=>rfl) ps) ((λ_ _=>aD 5 rfl) _ _) (by omega)) (tQ rfl rfl na (by rw[<-Cs];exact bW (λ_=>rfl) _) (by simp[lim];omega)))
 have t5:=bM (o:=.Eq) (dR (x 2 A (.F (aN k)) B (.O (F.map stP)) (by decide)) (aA (.int 2)) (by decide)) (aA (.int 0)) rfl;cases q:(xs.getD 2 0 % 2==0) with
 | false=>rw[q] at t5;exact⟨k,y,(ps.drop k).map up,by omega,hL y hy,aG (P:=pg) (f:=58) rfl rfl (v:=⟨.tup [.lst (F.map stP),aN k],false,false,[7]⟩) (cs (bI (gR (fJ rfl) (aK 1 rfl (aM st)) (aI 2 rfl) (oW n hb o gw gz U hg W0 hp))) (cs k2 (cs (bI (cG (fJ rfl) (vD v4 rfl ((λ_ _=>aD 5 rfl) _ _) (cB s0 hk) (eL _)) I)) (cs k4 (cs (bQ t5) (aY rfl))))))⟩|true=>rw[q] at t5;refine⟨k,y,(ps.drop k).map up++[(0,7)],by omega,hL y hy,?_⟩;rw[show(ps.take k).map up++[y]++((ps.drop k).map up++[(0,7)])=F++[(0,7)] from(BG _ _ _).symm];exact aG (P:=pg) (f:=58) (ds:=[aQ bs g hs,aL st,.lst (ps.map aO),.lst (xs.map D.int)]) rfl rfl (cs (bI (gR (fJ rfl) (aK 1 rfl (aM st)) (aI 2 rfl) (oW n hb o gw gz U hg W0 hp))) (cs k2 (cs (bI (cG (fJ rfl) (vD v4 rfl ((λ_ _=>aD 5 rfl) _ _) (cB s0 hk) (eL _)) I)) (cs k4 (cs (oU t5 (bU (fU rfl rfl (by rw[lM];unfold lim;omega) rfl (by rw[A7];rfl)))) (aY rfl))))))
theorem aAy(m:Nat):∀a b:List Int,eqL (eqF (m+1)) (a.map D.int) (b.map D.int)=some (decide (a=b))
 | [],[]=>rfl|[],_::_=>rfl|_::_,[]=>rfl|x::a,y::b=>by show(match some (x==y),eqL (eqF (m+1)) (a.map D.int) (b.map D.int) with|some x,some y=>some (x&&y)|_,_=>none)=_;rw[aAy m a b];refine congrArg some ?_;rw[Dg];simp
theorem aAz(k:List Int):∀B:List (List Int),mQ (aL k) (B.map aL)=some (decide (k∈B))
 | []=>rfl|a::B=>by show(match eqL (eqF 119) (a.map D.int) (k.map D.int),mQ (aL k) (B.map aL) with|some a,some b=>some (a||b)|_,_=>none)=_;rw[aAy 118,aAz k B];refine congrArg some ?_;rw[Dg];rw[B9,AA,AA,AA,As,eq_comm (a:=a)]
theorem vO:∀B:List (List Int),noDics (B.map aL)=true
 | []=>rfl|k::B=>by
  have h:∀l:List Int,noDics (l.map D.int)=true:=λl=>by
   induction l with
   | nil=>rfl|cons a l G=>exact G
  show(noDics (k.map D.int)&&noDics (B.map aL))=true;rw[h,vO B];rfl
section
variable {bs:List (Str×Int)} {g:Cn} {hs:List (List (List Way))}
abbrev rst(m:Nat):List D:=Af (m-2) (.int 0)
abbrev badS(bs:List (Str×Int)):List D:=
 let r:=rst bs.length
 [.tup ([.int 0]++r),.tup ([.int 0,.int 0,.int 0]++r),.tup ([.int 0,.int (gP bs 1+1)]++r),.tup ([.int 0,.int (-1)]++r)]++[.tup ([.int 0,.bl false]++r),.lst ([.int 0,.int 0]++r),.non,.tup ([.str "0",.int 0]++r)]++[.tup [],.tup ([.int 3,.int 0]++r)]
abbrev aJn(n:Nat)(bs:List (Str×Int))(g:Cn)(hs:List (List (List Way)))(d e:D):Prop:=tst pg (call pg (n+33)) [.T (aQ bs g hs),.T d,.T e,.x,.x,.x,.x] (.orr (.nt (.call 8 (.k (.idx (.v 0) (.i 0)) (.k (.v 1) .z)))) (.nt (.call 1 (.k (.idx (.v 0) (.i 1)) (.k (.v 1) (.k (.c .non) .z))))))=.ok true
theorem aMz(n:Nat)(hb:bs∈boxSet):∀d∈badS bs,call pg (n+33) 8 [.lst (aE bs),d]=.ok (.bl false,false,false):=by rcases box_six hb with rfl|rfl|rfl|rfl|rfl|rfl <;> (refine Bo.mpr ⟨rfl,Bo.mpr ⟨rfl,Bo.mpr ⟨rfl,Bo.mpr ⟨rfl,Bo.mpr ⟨rfl,Bo.mpr ⟨rfl,Bo.mpr ⟨rfl,Bo.mpr ⟨rfl,Bo.mpr ⟨rfl,Bo.mpr ⟨rfl,λ_ h=>absurd h AM⟩⟩⟩⟩⟩⟩⟩⟩⟩⟩)
theorem aMA(n:Nat)(hb:bs∈boxSet)(e:D){d:D}(h:d∈badS bs):aJn n bs g hs d e:=by
 refine aCM (cU (k:=false) ?_);obtain⟨v,B,hd⟩:=pB (P:=pg) (W:=call pg (n+33)) (Z:=[.T (aQ bs g hs),.T d,.T e,.x,.x,.x,.x]) 1 rfl;have w:evs pg (call pg (n+33)) [.T (aQ bs g hs),.T d,.T e,.x,.x,.x,.x] (.k (.idx (.v 0) (.i 0)) (.k (.v 1) .z))=.ok [⟨.lst (aE bs),false,true,[]⟩,v]:=by rw[aF,aBF rfl,aH,aF,B,aH,dE];rfl
 rw[eG,w,aH];show(call pg (n+33) 8 [.lst (aE bs),v.d] >>= λr=>iJ (iU _ r))=_;rw[hd,aMz n hb d h];rfl
theorem aMB(n:Nat)(hb:bs∈boxSet)(G:g.wf bs.length true)(I:g.sz<=31)(e:D){st:List Int}(B:st∈standsL bs)(L:g.hold st st=false):aJn n bs g hs (aL st) e:=by
 refine dZ (cU (k:=true) ?_) (cU (k:=false) (fZ (aGN rfl) (aK 1 rfl (aM st)) (aA _) (by
  have:=kJ (n+2) (iQ B).1 G I;rw[L] at this;exact this)))
 have w:evs pg (call pg (n+33)) [.T (aQ bs g hs),.T (aL st),.T e,.x,.x,.x,.x] (.k (.idx (.v 0) (.i 0)) (.k (.v 1) .z))=.ok [⟨.lst (aE bs),false,true,[]⟩,.cl (aL st)]:=by rw[aF,aBF rfl,aH,aF,aK 1 rfl (aM st),aH,dE];rfl
 rw[eG,w,aH];show(call pg (n+33) 8 [.lst (aE bs),aL st] >>= λr=>iJ (iU _ r))=_;rw[jH (n+30) hb B];rfl
theorem aJo{P:Pg}{W:Caller}{Z:Sg}(hb:bs∈boxSet)(h:Z[2]? = some (.T (.lst (aE bs)))):ev P W Z (.op .Mult (.tup (.k (.i 0) .z)) (.op .Sub (.bi .len (.k (.v 2) .z)) (.i 2)))=.ok (.cl (.tup (rst bs.length))):=by
 obtain⟨G,I⟩:=dH hb;have B:=dG (o:=.Sub) (dJ (aI (P:=P) (W:=W) 2 h) rfl) (aA (.int 2)) (sub_int _ 2);rw[show(aE bs).length=bs.length from lM _] at B;have:bs.length=3\/bs.length=4:=by omega
 rcases this with z|z;rw[z] at B ⊢;exact dG (bB (ds:=[.int 0]) (aC (aA _) aU)) B rfl;rw[z] at B ⊢;exact dG (bB (ds:=[.int 0]) (aC (aA _) aU)) B rfl
theorem xW(n:Nat)(hb:bs∈boxSet)(gw:g.wf bs.length true)(gz:g.sz<=31){xs:List Int}(hx:4<=xs.length):∃d:D,(∀n e,aJn n bs g hs d e)/\call pg (n+33) 59 [aQ bs g hs,.lst (xs.map D.int)]=.ok (d,false,false):=by
 obtain⟨l3,l4⟩:=dH hb
 let G:=(standsL bs).filter λst=>g.hold st st
 let U:=(standsL bs).filter λst=>!decide (st∈G)
 have q0:(standsL bs).length<=24:=by have:=aGn (nQ hb) bs.length (Al _);rwa [BZ] at this
 have hU:U.length<=24:=AJ (DW ..) q0
 let r:=rst bs.length
 have rl:r.length<=2:=by rw[A9];omega
 have nr:noLs r=true:=by
  have:bs.length=3\/bs.length=4:=by omega
  show noLs (rst bs.length)=true;rcases this with z|z <;> rw[z] <;> rfl
 let I:Sl->Sl->Sl->Sl->Sl->Sl->Sg:=λs2 s3 s4 s5 s6 s7=>[.T (aQ bs g hs),.T (.lst (xs.map D.int)),s2,s3,s4,s5,s6,s7]
 let A:Sl:=.T (.lst (aE bs))
 let T:Sl:=.F (.int (gP bs 1))
 let C:Sl:=.O (G.map aL)
 let O:Sl:=.O (U.map aL)
 let Q:Sl:=.F (.tup r)
 have v2:∀s3 s4 s5 s6 s7,ev pg (call pg (n+32)) (I A s3 s4 s5 s6 s7) (.v 2)=.ok ⟨.lst (aE bs),false,true,[]⟩:=λ_ _ _ _ _=>aI 2 rfl;obtain⟨b,_,b1,b2⟩:=xL (bs:=bs) (k:=1) (by omega);have k4:ex pg (call pg (n+32)) (I A T C .x .x .x) (hdS (drp 3 f59.body))=.next (I A T C O .x .x):=by refine bI (aBq (ts:=standsL bs) (al:=[]) (λst=>Vl.cl (aL st)) aL (λst=>!decide (st∈G)) aM ?_ (by unfold lim;omega) λst q2=>⟨[.F (aL st),C],rfl,bM (aD 0 rfl) (bD 1 rfl) ?_,aD 0 rfl⟩);rw[bZ,cW (v2 _ _ _ _ _) (vA (P:=pg) (f:=7) rfl (n+31) (nQ hb)),aH];show R.ok (items _ ((standsL bs).map aL),[])=_;rw[cD aM];show(if noDics (G.map aL)=true then mQ (aL st) (G.map aL) else none).map (!·)=_;rw[vO,if_pos rfl,aAz];rfl
 have k5:ex pg (call pg (n+32)) (I A T C O .x .x) (hdS (drp 4 f59.body))=.next (I A T C O Q .x):=aR (aJo hb rfl);have v6:∀s7,ev pg (call pg (n+32)) (I A T C O Q s7) (.v 6)=.ok (.cl (.tup r)):=λ_=>aD 6 rfl;have ad:∀{s7:Sl} {a:E} {l:List D},l.length<=3->ev pg (call pg (n+32)) (I A T C O Q s7) a=.ok (.cl (.tup l))->ev pg (call pg (n+32)) (I A T C O Q s7) (.op .Add a (.v 6))=.ok (.cl (.tup (l++r))):=λ{s7 a l} hl h=>dG h (v6 _) (by
  show R.iff (decide (l.length+r.length<=lim)) (.ok (Vl.mk (.tup (l++r)) false (false||false) ([]++[])))=_;rw[Ao (by unfold lim;omega)];rfl)
 let B:List D:=[.tup ([.int 0]++r),.tup ([.int 0,.int 0,.int 0]++r),.tup ([.int 0,.int (gP bs 1+1)]++r),.tup ([.int 0,.int (-1)]++r)]
 let L2:List D:=[.tup ([.int 0,.bl false]++r),.lst ([.int 0,.int 0]++r),.non,.tup ([.str "0",.int 0]++r)]
 let L3:List D:=[.tup [],.tup ([.int 3,.int 0]++r)]
 have nc:∀l:List D,noLs l=true->noL (.tup (l++r))=true:=λl hl=>by
  show noLs (l++r)=true;have:∀l:List D,noLs l=true->noLs (l++r)=true:=λl=>by
   induction l with
   | nil=>exact λ_=>nr|cons a l ih=>intro h;rw[noLs,bA] at h;show(noL a&&noLs (l++r))=true;rw[h.1,ih h.2];rfl
  exact this l hl
 have n1:noLs B=true:=by show(noL (.tup ([.int 0]++r))&&(noL (.tup ([.int 0,.int 0,.int 0]++r))&&(noL (.tup ([.int 0,.int (gP bs 1+1)]++r))&&(noL (.tup ([.int 0,.int (-1)]++r))&&true))))=true;rw[nc _ rfl,nc _ rfl,nc _ rfl,nc _ rfl];rfl
 have e2:ev pg (call pg (n+32)) (I A T C O Q (.O B)) (match hdS (drp 6 f59.body) with|.set _ (.op _ _ e)=>e|_=>.c .non)=.ok ⟨.lst L2,true,false,[]⟩:=by
  have a1:=ad (s7:=.O B) (by decide) (bB (ds:=[.int 0,.bl false]) (aC (aA _) (aC (aA _) aU)));have a4:=ad (s7:=.O B) (by decide) (bB (ds:=[.str "0",.int 0]) (aC (aA _) (aC (aA _) aU)));have a2:ev pg (call pg (n+32)) (I A T C O Q (.O B)) (.op .Add (.lst (.k (.i 0) (.k (.i 0) .z))) (.bi .list (.k (.v 6) .z)))=.ok ⟨.lst ([.int 0,.int 0]++r),true,false,[]⟩:=by refine dG (cH (ds:=[.int 0,.int 0]) (aC (aA _) (aC (aA _) aU))) (dI (v6 _) (z:=⟨.lst r,true,false,[]⟩) ?_) (tQ rfl rfl rfl nr (by simp[lim];omega));show R.ok (Vl.mk (.lst r) true (false&&!noLs r) (if noLs r=true then [] else []))=_;rw[nr];rfl
  show ev pg (call pg (n+32)) _ (.lst _)=_;rw[xA,aF,a1,aH,aF,a2,aH,aF,aA,aH,aF,a4];rfl
 have k7:ex pg (call pg (n+32)) (I A T C O Q (.O B)) (hdS (drp 6 f59.body))=.next (I A T C O Q (.O (B++L2))):=by refine bI (dG (bD 7 rfl) e2 ?_);show R.iff (decide (B.length+L2.length<=lim)) (.ok (Vl.mk (.lst (B++L2)) true ((false&&!noLs B)||(false&&!noLs L2)) ((if noLs B then [] else [7])++(if noLs L2 then [] else []))))=_;rw[n1,Ao (by show 8<=1000000;decide)];cases noLs L2 <;> rfl
 have q1:noLs (B++L2)=false:=by show(noL _&&(noL _&&(noL _&&(noL _&&(noL _&&(false&&_))))))=false;rw[E8];simp only[ED]
 let L:=B++L2++L3++U.map aL
 have k8:ex pg (call pg (n+32)) (I A T C O Q (.O (B++L2))) (hdS (drp 7 f59.body))=.next (I A T C O Q (.O L)):=by
  have e3:=cH (ds:=L3) (aC (bB (ds:=[]) aU) (aC (ad (s7:=.O (B++L2)) (by decide) (bB (ds:=[.int 3,.int 0]) (aC (aA _) (aC (aA _) aU)))) aU));have e4:=dG (o:=.Add) (z:=⟨.lst (B++L2++L3),true,false,[7]⟩) (bD (P:=pg) (W:=call pg (n+32)) (Z:=I A T C O Q (.O (B++L2))) 7 rfl) e3 (by
   show R.iff (decide ((B++L2).length+L3.length<=lim)) (.ok (Vl.mk (.lst (B++L2++L3)) true ((false&&!noLs (B++L2))||(false&&!noLs L3)) ((if noLs (B++L2) then [] else [7])++(if noLs L3 then [] else []))))=_;rw[q1,Ao (by show 10<=1000000;decide)];cases noLs L3 <;> rfl)
  have n3:noLs (B++L2++L3)=false:=by show(noL _&&(noL _&&(noL _&&(noL _&&(noL _&&(false&&_))))))=false;rw[E8];simp only[ED]
  have e5:=dG (o:=.Add) (z:=⟨.lst L,true,false,[7]⟩) e4 (bD 5 (pa:=false) (ds:=U.map aL) rfl) (by
   show R.iff (decide ((B++L2++L3).length+(U.map aL).length<=lim)) (.ok (Vl.mk (.lst L) true ((false&&!noLs (B++L2++L3))||(false&&!noLs (U.map aL))) ((if noLs (B++L2++L3) then [] else [7])++(if noLs (U.map aL) then [] else [5]))))=_;rw[n3,bW aM,Ao (by rw[lM];show 10+U.length<=1000000;omega)];rfl)
  show ex pg (call pg (n+32)) _ (.set (.n 7) _)=_;rw[kE,e5];rfl
 have v7:ev pg (call pg (n+32)) (I A T C O Q (.O L)) (.v 7)=.ok ⟨.lst L,false,false,[7]⟩:=bD 7 rfl;have hn:=dJ v7 rfl;have l1:1<=L.length:=by rw[lA];show 1<=10+_;omega
 obtain⟨k,ek,hk⟩:=xQ (xs.getD 3 0) (n:=L.length) l1;have hm:=dR (eY (k:=3) (aI 1 rfl) rfl (aA _) (by omega)) hn (by omega);rw[ek] at hm;have ei:=aZ v7 hm (z:=Vl.sub ⟨.lst L,false,false,[7]⟩ L[k]) (by
  unfold eA;simp only[bT,iG,fL hk,Ae hk])
 have hd:(Vl.sub ⟨.lst L,false,false,[7]⟩ L[k]).d=L[k]/\(Vl.sub ⟨.lst L,false,false,[7]⟩ L[k]).fr=false/\(Vl.sub ⟨.lst L,false,false,[7]⟩ L[k]).pa=false:=by unfold Vl.sub;split <;> exact⟨rfl,rfl,rfl⟩
 refine⟨L[k],λn e=>?_,?_⟩;rcases B8.mp (AI hk) with z|z;exact aMA n hb e z;obtain⟨st,h1,h2⟩:=A0.mp z;rw[<-h2];have h3:=BK.mp h1;refine aMB n hb gw gz e h3.1 ?_;have:¬ st∈G:=by simpa using h3.2
 rw[BK] at this;cases q:g.hold st st with
 | false=>rfl|true=>exact absurd ⟨h3.1,q⟩ this
 have:=aG (P:=pg) (W:=call pg (n+32)) (f:=59) (F:=f59) (ds:=[aQ bs g hs,.lst (xs.map D.int)]) rfl rfl (cs (aBu (aBF rfl)) (cs (aR (aZ (aZ (v2 _ _ _ _ _) (aA (.int 1)) b1) (aA (.int 1)) b2)) (cs (bI (cG (v2 _ _ _ _ _) (aGN rfl) (lP n hb gw gz))) (cs k4 (cs k5 (cs (bI (cH (aC (ad (by decide) (bB (ds:=[.int 0]) (aC (aA _) aU))) (aC (ad (by decide) (bB (ds:=[.int 0,.int 0,.int 0]) (aC (aA _) (aC (aA _) (aC (aA _) aU))))) (aC (ad (l:=[.int 0,.int (gP bs 1+1)]) (by show 2<=3;decide) (bB (ds:=[.int 0,.int (gP bs 1+1)]) (aC (aA _) (aC (dC (aD 3 rfl) (aA _)) aU)))) (aC (ad (by decide) (bB (ds:=[.int 0,.int (-1)]) (aC (aA _) (aC rfl aU)))) aU)))))) (cs k7 (cs k8 (aY ei)))))))));rw[hd.1,hd.2.1,hd.2.2] at this;exact this
end
inductive Tel:R Rt->D->Prop
 | ok (r:Rt):Tel (.ok r) (.str "told")
 | st (k:Int):Tel (.exc (.err "NoStep" [.int k])) (.int k)
 | no:Tel (.exc (.err "NoStart" [])) (.str "start")
theorem iA(h:ev P W Z a=.ok x)(t:evs P W Z es=.ok vs):evs P W Z (.k a es)=.ok (x::vs):=by rw[aF,h,aH,t];rfl
theorem qM{vs:List Vl}(h:evs P W Z es=.ok vs):exs P W Z (.k (.ex (.call f es)) .z)=O.from Z (W f (vs.map (·.d))) λ_=>.next Z:=by rw[cN,aJK,eH,h,aH];cases W f (vs.map (·.d)) <;> rfl
theorem aMC(h:tst P W Z c=.ok true):exs P W Z (.k (.iff c a b) .z)=exs P W Z a:=by rw[cN,gM,h,dD,if_pos rfl];cases exs P W Z a <;> rfl
theorem aEh(h:tst P W Z c=.ok false):exs P W Z (.k (.iff c a b) .z)=exs P W Z b:=by rw[cN,gM,h,dD,if_neg bN];cases exs P W Z b <;> rfl
abbrev tdB:Ss:=match hdS (drp 1 f60.body) with|.tryA b _ _ _=>b|_=>.z
abbrev tdS(i h s a b:D)(e:Sl):Sg:=[.T i,.T h,.T s,.T a,.T b,e,.x]
theorem qN(n:Nat)(e:exs pg (call pg n) (tdS i h s a b (.F .non)) tdB=O.from (tdS i h s a b (.F .non)) cc λ_=>.next (tdS i h s a b (.F .non)))(t:Tel cc d):call pg (n+1) 60 [i,h,s,a,b]=.ok (d,false,false):=by
 let B:=tdS i h s a b
 have k2:∀{Z':Sg},(match O.from (B (.F .non)) cc λ_=>.next (B (.F .non)) with|.exc x Z'=>aDo pg "PromiseError" 5 6 x Z'|o=>o)=.next Z'->eX n (B (.F .non)) (hB 1 f60)=.next Z':=λ{Z'} q=>by show ex pg (cP n) (B (.F .non)) (.tryA tdB "PromiseError" 5 6)=_;rw[aMh,e];exact q
 cases t with
 | ok r=>exact aG (F:=f60) rfl rfl (cs (aR (aA _)) (cs (k2 rfl) (dY (bM (aD 5 rfl) (aA .non) rfl) (aY (aA _)))))|st k=>exact aG rfl rfl (v:=.cl (.int k)) (cs (aR (aA _)) (cs (k2 rfl) (cs (bQ rfl) (cs (bQ rfl) (dY rfl (aY rfl))))))|no=>exact aG (F:=f60) rfl rfl (cs (aR (aA _)) (cs (k2 rfl) (cs (bQ rfl) (cs (bQ rfl) (cs (bQ rfl) (dY rfl (aY (aA _))))))))
theorem qO:∃x y z w:Vl,x.d=h/\y.d=s/\z.d=a/\w.d=b/\∀i,ev pg (call pg n) (tdS i h s a b (.F .non)) (.v 1)=.ok x/\ev pg (call pg n) (tdS i h s a b (.F .non)) (.v 2)=.ok y/\ev pg (call pg n) (tdS i h s a b (.F .non)) (.v 3)=.ok z/\ev pg (call pg n) (tdS i h s a b (.F .non)) (.v 4)=.ok w:=
 ⟨_,_,_,_,rfl,rfl,rfl,rfl,λ_=>⟨rfl,rfl,rfl,rfl⟩⟩
theorem aHk(t:Tel (call pg n 38 [h,s,a]) d):call pg (n+1) 60 [.int ((0:Nat):Int),h,s,a,b]=.ok (d,false,false):=by obtain⟨x,y,z,w,rfl,rfl,rfl,rfl,v⟩:=qO (h:=h) (s:=s) (a:=a) (b:=b);obtain⟨B,G,I,L⟩:=v (.int ((0:Nat):Int));exact qN n ((aMC (bM (aK 0 rfl rfl) (aA _) rfl)).trans (qM (iA B (iA G (iA I dE))))) t
theorem aHl(t:Tel (call pg n 52 [h,s,a,.int ((0:Nat):Int)]) d):call pg (n+1) 60 [.int ((1:Nat):Int),h,s,a,b]=.ok (d,false,false):=by obtain⟨x,y,z,w,rfl,rfl,rfl,rfl,v⟩:=qO (h:=h) (s:=s) (a:=a) (b:=b);obtain⟨B,G,I,L⟩:=v (.int ((1:Nat):Int));exact qN n ((aEh (bM (aK 0 rfl rfl) (aA _) rfl)).trans ((aMC (bM (aK 0 rfl rfl) (aA _) rfl)).trans (qM (iA B (iA G (iA I (iA (aA _) dE))))))) t
theorem aHm(t:Tel (call pg n 53 [h,s,a]) d):call pg (n+1) 60 [.int ((2:Nat):Int),h,s,a,b]=.ok (d,false,false):=by obtain⟨x,y,z,w,rfl,rfl,rfl,rfl,v⟩:=qO (h:=h) (s:=s) (a:=a) (b:=b);obtain⟨B,G,I,L⟩:=v (.int ((2:Nat):Int));exact qN n ((aEh (bM (aK 0 rfl rfl) (aA _) rfl)).trans ((aEh (bM (aK 0 rfl rfl) (aA _) rfl)).trans ((aMC (bM (aK 0 rfl rfl) (aA _) rfl)).trans (qM (iA B (iA G (iA I dE))))))) t
theorem aHn(t:Tel (call pg n 56 [h,s,a,b]) d):call pg (n+1) 60 [.int 3,h,s,a,b]=.ok (d,false,false):=by obtain⟨x,y,z,w,rfl,rfl,rfl,rfl,v⟩:=qO (h:=h) (s:=s) (a:=a) (b:=b);obtain⟨B,G,I,L⟩:=v (.int 3);exact qN n ((aEh (bM (aK 0 rfl rfl) (aA _) rfl)).trans ((aEh (bM (aK 0 rfl rfl) (aA _) rfl)).trans ((aEh (bM (aK 0 rfl rfl) (aA _) rfl)).trans (qM (iA B (iA G (iA I (iA L dE)))))))) t
theorem aCX(n:Nat)(L:List (Int×Int)):okE (n+3) (.lst (L.map stP))=true:=by show(L.map stP).all (okE (n+2))=true;rw[FE,AO];intro t _;rfl
theorem aCY(ds:List D)(h:noLs ds=true):biD .list [⟨.lst ds,false,true,[]⟩]=.ok ⟨.lst ds,true,false,[]⟩:=by show R.ok (Vl.mk (.lst ds) true (true&&!noLs ds) (if noLs ds=true then [] else []))=_;rw[h];rfl
theorem aCZ{x y z w u:Vl}(h1:ev P W Z a=.ok x)(h2:ev P W Z b=.ok y)(B:ev P W Z c=.ok z)(G:ev P W Z e=.ok w)(I:ev P W Z g=.ok u)(L:W f [x.d,y.d,z.d,w.d,u.d]=.ok (d,false,false)){v:Vl}(hr:ev P W Z r=.ok v)(U:v.d=d)(hd:eqD d d=some true):tst P W Z (.cmp .NotEq (.call f (.k a (.k b (.k c (.k e (.k g .z)))))) r)=.ok false:=by refine bM (jF h1 h2 B G I L) hr ?_;rw[U];exact aOW hd
abbrev Pl(d:D):Prop:=noL d=true/\eqD d d=some true
theorem tE(s:Str):Pl (.str s):=⟨rfl,congrArg some (beq_self_eq_true s)⟩
theorem aBL(k:Int):Pl (.int k):=⟨rfl,congrArg some (beq_self_eq_true k)⟩
theorem tF(n:Nat){A B:List (Int×Int)}(pa:Pl a)(pb:Pl b)(pc:Pl c)(t0:∀i:Nat,i<3->call pg n 60 [.int (i:Int),h,s,.lst (A.map stP),.lst (B.map stP)]=.ok (a,false,false))(t3:call pg n 60 [.int 3,h,s,.lst (A.map stP),.lst (B.map stP)]=.ok (c,false,false))(hc:(eqD a (.str "told")=some true/\c=b)\/(eqD a (.str "told")=some false/\c=a)) :
 call pg (n+1) 61 [h,s,.lst [.lst (A.map stP),.lst (B.map stP)],.lst [a,b]]=.ok (.bl true,false,false):=by
 let L:Sl->Sl->Sl->Sg:=λs4 G I=>[.T h,.T s,.T (.lst [.lst (A.map stP),.lst (B.map stP)]),.T (.lst [a,b]),s4,G,I]
 let M:Sl:=.O [.lst (A.map stP),.lst (B.map stP)]
 obtain⟨x,y,hx,hy,U⟩:∃x y:Vl,x.d=h/\y.d=s/\∀s4 G I,eV n (L s4 G I) (.v 0)=.ok x/\eV n (L s4 G I) (.v 1)=.ok y:=⟨_,_,rfl,rfl,λ_ _ _=>⟨rfl,rfl⟩⟩
 have k1:eX n (L .x .x .x) (hB 0 f61)=.next (L M .x .x):=by refine bI ?_;rw[xA,aF,(dI rfl (aCY _ (tD A))),aH,aF,(dI rfl (aCY _ (tD B)))];rfl
 have v3:∀{G I},eV n (L M G I) (.v 3)=.ok ⟨.lst [a,b],false,true,[]⟩:=aI 3 rfl;have d0:∀{G I},eV n (L M G I) (.idx (.v 3) (.i 0))=.c a:=aZ v3 (aA _) (congrArg R.ok (cS pa.1));have d1:∀{G I},eV n (L M G I) (.idx (.v 3) (.i 1))=.c b:=aZ v3 (aA _) (congrArg R.ok (cS pb.1));obtain⟨Z',ef,G,rfl⟩:=dF (t:=.n 5) (b:=match hdS (drp 1 f61.body) with|.for _ _ b=>b|_=>.z) (λi Z=>∃G,Z=L M G .x) (cC (aA (.int 3)) rfl (by decide)) ⟨_,rfl⟩ λi hi Z ⟨G,q0⟩=>by subst q0;refine⟨L M (.F (aN i)) .x,_,?_,bU (bQ (aCZ (aD 5 rfl) (U _ _ _).1 (U _ _ _).2 rfl rfl (by rw[hx,hy];exact t0 i (by simpa using hi)) d0 rfl pa.2)),_,rfl⟩;rw[AC,AN,fB];rfl
 have W:∀{I:Sl},I=.F c->eS n (L M G I) (drp 4 f61.body)=.ret (.cl (.bl true)):=λ{I} q=>by subst q;refine cs (bQ (aCZ (aA _) (U _ _ _).1 (U _ _ _).2 rfl rfl (by rw[hx,hy];exact t3) (aD 6 rfl) rfl pc.2)) (aY (sJ (bD 4 rfl) (aI 2 rfl) (aAk _ _ ?_)));show(okE 119 (.lst (A.map stP))&&(okE 119 (.lst (B.map stP))&&true))=true;rw[aCX 116,aCX 116];rfl
 rcases hc with⟨q,rfl⟩|⟨q,rfl⟩
 exact aG (F:=f61) rfl rfl (cs k1 (cs ef (cs (aR d0) (cs (oU (bM (aD 6 rfl) (aA _) q) (bU (aR d1))) (W rfl)))));exact aG (F:=f61) rfl rfl (cs k1 (cs ef (cs (aR d0) (cs (bQ (bM (aD 6 rfl) (aA _) q)) (W rfl)))))
inductive Rw (bs:List (Str×Int)) (hs:List (List (List Way))) (st:List Int):List (Int×Int)->D->Prop
 | good {ps:List (Nat×Nat)} {ss:List St} (W0:Wov bs hs (st,bP hs) ps ss) (hp:ps.length<=100):Rw bs hs st (ps.map up) (.str "told")
 | bad {ps:List (Nat×Nat)} {ss:List St} (W0:Wov bs hs (st,bP hs) ps ss) (hp:ps.length<=100) {x:Int×Int} (hx:goneX bs hs (ss.getD ps.length (st,bP hs)) x=none) (qs:List (Int×Int)):Rw bs hs st (ps.map up++[x]++qs) (aN ps.length)
theorem Rw.pl(r:Rw bs hs st A a):Pl a:=by
 cases r with
 | good=>exact tE _|bad=>exact aBL _
theorem xX(h:c=.ok r):Tel c (.str "told"):=h▸.ok r
theorem tG(h:c=.exc (.err "NoStep" [.int k])):Tel c (.int k):=h▸.st k
theorem xY(h:c=.exc (.err "NoStart" [])):Tel c (.str "start"):=h▸.no
theorem lt3{p:Nat->Prop}(B:p 0)(h1:p 1)(h2:p 2)(i:Nat)(h:i<3):p i:=by
 have:i=0\/i=1\/i=2:=by omega
 rcases this with rfl|rfl|rfl;exact B;exact h1;exact h2
theorem aEi(n:Nat)(hb:bs∈boxSet)(o:eP bs.length hs)(I:g.wf bs.length true)(L:g.sz<=31)(G:st∈standsL bs)(U:g.hold st st=true){A B:List (Int×Int)}(r:Rw bs hs st A a)(q:Rw bs hs st B b) :
 call pg (n+39) 61 [aQ bs g hs,aL st,.lst [.lst (A.map stP),.lst (B.map stP)],.lst [a,b]]=.ok (.bl true,false,false):=by
 cases r with
 | good W0 hp=>
  refine tF (n+38) (tE _) q.pl q.pl ?_ (aHn ?_) (.inl ⟨rfl,rfl⟩);rw[jJ];obtain⟨F,T,_,e2⟩:=lG (n+1) hb o I L G U W0 hp;obtain⟨r1,e1⟩:=aBK (n+1) hb o I L G U W0 hp;exact lt3 (aHk (xX (mL (n+2) hb o I L G U W0 hp))) (aHl (xX e1)) (aHm (xX e2));rw[jJ];cases q with
  | good V W=>obtain⟨r3,e3⟩:=aEg n hb o I L G U W0 hp V W;rw[jJ];exact xX e3|bad V W hx qs=>exact tG (aHi n hb o I L G U W0 hp (pM n hb o I L G U V W hx qs))
 | bad W0 hp hx qs=>have e:=λm=>pM m hb o I L G U W0 hp hx qs;exact tF (n+38) (aBL _) q.pl (aBL _) (lt3 (aHk (tG (nY (e (n+2))))) (aHl (tG (aAw (e (n+1))))) (aHm (tG (qL (e (n+1)))))) (aHn (tG (aCW (e n)))) (.inr ⟨rfl,rfl⟩)
theorem aHo(n:Nat)(h:∀n e,aJn n bs g hs d e)(A B:List (Int×Int)):call pg (n+39) 61 [aQ bs g hs,d,.lst [.lst (A.map stP),.lst (B.map stP)],.lst [.str "start",.str "start"]]=.ok (.bl true,false,false):=by exact tF (n+38) (tE _) (tE _) (tE _) (lt3 (aHk (xY (nY ((λm=>nX m (h m _)) (n+2))))) (aHl (xY (aAw ((λm=>nX m (h m _)) (n+1))))) (aHm (xY (qL ((λm=>nX m (h m _)) (n+1)))))) (aHn (xY (aCW ((λm=>nX m (h m _)) n)))) (.inr ⟨rfl,rfl⟩)
abbrev zeC(k:Nat):Cn:=.cmp true (.box k) (.num 0)
theorem aPm(hb:bs∈boxSet)(B:k<3):1<=((standsL bs).filter λst=>(zeC k).hold st st).length:=by
 have:k=0\/k=1\/k=2:=by omega
 rcases this with rfl|rfl|rfl <;> rcases box_six hb with rfl|rfl|rfl|rfl|rfl|rfl <;> decide +kernel
theorem aAA{P:Pg}{W:Caller}{Z:Sg}{i j:Nat}{k e:E}{ds:List D}{v:Vl}(I:ev P W Z e=.ok v)(hp:v.pa=false)(G:v.al=[])(U:ev P W Z k=.ok (.cl (.int (j:Int))))(hi:Z[i]? = some (.O ds))(L:j<ds.length)(hl:ds.length<=100):ex P W Z (.setIx i k e)=.next (Z.set i (.O (ds.set j v.d))):=by
 have B:ds.length<=lim:=by unfold lim;omega
 simp only[bT,aAc,I,U,dD,iG,put,G,jD,jS,hi,(fL L),AF,B,if_true,hp,G3]
theorem aMD(h:ev P W Z a=.ok ⟨d,true,false,[]⟩):ev P W Z (.lst (.k a .z))=.ok ⟨.lst [d],true,false,[]⟩:=by rw[xA,aF,h];rfl
theorem pure(ns:List Int)(hn:ns.length<=63):∃fr pa,call pg 60 62 [.lst (ns.map D.int)]=.ok (.bl true,fr,pa):=by
 refine⟨false,false,aG rfl rfl (v:=.cl (.bl true)) ?_⟩;obtain⟨bs,hb,p,hs,o,q5⟩:=aBC 17 hn;obtain⟨l3,l4⟩:=dH hb
 let xs:=sK ((ns++[0]).getD 0 0) 17
 have xl:xs.length=17:=iN _ _;obtain⟨k,ek,hk⟩:=xQ (xs.getD 10 0) (n:=3) (by decide)
 let g:=zeC k
 have gw:g.wf bs.length true:=⟨by show k<bs.length;omega,by decide,by decide⟩
 have gz:g.sz<=31:=by show 3<=31;decide
 let H:D:=aQ bs g hs
 let X:Sl:=.O (xs.map D.int)
 let Y:Sl:=.F (Sm.box k).d
 let Z0:Sl:=.F g.d
 let τ:Sl->Sl->Sl->Sl->Sl->Sl->Sl->Sl->Sl->Sg:=λs1 s2 s3 s4 s5 s6 s7 I G=>[.T (.lst (ns.map D.int)),s1,s2,s3,s4,s5,s6,s7,I,G]
 let J:Sl:=.F (aQ bs (gU p) hs)
 have x:∀(k:Nat) s1 s3 s4 s5 s6 s7 I G,k<17->eV 59 (τ s1 X s3 s4 s5 s6 s7 I G) (.idx (.v 2) (.i (k:Int)))=.c (.int (xs.getD k 0)):=λk _ _ _ _ _ _ _ _ hk=>eY (bD 2 rfl) rfl (aA _) (by omega);have k3:eX 59 (τ J X .x .x .x .x .x .x .x) (hB 2 f62)=.next (τ J X Y .x .x .x .x .x .x):=by have:=dR (x 10 J .x .x .x .x .x .x .x (by decide)) (aA (.int 3)) (by decide);rw[show xs.getD 10 0 % 3=(k:Int) from ek] at this;exact aR (gQ (aA _) this)
 let K:Sl:=.F H
 have k5:eX 59 (τ J X Y Z0 .x .x .x .x .x) (hB 4 f62)=.next (τ K X Y Z0 .x .x .x .x .x):=by exact aR (jF (aZ (aD 1 rfl) (aA (.int 0)) rfl) (aD 4 rfl) (aZ (aD 1 rfl) (aA (.int 2)) rfl) (aZ (aD 1 rfl) (aA (.int 3)) rfl) (aZ (aD 1 rfl) (aA (.int 4)) rfl) (nT 18 hb gw gz o))
 obtain⟨st,q0,hg,q6⟩:=aEc 26 hb hn gw gz (aPm hb hk)
 let S:Sl:=.F (aL st)
 let L:Sl->Sl->Sl->Sl->Sg:=λs6 s7 I G=>τ K X Y Z0 S s6 s7 I G
 have v1:∀{s6 s7 I G},eV 59 (L s6 s7 I G) (.v 1)=.c H:=aD 1 rfl;have v5:∀{s6 s7 I G},eV 59 (L s6 s7 I G) (.v 5)=.c (aL st):=aD 5 rfl;obtain⟨m,em,hm⟩:=xQ (xs.getD 16 0) (n:=13) (by decide);obtain⟨ps,ss,W0,pl,q7⟩:=vH 24 hb o hn q0 (a:=4) (m:=m) (by decide) (by omega);obtain⟨qs,us,V,ql,q9⟩:=vH 24 hb o (ns:=ns.drop 1) (by rw[Bs];omega) q0 (a:=4) (m:=5) (by decide) (by decide);have hp:ps.length<=100:=by omega
 let Rr:List (Int×Int)->List (Int×Int)->Sl:=λA B=>.O [.lst (A.map stP),.lst (B.map stP)]
 have k7:eX 59 (L .x .x .x .x) (hB 6 f62)=.next (L (.O [.lst ((ps.map up).map stP)]) .x .x .x):=by have e:=dR (x 16 K Y Z0 S .x .x .x .x (by decide)) (aA (.int 13)) (by decide);rw[show xs.getD 16 0 % 13=(m:Int) from em] at e;rw[jJ];exact bI (aMD (sP (aI 0 rfl) (@v1 .x .x .x .x) (@v5 .x .x .x .x) (aA (.int 4)) e q7))
 have k8:eX 59 (L (.O [.lst ((ps.map up).map stP)]) .x .x .x) (hB 7 f62)=.next (L (Rr (ps.map up) (qs.map up)) .x .x .x):=by have e:=tB (P:=pg) (W:=cP 59) (Z:=L (.O [.lst ((ps.map up).map stP)]) .x .x .x) (aI 0 rfl) rfl (dL ns) (aA (.int 1)) (by decide);rw[<-Cs] at e;exact fU (sP e v1 v5 (aA (.int 4)) (aA (.int 5)) q9) rfl (by show 1<1000000;decide) rfl (by rw[<-jJ qs];rfl)
 let U:D->D->Sl:=λa b=>.O [a,b]
 have rt:∀{A B:List (Int×Int)} {a b:D} {I G:Sl},Rw bs hs st A a->Rw bs hs st B b->eX 59 (L (Rr A B) (U a b) I G) (hB 9 f62)=.next (L (Rr A B) (U a b) I G):=λ{A B a b I G} r q=>bQ (cU (aIP v1 v5 (bD 6 rfl) (bD 7 rfl) (aEi 20 hb o gw gz q0 hg r q)));have gd:=Rw.good W0 hp;have q2:=Rw.good V (by omega);obtain⟨Z',ef,A,B,a,b,I,G,rA,rB,rfl⟩:∃Z',eX 59 (L (Rr (ps.map up) (qs.map up)) (U (.str "told") (.str "told")) .x .x) (hB 10 f62)=.next Z'/\∃A B a b I G,Rw bs hs st A a/\Rw bs hs st B b/\Z'=L (Rr A B) (U a b) I G:=by
  have t:∀{A B:List (Int×Int)} {a b:D} {G:Sl} (i:Nat),∃c,eT 59 (L (Rr A B) (U a b) (.F (aN i)) G) (.cmp .NotEq (.op .Mod (.idx (.v 2) (.i 11)) (.i 3)) (.op .Add (.v 8) (.i 1)))=.ok c:=λ{A B a b G} i=>⟨_,bM (dR (x 11 K Y Z0 S _ _ _ _ (by decide)) (aA (.int 3)) (by decide)) (dC (aD 8 rfl) (aA (.int 1))) rfl⟩
  have sl:∀(A B:List (Int×Int)) (a b:D) (G:Sl) (i:Nat),i<2->eV 59 (L (Rr A B) (U a b) (.F (aN i)) G) (.sli (.v 2) (.k (.op .Sub (.i 12) (.op .Mult (.i 3) (.v 8))) .z) .z)=.ok ⟨.lst ((xs.drop (12-3*i)).map D.int),true,false,[]⟩:=λA B a b G i hi=>by
   have e:eV 59 (L (Rr A B) (U a b) (.F (aN i)) G) (.op .Sub (.i 12) (.op .Mult (.i 3) (.v 8)))=.c (aN (12-3*i)):=by
    have:i=0\/i=1:=by omega
    rcases this with rfl|rfl <;> rfl
   have:=tB (bD 2 rfl) rfl (dL xs) e (by omega);rw[<-Cs] at this;exact this
  have sp:∀{ps:List (Nat×Nat)} {ss:List St} (W0:Wov bs hs (st,bP hs) ps ss) (hp:ps.length<=100) (i:Nat),i<2->∃(F:List (Int×Int)) (d:D),Rw bs hs st F d/\noL d=true/\cP 59 58 [H,aL st,.lst ((ps.map up).map stP),.lst ((xs.drop (12-3*i)).map D.int)]=.ok (.tup [.lst (F.map stP),d],false,false):=λ{ps ss} W0 hp i hi=>by
   obtain⟨k,x,qs,h1,h2,h3⟩:=aAx 24 hb o gw gz q0 hg W0 hp (xs:=xs.drop (12-3*i)) (by rw[Bs];omega);have hl:(ps.take k).length=k:=by rw[A8];omega
   have hw:=W0.len;have r:=Rw.bad (W0.cut h1) (by omega) (by
    rw[hl,Am,DL,if_pos (by omega),<-Am];exact h2) qs
   rw[hl] at r;rw[jJ];exact⟨_,_,r,rfl,h3⟩
  have q3:∀{Z:Sg} {F:List (Int×Int)} {d:D} {i:Nat} {U1 U2:List D} (v8:eV 59 Z (.v 8)=.c (aN i)),noL d=true->Z[9]? = some (.F (.tup [.lst (F.map stP),d]))->Z[6]? = some (.O U1)->Z[7]? = some (.O U2)->U1.length=2->U2.length=2->i<2->(q4:eV 59 (Z.set 6 (.O (U1.set i (.lst (F.map stP))))) (.v 8)=.c (aN i))->eS 59 Z (.k (.setIx 6 (.v 8) (.idx (.v 9) (.i 0))) (.k (.setIx 7 (.v 8) (.idx (.v 9) (.i 1))) .z))=.next ((Z.set 6 (.O (U1.set i (.lst (F.map stP))))).set 7 (.O (U2.set i d))):=λ{Z F d i U1 U2} v8 nd h9 h6 h7 hh w4 h2 q4=>by refine cs (aAA (aZ (aD 9 h9) (aA _) rfl) rfl rfl v8 h6 (by omega) (by omega)) (bU (aAA (aZ (aD 9 (d:=.tup [.lst (F.map stP),d]) (by rw[Au (by decide)];exact h9)) (aA (.int 1)) (congrArg R.ok (cS nd))) rfl rfl q4 (by rw[Au (by decide)];exact h7) (by omega) (by omega)))
  obtain⟨Z',ef,A,B,a,b,I,G,rA,rB,_,_,q1⟩:=dF (b:=match hdS (drp 10 f62.body) with|.for _ _ b=>b|_=>.z) (λi Z=>∃A B a b I G,Rw bs hs st A a/\Rw bs hs st B b/\(i<=0->A=ps.map up)/\(i<=1->B=qs.map up)/\Z=L (Rr A B) (U a b) I G) (cC (aA (.int 2)) rfl (by decide)) ⟨_,_,_,_,_,_,gd,q2,λ_=>rfl,λ_=>rfl,rfl⟩ λi hi Z ⟨A,B,a,b,I,G,rA,rB,qA,qB,q1⟩=>by
   have w5:i<2:=by simpa using hi
   subst q1;have se:cR (L (Rr A B) (U a b) I G) (((Ap 2).map λ(k:Nat)=>Vl.cl (.int (k:Int)))[i]'hi) (.n 8)=.ok (L (Rr A B) (U a b) (.F (aN i)) G):=by rw[AC,AN,fB];rfl
   obtain⟨c,hc⟩:=t i;cases c with
   | false=>exact⟨_,_,se,bU (bQ hc),A,B,a,b,_,_,rA,rB,λz=>by omega,λz=>qB (by omega),rfl⟩|true=>
    have:i=0\/i=1:=by omega
    rcases this with rfl|rfl;obtain⟨F,d,rF,nd,e⟩:=sp W0 hp 0 (by decide);obtain rfl:=qA (Al _);exact⟨_,_,se,bU (oU hc (cs (aR (lF (@v1 (Rr (ps.map up) B) (U a b) (.F (aN 0)) G) v5 (aZ (bD 6 rfl) (aD 8 rfl) rfl) (sl _ _ _ _ _ 0 (by decide)) e)) (q3 (aD 8 rfl) nd rfl rfl rfl rfl rfl (by decide) (aD 8 rfl)))),F,B,d,b,_,_,rF,rB,λz=>by omega,λz=>qB (by omega),rfl⟩;obtain⟨F,d,rF,nd,e⟩:=sp V (by omega) 1 (by decide);obtain rfl:=qB (Al _);exact⟨_,_,se,bU (oU hc (cs (aR (lF (@v1 (Rr A (qs.map up)) (U a b) (.F (aN 1)) G) v5 (aZ (bD 6 rfl) (aD 8 rfl) rfl) (sl _ _ _ _ _ 1 (by decide)) e)) (q3 (aD 8 rfl) nd rfl rfl rfl rfl rfl (by decide) (aD 8 rfl)))),A,F,a,d,_,_,rA,rF,λz=>by omega,λz=>by omega,rfl⟩
  exact⟨Z',ef,A,B,a,b,I,G,rA,rB,q1⟩
 obtain⟨d,hd,q8⟩:=xW 26 hb gw gz (xs:=xs.drop 12) (by rw[Bs];omega);have w3:eX 59 (L (Rr A B) (U a b) I G) (hB 12 f62)=.next (τ K X Y Z0 (.F d) (Rr A B) (U a b) I G):=by have e:=tB (bD (P:=pg) (W:=cP 59) (Z:=L (Rr A B) (U a b) I G) 2 rfl) rfl (dL xs) (aA (.int ((12:Nat):Int))) (by decide);rw[<-Cs] at e;exact aR (dN v1 e q8)
 exact cs (aR (cW (aI 0 rfl) q5)) (cs (bI (cG (nU hn (by decide) rfl (aC (aA _) aU) (aA _) (by simp)) (aA (.int 17)) (gD rfl 58 _ (by decide)))) (cs k3 (cs (aR (aBt (aA _) (aD 3 rfl) (gQ (aA _) (aA _)))) (cs k5 (cs (aR (dN (aI 0 rfl) (aD 1 rfl) q6)) (cs k7 (cs k8 (cs (bI (cH (aC (aA _) (aC (aA _) aU)))) (cs (rt gd q2) (cs ef (cs (rt rA rB) (cs w3 (aY (lF (aD 1 rfl) (aD 5 rfl) (bD 6 rfl) (cH (aC (aA _) (aC (aA _) aU))) (aHo 20 hd A B)))))))))))))))
end K69
end
noncomputable section
set_option maxHeartbeats 0
namespace K69
open PySem PySem.W L2 Hp Hh
noncomputable def ix:List (Nat×List Str):=(34,["one", "ahead", "behind", "word", "left", "right"]) ::
 (35,["cond", "ahead", "behind", "word", "left", "right"]) ::
 (51,["boxes", "way", "stand", "held", "box", "one", "amount"]) ::
 (18,["rows", "boxes"]) ::
 (19,["row"]) ::
 (20,["thing"]) ::
 (21,["boxes", "count", "name", "top"]) ::
 (22,["boxes", "found", "name", "top", "longer", "begun"]) ::
 (23,["boxes", "thing"]) ::
 (36,["boxes", "cond"]) ::
 (37,["one"]) ::
 (38,["one", "found", "inner"]) ::
 (53,["way", "found", "box", "one"]) ::
 (54,["way"]) ::
 (10,["thing"]) ::
 (11,["thing", "least", "most"]) ::
 (29,["boxes", "thing", "plain"]) ::
 (30,["boxes", "thing", "plain"]) ::
 (31,["boxes", "kind", "thing", "plain", "seen", "form", "due", "inner"]) ::
 (32,["kind", "thing", "plain", "word", "form"]) ::
 (33,["boxes", "due", "thing", "most"]) ::
 (45,["boxes", "thing"]) ::
 (46,["boxes", "thing", "end"]) ::
 (47,["boxes", "thing", "end"]) ::
 (48,["boxes", "thing"]) ::
 (49,["boxes", "thing", "least", "put"]) ::
 (50,["boxes", "thing", "least"]) ::
 (61,["boxes", "begin", "hands", "promises", "notes", "own_boxes", "own_begin", "own_hands", "own_promises", "own_notes"]) ::
 (52,["hand", "place"]) ::
 (62,["boxes", "thing", "plain"]) ::
 (63,["boxes", "thing", "count", "plain"]) ::
 (64,["boxes", "thing"]) ::
 (65,["boxes", "thing", "hands"]) ::
 (66,["hand"]) ::
 (67,["boxes", "hands", "count", "hand"]) ::
 (69,["house", "state", "step", "hand", "stand", "places", "row", "way", "further"]) ::
 (70,["house", "start", "steps", "state", "states", "number", "step"]) ::
 (71,["house", "start"]) ::
 (73,["house", "start", "steps", "states"]) ::
 (74,["house", "one", "other"]) ::
 (75,["house", "track", "way"]) ::
 (76,["one", "other"]) ::
 (77,["one", "other"]) ::
 (84,["_law_cell", "_law_many", "_law_found", "_law_number", "_law_k"]) ::
 (85,["_law_x", "_law_hand_here", "_law_shape", "_law_count"]) ::
 (86,["_law_xs", "_law_boxes", "_law_zone_here", "_law_box", "_law_number", "_law_found", "_law_other", "_law_some", "_law_more"]) ::
 (87,["_law_xs", "_law_boxes", "_law_zone_here", "_law_puts_here", "_law_k", "_law_box", "_law_top", "_law_other", "_law_some"]) ::
 (88,["_law_cell", "_law_boxes", "_law_hand_here", "_law_rows", "_law_shape", "_law_xs", "_law_zone_here", "_law_found", "_law_k", "_law_row", "_law_j", "_law_ys", "_law_place", "_law_guard_here"]) ::
 (89,["_law_script", "_law_xs", "_law_boxes", "_law_hands", "_law_hand_here", "_law_rows", "_law_cell", "_law_begin", "_law_notes"]) ::
 (90,["_law_script", "_law_house_here", "_law_some"]) ::
 (91,["_law_house_here", "_law_state", "_law_found", "_law_hand_here", "_law_way"]) ::
 (92,["_law_script", "_law_house_here", "_law_start_here", "_law_at", "_law_many", "_law_state", "_law_steps_here", "_law_k", "_law_goers_here", "_law_number", "_law_step"]) ::
 (78,["house", "start", "steps", "at", "told"]) ::
 (79,["house", "start", "steps", "left", "found", "trades", "at"]) ::
 (80,["left", "best", "at"]) ::
 (81,["left", "at"]) ::
 (82,["house", "start", "one", "other", "first", "second"]) ::
 (93,["_law_house_here", "_law_state", "_law_some", "_law_hand_here"]) ::
 (94,["_law_house_here", "_law_start_here", "_law_steps_here", "_law_xs", "_law_states", "_law_at", "_law_some", "_law_found"]) ::
 (95,["_law_house_here", "_law_xs", "_law_boxes", "_law_top", "_law_good", "_law_out", "_law_rest", "_law_some"]) ::
 (96,["_law_deed", "_law_house_here", "_law_start_here", "_law_steps_here", "_law_other", "_law_caught", "error"]) ::
 (97,["_law_house_here", "_law_start_here", "_law_rows", "_law_dues", "_law_handed", "_law_deed", "_law_due"]) ::
 (98,["_law_script", "_law_house_here", "_law_xs", "_law_box", "_law_begin", "_law_start_here", "_law_rows", "_law_dues", "_law_k", "_law_found"])::[]
noncomputable def sn:Sn:=⟨[("MOST_BOXES",(.int 5)),("MOST_LETTERS",(.int 8)),("MOST_TOP",(.int 7)),("MOST_STANDS",(.int 24)),("LETTERS",(.str "abcdefghijklmnopqrstuvwxyz")),("MOST_PARTS",(.int 40)),("MOST_NUMBER",(.int 99)),("MOST_ROWS",(.int 8)),("MOST_WAYS",(.int 4)),("GUARD",(.int 0)),("PUTS",(.int 1)),("NEXT",(.int 2)),("MOST_HANDS",(.int 3)),("MOST_STATES",(.int 1000)),("BOXES",(.int 0)),("BEGIN",(.int 1)),("HANDS",(.int 2))],[("SUM_FORMS",[("number",["number"]),("box",["box"]),("after",["box"]),("plus",["sum", "sum"]),("minus",["sum", "sum"])]),("COND_FORMS",[("yes",[]),("is",["sum", "sum"]),("less",["sum", "sum"]),("not",["cond"]),("both",["cond", "cond"]),("either",["cond", "cond"])])],[("NoBoxes",[.own "NoBoxes",.own "PromiseError",.tValueError]),("TooMany",[.own "TooMany",.own "PromiseError",.tValueError]),("NoCond",[.own "NoCond",.own "PromiseError",.tValueError]),("NoHand",[.own "NoHand",.own "PromiseError",.tValueError]),("NoHouse",[.own "NoHouse",.own "PromiseError",.tValueError]),("NoStart",[.own "NoStart",.own "PromiseError",.tValueError]),("NoStep",[.own "NoStep",.own "PromiseError",.tValueError])],["PromiseError", "NoBoxes", "NoCond", "NoHand", "NoHouse", "NoStart", "NoStep", "TooMany"],["NoBoxes", "TooMany", "NoCond", "NoHand", "NoHouse", "NoStart"],[("NoStep",7, "NoStep.__init__", "self", "place")]⟩
abbrev pw:=E6
theorem chk:oQ ⟨[],[],(ix.map (pR pw)).map (·.x),sn.cns,sn.cls,true,sn.tbs.map (·.1),sn.rsd,sn.pls.map (·.1)⟩ pg.fns (ix.map (pR pw))=true:=by decide +kernel
abbrev Lq(w:AV)(os:FH):Prop:=aOJ pw (uX pw) (wY pw) (λs=>kX pw sn s.heap) 100000 w os=some (true,Kg (uX pw) (wY pw),oR pw sn w)
theorem lf1(os:FH)(w:AV):Lq (w.withFollow "special-get-raises" false) os:=by kernel_rfl
theorem lf2(os:FH)(w:AV):Lq (w.withFollow "special-get-raises" true) os:=by kernel_rfl
theorem lft:KJ pw (uX pw) (wY pw) (λ_=>true) (λs=>kX pw sn s.heap) (λw=>oR pw sn w) 100000:=aLS (by kernel_rfl) rfl (λ_=>by kernel_rfl) λw os=>byRow2 "special-get-raises" (P:=λw=>Lq w os) (lf1 os) (lf2 os) w
abbrev rr:=Cv
theorem w0:looksOpen rr.row.prog=true:=by kernel_rfl
theorem w1:rr.row.wellSaid=true:=by unfold OpenRow.wellSaid OpenRow.partSaid;rw[w0];kernel_rfl
theorem ws:rr.wellSaid=true:=by unfold OpenLaw.wellSaid;rw[w1];kernel_rfl
end K69
end
noncomputable section
open PySem PySem.W PyProof.Rows Hh
set_option maxRecDepth 100000 in
set_option maxHeartbeats 0 in
theorem PySem.Challenge.cw_handpromise_k69_weavings_refused_holds : PySem.Challenge.rw_handpromise_k69_weavings_refused.Holds := by
 refine holds_law K69.ws λ said => ?_;refine aLX (l := Cv) (k := 59) (f := 62) (x := "_law_script") (sl := ["_law_house_here", "_law_xs", "_law_box", "_law_begin", "_law_start_here", "_law_rows", "_law_dues", "_law_k", "_law_found"]) said K69.lft (by kernel_rfl) (by kernel_rfl) rfl rfl (by decide +kernel) ⟨rfl, rfl, rfl, rfl, rfl, by decide +kernel⟩ ?hw rfl rfl (by decide +kernel) (by decide +kernel) K69.chk rfl (by decide +kernel) rfl (by decide +kernel) ⟨rfl, rfl, by decide, by decide⟩ (by kernel_rfl) rfl K69.pure
 w_witness2
end
