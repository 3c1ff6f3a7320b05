import PyProof.Rows.All
import Wide.All
import OpenK.AllK
import Wide.FinOn
import Lean
import PyProof.EqAt
import PyProof.EqKinds
import PyProof.TupleCall
import PyProof.TupleKey
import PyProof.DictRoadsH
import PyProof.Rows.TupTab
import PyProof.AttrMissHeap
import KE.KDictOf
import PyProof.FactsAll.tuple_2
import PyProof.NeKinds
import PySem.Syntax
import PySem.Builtin.Str.Common
import PyProof.ReprReads
import PyProof.StrLaws
import PyProof.ReprRoads
import PyProof.FitsInt
import KE.KIsAll
import PyProof.DictTable
import PyProof.Rows.SetFrom
import PyProof.SetRoads
import PyProof.ZipIter
import PyProof.StrWalks
import PyProof.EnumFor
import PyProof.EnumStmt
import PyProof.ListNew
import PyProof.Rows.SortRunsK
import PyProof.CollectIter
import KE.KSortTup
import PyProof.Rows.SortWalk
import PyProof.DictWalks
import PyProof.Rows.FactsT3
import PySem.Challenge.RW_handpromise_k32_steps_of_a_hand
set_option compiler.extract_closed false
set_option compiler.postponeCompile true
set_option genSizeOf false
set_option genInjectivity false
set_option bootstrap.genMatcherCode false
set_option Elab.async false
set_option linter.all false
noncomputable section
open PySem renaming wpAny_bind->Aa,Shared->Ac,wpAny_pure->Ad,wpAny->Al,Expr->Aw,Program->A0,model->A6,World->AN,Around->AQ,wpAny_call_entry->Bb,wpAny_newObj_type->Bd,starEach->Bg,wpAny_callSpecial?_slot->Bl,wpAny_holding->Br,wpAny_seqItems->Bv,mainGlobals->Bz,sizeLine_eq->BB,wpAny_Call_Name_kw->BC,wpAny_setField_rec->BE,wpAny_forIn_list->BH,mem_of_lookup->BM,wpAny_field->BO,compareOp->BX,wpAny_truthy_bool->Ca,ofAClassStatement->Cg,wpAny_setState_of->Ch,tupleKind->Cm,wpAny_rule->Cq,wpAny_isInstance->Cr,bootBuiltins->Cw,Builtin->Cz,rawInt->C0,NameKind->C1,foldedSetIterable->C4,wpAny_specialOf->C9,intKind->CD,Stmt->CG,IsPair->CI,Paired->CO,sysModules->CP,wpAny_mono->CQ,binaryOp->Dc,wpAny_typeOf->De,cLine->Dz,wpAny_typeNameOfWhole_keyiter->D1,assignEach->D3,codeAny_builtin->DC,DictEntry->DE,Pos->DK,Scope->DL,eval->DM,FuncData->DN,sliceBounds->DQ,call_meets->DR,carriedByValue->DT,firstArgMember->DU,wpAny_askSetting->Ed,wpAny_attempt->Ek,wpAny_passesOwn->Em,hashByValue->Et,backTo->Ew,pyNext->Ex,isSubtype_tuple_tuple->EA,codeAny->EH,plainId_quiet->EK,wpAny_updateSeq_pair->EL,letOwnedTupleGo->EQ,wpAny_setEntries_of->EZ,codeAny_mono->Fb,wpAny_tupleItemsOf->Fl,wpAny_setField->Fo,IsZip->Fp,isSubtype_type->Fz,wpAny_binaryOp_repeat_ref->F4,slot_list_getitem->FA,wpAny_pyIter_list->FB,wpAny_pyIter_slot->FE,wpAny_getItem_list_slice->FI,wpAny_comprehension_free->FJ,wpAny_onRaise->FK,noFill_tuple_add->FQ,assign->FZ,concat_meets->Gc,IsPart->Ge,getItem->Gf,typeIs_int->Gh,wpAny_Call_method_late->Gi,callerA->Gj,valueAt->Gn,Model->G0,wpAny_execs_nil->G1,importedModules->G7,builtinLookup_eq_fast->GA,wpAny_isOneOf_keyiter->GD,GenState->GH,Result->GI,wpAny_of_eq->GQ,wpAny_letGo->GS,isSubtype_stop->GU,wpAny_fieldsOf->GX,codeAny_extend_loopS->GY,spliced->Ha,Arguments->Hb,wpAny_standAt->Hi,behindInMarks->Hj,seq_tuple_add->Hk,evalPart_none->Hl,wpAny_handled->Hm,setSearchFrom->Hq,wpAny_newList->Hu,builtinsNs->Hz,pyIter->H0,call->HE,reduceHash->HF,wpAny_pyIter_tuple->HH,wpAny_assign_Name->HU,holding->HV,wpAny_sequenceKey->HX,seqIndex_neg->HY,list_append->HZ,ZipApart->Im,searchCouldBeSeen->Iu,wpAny_storeSet_of->Ix,wpAny_dictEntries->IA,slicePick->IH,eqIsQuiet->IL,seqSlot_of->IM,wpAny_pyIter_zip->IR,treeTable->IV,seqIndex_of->Jb,wpAny_throw->Jd,codeAny_of_tree->Jm,typeLookup_type->Jp,wpAny_dictEpoch->Jr,relabel->Jv,wpAny_Name->Jx,recursionLimit->Jy,bindArgs->Jz,bindL->J0,bindC->J1,Params->J8,isInstance->J9,IsTupleKey->JA,field->JC,newExc->JD,wpAny_newTuple->JE,wpAny_runValue->JJ,entryFor_alias->JK,setsByText->JM,Thread->JR,Env->JX,intBits_le_64->JY,evalPart_some->Kb,call_list_seq->Ke,attributeBase->Kf,ExceptHandler->Km,fenceModules?->Kn,swapsWith->Kr,lastMarks->Kt,cellsFrom->Ku,seqItems?->Kv,BindsTo->Ky,setAddHashed->K6,setNext->K7,denote->KC,Sem->KJ,interactive->KL,IsRangeIter->KM,wpAny_Slice->KP,subscripted->KR,HeapKind->KU,compEnvC->KW,newTuple->KY,raiseNew->KZ,entryFor->La,slotArgs->Lb,BoolOp->Lr,argsOk->Lw,hashStr->Ly,Tok->Lz,standAt->L0,Keyword->L1,Meets->L3,newList->L5,Fin->LH
open PySem.Heap renaming get?_push_of_some->Ab,lt_size->Am,get?_push_size->Ao,size_push->Cc,get?_update_ne->Cj,SameBut->CF,get?_update_other->D6,get?_update_self->DG,ExtBut->GP
open List renaming getElem?_eq_getElem->Ae,size_toArray->Af,mem_cons_of_mem->Ag,mem_singleton->Ai,replicate->Aj,mem_cons_self->Ak,getElem?_set_ne->Ap,getElem?_eq_some_iff->Ar,mem_cons->Au,mem_map->Ax,getElem?_append_right->A1,getElem?_map->A2,getElem?_append_left->A5,map_map->A7,mem_append_right->AB,append_assoc->AD,zip_cons_cons->AE,range->AF,getElem_mem->AG,take_succ_eq_append_getElem->AI,mem_append->AJ,length_set->AM,mem_append_left->AS,getElem?_set_self->AU,append_nil->AV,take_append_drop->AW,pairwise_append->AX,perm_append_comm->Ba,length_take->Bc,mem_flatMap->Be,map_append->Bj,length_replicate->Bk,take_length->Bn,all_eq_true->Bo,mem_filterMap->Bs,pairwise_iff_getElem->B0,nodup_cons->B2,getElem_map->B3,replicate_succ->B4,pairwise_singleton->B9,mem_range->BA,mem_of_mem_take->BF,length_drop->BI,filterMap_cons->BL,zip_nil_left->BN,mem_iff_getElem?->BQ,foldl_cons->BS,mem_reverse->BY,length_range->Cd,getElem?_toArray->Ck,pairwise_cons->Cu,take_zero->C2,getElem?_replicate->C5,flatMap_cons->C8,map_congr_left->CB,take_of_length_le->CJ,getD_eq_getElem?_getD->CU,drop_eq_getElem_cons->CY,flatten_cons->Df,pairwise_map->Dj,getElem?_take_of_lt->Dm,flatMap_append->Dt,length_eq_zero_iff->Dv,not_mem_nil->Dy,length_append->D5,drop_of_length_le->D7,nil_append->D8,reverse_cons->DJ,toList_toArray->Ei,getElem?_drop->Ep,lookup->Ev,range_succ_eq_map->E5,drop_zero->E6,length_singleton->E9,getElem?_eq_none->EB,isEmpty_nil->EF,all_cons->EJ,mem_of_mem_drop->EM,mem_iff_getElem->EN,mem_filter->EO,of_mem_zip->ES,length_reverse->Fa,filterMap_map->Fk,nodup_nil->Fm,extract_eq_drop_take'->Ft,getElem?_take->Fw,getElem_range->F1,getElem?_zip_eq_some->F6,length->F9,reverse_perm->FC,map_inj_left->FF,foldl_append->FG,filterMap_cons_some->FN,length_cons->FP,lookup_cons->FS,drop_length->FT,flatMap_nil->FX,all_map->Go,pairwise_lt_range->Gw,length_map->G3,length_nil->G4,find?_cons->G5,forIn_cons->G6,eq_nil_or_concat->GF,concat_eq_append->GG,forIn_nil->GR,foldl_nil->GZ,map_take->Hr,map_drop->Ht,zip_nil_right->H9,foldl->HC,take_sublist->HW,getElem_drop->Ip,ext_getElem?->Iq,drop_sublist->Iw,any_eq_true->IN,zipIdx_cons->IP,nodup_range->IS,countP_cons->IT,cons_append->IU,filter_cons->IX,zipIdx_nil->Ji,range_succ->Jt,drop_drop->JF,drop_take->JG,any_cons->Ko,Nodup->Lu
open Nat renaming le_refl->Ah,ne_of_lt->A4,le_trans->AC,lt_of_lt_of_le->AH,zero_le->AL,lt_irrefl->AY,add_sub_cancel_left->Bm,lt_succ_of_lt->B8,lt_or_ge->BU,lt_succ_self->Cs,le_of_lt->Cy,ne_of_gt->CH,not_lt_zero->Db,zero_add->Ea,lt_or_eq_of_le->Eo,lt_trans->E4,le_add_right->EE,add_assoc->EI,lt_trichotomy->FD,le_of_not_lt->FR,not_lt->Gm,sub_zero->Gp,mod_lt->Gu,succ_pos->Gv,le_succ->GO,pow_le_pow_right->GW,lt_of_le_of_ne->HJ,lt_of_le_of_lt->HK,succ_mul->Ib,mul_comm->Ie,le_succ_of_le->Ik,add_zero->Ir,le_antisymm->Jj,le_of_eq->K1,sub_self->K2,pow_succ->K5
open PyProof.Rows renaming wpS_bind->An,wpS_pure->Ay,Keyed->A3,pendingOf->AA,SortSt->Bq,slot_tuple_getitem->Bt,wpS_forRange->Bu,callWith_type1->B6,wpS_mono->BK,callWith_builtin1->Co,seqObj->C3,listUpdate_at->Dr,SortKind->DB,get?_update_seq->DD,failedOf->DV,wpS_modify->DW,mirror->DY,IntsAre->Ez,wpS_get->Fd,AllBare->F8,wpS_lift->FU,subscriptTail_builtinR->Gg,envOfC->GJ,entry_tuple_getitem->He,args_tuple_getitem->HA,size_push'->HL,slot_str_getitem->IG,wpS->Je,seqEpoch_at->Jf,entry_list_sort->Jq,slicePart_none->J4,Subscript_->J5,sortedHeap->JN,slot_list_sort->JO,args_list_sort->JP,sortedHeap_old->JQ,tupleItemsOf_->Ka,subscriptTail->Kc,sortedHeap_at->Kk,setArr->K3,minRun'->K4,listItems_at->K8,plain_sorted->K9,entry_sorted->KA,args_sorted1->KB,tail_any->KQ,kind_sorted->Ld,boot_sorted->Le,TupTab->Lj,lt_int->Lk,bubble->Ls,tuples'->L7
open Option.some renaming inj->As,injEq->Dg
open PySem.W renaming Frag->Av,boot_heap->Cv,kia_one->Da,keepIn->DO,methodObj->F7,cellsFrom_some->Ga,fnOf->Gb,SharedT->Hd,boot_drawn->HM,boot_toks->IW,OpenLaw->Ju,codeIn->J3,namesBound->JS,staticsOk->Kx,stepOk->KD,gensDone->Lf,laidKept->Lg,openGood->Lh,OpenLaw->L4,through->L9,stepT->LA,topStub->LB,topFrom->LC,LeftO->LM
open PySem.Value renaming ref->A9,none->B5,type->Ff,int->FO,notImplemented->GK,isInt->IY,bool->Jw,isStrOf->JW,str->Kq
open Array renaming length_toList->AK,getElem?_eq_getElem->AO,toList_append->AR,getElem?_toList->AT,getElem?_eq_some_iff->Ce,forIn_toList->Cp,getD_eq_getD_getElem?->CK,toList_push->Dh,toList_reverse->Di,mem_of_getElem?->DH,mem_toList_iff->DX,toList_inj->Ec,toList_eraseIdxIfInBounds->E8,toList_map->EG,replicate->EY,toList_setIfInBounds->Fx,getElem?_eq_none_iff->Fy,size_setIfInBounds->FL,getElem?_extract->Gr,getElem?_eq_none->Gx,toList_extract->GV,size_extract->HI,size_append->Ii,mk->JT
open PySem.Builtin.SmallTypes renaming nextOf->AZ,ownedTupleIsFree->BR,ownedTupleHandOut->Ef
open PySem.NameKind renaming free->Bf
open Bool renaming not_true->Bh,or_eq_true->BG,not_eq_true'->Cb,false_ne_true->CN,and_true->DF,not_false->DS,false_and->Fi,not_eq_false'->Fu,and_false->GN,true_and->Hy,or_true->Ij,and_eq_true->IE,or_false->Kd,or_self->KH
open Int renaming toNat_natCast->Bx,emod_lt_of_pos->BV,emod_nonneg->CA,toNat_of_nonneg->Ds,natCast_mul->EV,natCast_nonneg->F0,ediv_one->Kz,le_trans->KG,one_mul->Li
open Option renaming map_eq_some_iff->B1,getD_some->Dw,map_some->DA,getD_none->EC,none->KT
open PySem.Builtin.Str renaming strSliceIndices->B7,occurrences->Du,occurrences->Jc,tooLong->Ll
open PySem.Obj renaming mapSeq->BD,data_mapFields->En,isFreed_of_fields->G9,cls_mapFields->Il,mapFields->Kl,putSet->Lv
open PySem.Builtin.Tuple renaming tupleHashOf->BJ,tupleExact->Dn,tupleItemsOf->DP,tupleCompareSizes->IC,tupleIsExact->JB
open List.Perm renaming append_left->BP,refl->Cf,append_right->Gq,trans->Jk,of_eq->Jl,swap->JL
open PySem.F renaming called_set->BW,slot_tuple_iterator_next->CT,slot_dict_keyiterator_next->CV,args_tuple_add_2->Ej,entry_tuple_add->Er,plainAttrs_list->Eu,slot_tuple_add->E1,slot_tuple_hash->E3,slot_tuple_mul->ED,slot_int_rmul->ET,slot_tuple_eq->EU,args_tuple_iterator_next_1->EW,slot_zip_next->EX,entry_tuple_iterator_next->Fc,slot_tuple_hash->FW,slot_dict_iter->Gz,slot_dict_get->G8,slot_set_iter->GB,args_list_append_2->GM,entry_list_append->Hf,plain_extend_loop->Hg,slot_list_append->HD,args_tuple_mul_2->HG,args_int_rmul_2->Ic,slot_tuple_rmul->Ig,entry_tuple_mul->Ih,args_zip_next_1->Io,plain_list_iadd->Iz,slot_int_index->IJ,entry_int_rmul->IK,entry_zip_next->IQ,fills_int_mul->Jh,plain_set_new->Jn
open Sum renaming inr->BZ,inl->FY
open PySem.Heap.SameBut renaming update->Ci,refl->L6
open List.Pairwise renaming nil->C6,drop->Fq,take->Fv,filterMap->FV,imp_of_mem->Kj,sublist->KI
open PySem.StrLaws renaming sliceText->C7
open PyProof.Rows.F renaming plain_set_update_loop->CC,entry_set_update_loop->Eh
open PySem.Builtin.List renaming listExtendWith->CL,listTooLong->Dp,listSameRef->Dq,listLengthHint->Fe,listTouch->Gy,listFitsIndex->J7
open Prod.mk renaming injEq->CM
open PySem.Builtin.Slice renaming slicePlaces->CW,sliceAdjust->Ee,sliceApplied->Fj,slicePartIndex->Jg,sliceFields->JU
open Classical renaming byContradiction->CZ,not_not->L8
open PySem.Str renaming ofString->Dd,length->J6,join->LL
open PySem.Around renaming under_plainId->Dl
open False renaming elim->D2
open PySem.Calls renaming spliced_cons->D4,spliced_nil->Ey,callWith_builtin->E2,Name_function_global->Fh,call_function_entry->F5,evalArgs_plain->GL
open ForInStep renaming yield->D9
open Ne renaming symm->DI
open PySem.SetTable renaming below->DZ,advance->Eb,slot->Hn,fill->Ho,insertAt->Iv,fits->Kg,sameMemory->Lm,gaveWay->LF,tooFull->LG,relaid->LJ
open PySem.List renaming filterMap_getElem?_range_length->Eg
open List.cons renaming inj->El,injEq->LI
open Function renaming comp_def->E7
open PySem.Challenge renaming pw_handpromise_k32_steps_of_a_hand->F2,rw_handpromise_k32_steps_of_a_hand->F3
open PySem.Paired renaming length->FH
open PySem.Shared renaming TypeIs->FM
open True renaming intro->Gk
open PySem.Builtin.Dict renaming showsAll->GC,dictSlotNone->JV
open PySem.W.Fast renaming te10156331382660048174->Hv,te11892475500146522536->Hw,te14364793385576792824->Hx,te6613529449190102663->HN,te4187177175401517315->HP,te5923862056798008813->HQ,sEq->IB,sEq_iff->KF
open PySem.Heap.IsSliceOf renaming new->HB
open PySem.AutoListH renaming list___mul___list_int_3->HR
open PySem.AutoSeq1 renaming list_extend_list_list_0->Ia,sub_tuple_tuple->JZ
open PySem.pickOrder renaming go->Iy
open PySem.Data renaming cell->ID,fields->Ja,seq->KS
open PyProof.Rows.IsTup renaming new->IF
open PySem.IsL renaming update->II
open Sum.inr renaming inj->IZ
open PySem.Builtin.Frozenset renaming updateFrom->Jo,newClass->JI,addrOf->Kh,sizeOf->Ki,slot0->Kw
open PySem.Builtin.Dict_items renaming ownsTuple->Js
open PyProof.Rows.SortSt renaming mk'->JH
open PySem.Builtin.Range renaming rangeSize->Ks
open PySem.MeetsSeq renaming list_pop_last->K0
open Prod renaming ext->KO
open PySem.ItemsOf renaming nil->Lc
open PySem.SeqAt.EqAt renaming int_str->Ln,str_int->Lo,int_int->Lp
open PySem.W.WShape renaming has->Lq
open PySem.ScopeKind renaming function->Lx
open PySem.W.WData renaming int->LD
open PySem.PassesOwn renaming never->LK
def Aq:=@decide_eq_true_eq
def Az:=@decide_eq_false
def A8:=@decide_eq_true
def Bw:=@decide_eq_false_iff_not
theorem nf{p:Prop}(h:false=true):p:=absurd h CN
noncomputable def gS:=@List.getElem?_cons_succ.{0}
noncomputable def gZ:=@List.getElem?_cons_zero.{0}
noncomputable def lS:=@List.set_cons_succ.{0}
noncomputable def lZ:=@List.set_cons_zero.{0}
noncomputable def bF:=@Bool.false_eq_true
noncomputable def lC:=@List.length_cons.{0}
noncomputable def lN:=@List.length_nil.{0}
noncomputable def lA:=@List.length_append.{0}
noncomputable def mC:=@List.map_cons.{0,0}
noncomputable def mN:=@List.map_nil.{0,0}
noncomputable def lM:=@List.length_map.{0,0}
noncomputable def mG:=@List.mem_of_getElem?.{0}
noncomputable def bN:=@Bool.false_ne_true
noncomputable def bA:=@Bool.and_eq_true
noncomputable section
set_option maxRecDepth 100000
namespace L2
open PySem PySem.Spec PyProof.Rows
abbrev Key:=Sum Int Str
noncomputable def vO:Key->Value->Bool
 | .inl k,v=>IY k v|.inr x,v=>JW x v
noncomputable def aMN(w:AN):Key->Int
 | .inl k=>hashInt k|.inr x=>Ly w x
theorem keyIs_shape:∀{k:Key} {v:Value},vO k v=true->(∃i t,k=FY i/\v=FO i t)\/(∃x t,k=BZ x/\v=Kq x t)
 | .inl i,v,h=>by obtain⟨t,e⟩:=Value.isInt_shape (k:=i) (v:=v) h;exact .inl ⟨i,t,rfl,e⟩|.inr x,v,h=>by obtain⟨t,e⟩:=Value.isStrOf_shape (x:=x) (v:=v) h;exact .inr ⟨x,t,rfl,e⟩
theorem rO(x:Str)(t:Lz):vO (.inr x) (.str x t)=true:=by simp[vO,JW]
theorem aHC(a b:Int):decide ((FY a:Key)=FY b)=(a==b):=by by_cases e:a=b;subst e;simp;have h:¬ (FY a:Key)=FY b:=λq=>e (Sum.inl.inj q);rw[Az h];exact(beq_eq_false_iff_ne.mpr e).symm
theorem aHD(a b:Str):decide ((BZ a:Key)=BZ b)=decide (a=b):=by by_cases e:a=b;subst e;simp;have h:¬ (BZ a:Key)=BZ b:=λq=>e (IZ q);rw[Az h,Az e]
theorem aHE(a:Int)(b:Str):decide ((FY a:Key)=BZ b)=false:=Az (λq=>nomatch q)
theorem aHF(a:Str)(b:Int):decide ((BZ a:Key)=FY b)=false:=Az (λq=>nomatch q)
noncomputable def fI(prog:A0)(w:AN):PySem.KeyKind prog w Key where
 is:=vO
 hash:=aMN w
 inj:=λv a b ha hb=>by
  rcases keyIs_shape ha with⟨i,t,rfl,rfl⟩|⟨x,t,rfl,rfl⟩
  rcases keyIs_shape hb with⟨j,u,rfl,e⟩|⟨y,u,rfl,e⟩
  injection e with e1 _;rw[e1]
  exact nomatch e;rcases keyIs_shape hb with⟨j,u,rfl,e⟩|⟨y,u,rfl,e⟩
  exact nomatch e;injection e with e1 _;rw[e1]
 byValue:=λk v h=>by rcases keyIs_shape h with⟨i,t,rfl,rfl⟩|⟨x,t,rfl,rfl⟩ <;> rfl
 pyHash:=λhv h=>by
  rcases keyIs_shape hv with⟨i,t,rfl,rfl⟩|⟨x,t,rfl,rfl⟩
  exact wpAny_pyHash_int h;exact wpAny_pyHash_str h
 eqBool:=λhu hv h=>by
  rcases keyIs_shape hu with⟨i,t,rfl,rfl⟩|⟨x,t,rfl,rfl⟩
  rcases keyIs_shape hv with⟨j,u,rfl,rfl⟩|⟨y,u,rfl,rfl⟩
  rw[aHC] at h;exact wpAny_eqBool_int h;rw[aHE] at h;exact Ln i t y u _ _ _ _ h;rcases keyIs_shape hv with⟨j,u,rfl,rfl⟩|⟨y,u,rfl,rfl⟩
  rw[aHF] at h;exact Lo x t j u _ _ _ _ h;rw[aHD] at h;exact wpAny_eqBool_str h
 «strs»:=λk x t v h=>by
  rcases keyIs_shape h with⟨i,u,rfl,e⟩|⟨y,u,rfl,e⟩
  exact nomatch e;injection e with e1 _
  subst e1;cases v <;> rfl
inductive V where
 | non|bl (b:Bool)|int (i:Int)|str (x:Str)|byt (b:Array UInt8)|flt (b:UInt64)|ref (a:Addr)|ty (n:String)
 deriving DecidableEq
noncomputable def bG:V->Value->Prop
 | .non,u=>u=B5|.bl b,u=>u=Jw b|.int i,u=>∃t,u=FO i t|.str x,u=>∃t,u=Kq x t|.byt b,u=>∃t,u=Value.bytes b t|.flt b,u=>∃t,u=Value.float b t|.ref a,u=>u=A9 a|.ty n,u=>u=Ff n
abbrev aO:List V->List Value->Prop:=CO bG
theorem aO.length{xs:List V}{us:List Value}(r:aO xs us):xs.length=us.length:=FH r
theorem aO.get:∀{xs:List V} {us:List Value} {i:Nat} {x:V},aO xs us->xs[i]? = some x->∃u,us[i]? = some u/\bG x u
 | _,_,_,_,.nil,e=>by simp at e|_,_,0,_,.cons r _,e=>by simp at e;subst e;exact⟨_,rfl,r⟩|_,_,i+1,x,.cons _ t,e=>by obtain⟨u,l,q⟩:=aO.get (i:=i) (x:=x) t (by simpa using e);exact⟨u,by simpa using l,q⟩
theorem aO.set{x:V}{u:Value}(r:bG x u):∀{xs:List V} {us:List Value} (i:Nat),aO xs us->aO (xs.set i x) (us.set i u)
 | _,_,_,.nil=>.nil|_,_,0,.cons _ t=>.cons r t|_,_,i+1,.cons q t=>.cons q (aO.set r i t)
theorem aO.append:∀{xs ys:List V} {us ws:List Value},aO xs us->aO ys ws->aO (xs++ys) (us++ws)
 | _,_,_,_,.nil,s=>s|_,_,_,_,.cons r t,s=>.cons r (aO.append t s)
theorem aO.take:∀{xs:List V} {us:List Value} (n:Nat),aO xs us->aO (xs.take n) (us.take n)
 | _,_,0,_=>.nil|_,_,_+1,.nil=>.nil|_,_,n+1,.cons r t=>.cons r (aO.take n t)
theorem aO.drop:∀{xs:List V} {us:List Value} (n:Nat),aO xs us->aO (xs.drop n) (us.drop n)
 | _,_,0,r=>r|_,_,_+1,.nil=>.nil|_,_,n+1,.cons _ t=>aO.drop n t
noncomputable def aKd:Option V->Option Value->Prop
 | some v,some u=>bG v u|none,none=>True|_,_=>False
noncomputable def KV{κ:Type}:List (κ×V)->List (κ×Value)->Prop:=CO λ(p:κ×V) (q:κ×Value)=>p.1=q.1/\bG p.2 q.2
noncomputable def kV:Key->V
 | .inl i=>.int i|.inr x=>.str x
inductive HO where
 | lst (xs:List V)
 | tup (xs:List V)
 | dK (kvs:List (Key×V))|dT (kvs:List (List Key×V))
 | set (S:Int->Bool) (n:Nat)
 | ins (C dx:Addr) (fs:List (Str×V))
 | own (x:Addr)
 | xd (fs:List (Str×V))
 | met (f x:Addr)
 | rng (lo hi:Int)
 | frz (o:Obj) (u:HO)
 | tbl (ps:Array Value)
 | ext (φ:Heap->Prop)
abbrev Hp:=Addr->Option HO
noncomputable def upd(H:Hp)(a:Addr)(o:HO):Hp:=λb=>if b=a then some o else H b
theorem bP{H:Hp}{a:Addr}{o:HO}:upd H a o a=some o:=by unfold upd;rw[if_pos rfl]
theorem aM{H:Hp}{a b:Addr}{o:HO}(h:b≠a):upd H a o b=H b:=by unfold upd;rw[if_neg h]
theorem bB{H:Hp}{a b:Addr}{o:HO}(h:H a=some o)(h':H b=none):a≠b:=by intro e;subst e;rw[h] at h';cases h'
section
variable (P:A0) (w:AN)
noncomputable def eD(H:Hp)(h:Heap)(a:Addr):HO->Prop
 | .lst xs=>xs.length<=sizeLine/\∃(its:List Value) (n:Nat),aO xs its/\h.get? a=some { cls:=.type "list",data:=.seq its.toArray n }|.tup xs=>xs.length<=sizeLine/\∃its:List Value,aO xs its/\IsTup h a its.toArray|.dK kvs=>kvs.length<=sizeLine/\(a==CP)=false/\∃vs,KV kvs vs/\h.DictOf (fI P w) a vs|.dT kvs=>kvs.length<=sizeLine/\(a==CP)=false/\∃xs:List (List Key×Addr×Value),
  CO (λ(p:List Key×V) (q:List Key×Addr×Value)=>p.1=q.1/\H q.2.1=some (.tup (p.1.map kV))/\bG p.2 q.2.2) kvs xs /\
  ∃o es ep,h.get? a=some o/\o.ExactDict/\o.data=.dict es ep/\es.toList=xs.map (entryOfKey (Cm (fI P w)))/\(xs.map (·.1)).Nodup
 | .set S n=>h.SetOf (CD P w) a S n|.ins C dx fs=>H dx=some (.own a)/\fs.length<=1000/\dx≠a/\h.get? a=some (PySem.W.instObj C dx) /\
  ∃mA,h.Ns1 dx mA/\(∀f,aKd (fs.lookup f) (mA f))/\PySem.Within mA (fs.map (·.1))
 | .own _=>∃o,h.get? a=some o|.xd fs=>∃mA,h.Ns1 a mA/\∀f,aKd (fs.lookup f) (mA f)|.rng lo hi=>∃t u v,h.get? a=some { cls:=.type "range",data:=.fields #[.int lo t,.int hi u,.int 1 v] }|.frz o u=>h.get? a=some o/\eD H h a u|.tbl ps=>h.get? a=some { cls:=.none,data:=.fields ps }|.met f x=>h.get? a=some (F7 (.ref f) (.ref x))|.ext φ=>φ h/\(∃o,h.get? a=some o)/\∀h1 h2:Heap,φ h1->(∀o,h1.get? a=some o->h2.get? a=some o)->φ h2
noncomputable def HOk(H:Hp)(h:Heap):Prop:=∀a o,H a=some o->eD P w H h a o
end
section
variable {P:A0} {w:AN} {H H':Hp} {h h':Heap} {a:Addr} {o:HO}
theorem eD.lt(x:eD P w H h a o):a<h.objs.size:=by
 cases o with
 | lst xs=>obtain⟨_,_,_,_,e⟩:=x;exact Am e|tup xs=>obtain⟨_,_,_,p⟩:=x;exact p.lt|dK kvs=>obtain⟨_,_,_,_,o,_,_,e,_⟩:=x;exact Am e|dT kvs=>obtain⟨_,_,_,_,o,_,_,e,_⟩:=x;exact Am e|set S n=>obtain⟨o,_,_,_,e,_⟩:=x;exact Am e|ins C dx fs=>obtain⟨_,_,_,e,_⟩:=x;exact Am e|own y=>obtain⟨_,e⟩:=x;exact Am e|xd fs=>obtain⟨_,⟨_,_,_,e,_⟩,_⟩:=x;exact Am e|rng lo hi=>obtain⟨_,_,_,e⟩:=x;exact Am e|frz ob u=>obtain⟨e,_⟩:=x;exact Am e|tbl ps=>exact Am (show h.get? a=some _ from x)|met f y=>exact Am (show h.get? a=some _ from x)|ext φ=>obtain⟨_,⟨_,e⟩,_⟩:=x;exact Am e
theorem Paired.mapP{α l:Type}{F G:α->l->Prop}:∀{l₁:List α} {l₂:List l},CO F l₁ l₂->(∀a b,F a b->G a b)->CO G l₁ l₂
 | _,_,.nil,_=>.nil|_,_,.cons r t,f=>.cons (f _ _ r) (Paired.mapP t f)
theorem eD.stay(x:eD P w H h a o)(k:∀b u,(b=a\/H b=some (.own a))->h.get? b=some u->h'.get? b=some u)
 (I:∀b,H b=some (.own a)->H' b=some (.own a)) (L:∀b xs,H b=some (.tup xs)->H' b=some (.tup xs)):eD P w H' h' a o:=by
 induction o with
 | lst xs=>obtain⟨z,l,n,r,e⟩:=x;exact⟨z,l,n,r,k _ _ (.inl rfl) e⟩|tup xs=>obtain⟨z,l,r,ob,e,c⟩:=x;exact⟨z,l,r,ob,k _ _ (.inl rfl) e,c⟩|dK kvs=>obtain⟨z,y,vs,r,ob,es,ep,e,c⟩:=x;exact⟨z,y,vs,r,ob,es,ep,k _ _ (.inl rfl) e,c⟩|dT kvs=>obtain⟨z,y,xs,r,ob,es,ep,e,c⟩:=x;exact⟨z,y,xs,Paired.mapP r λp q z=>⟨z.1,L _ _ z.2.1,z.2.2⟩,ob,es,ep,k _ _ (.inl rfl) e,c⟩|set S n=>obtain⟨ob,es,ep,t,e,c⟩:=x;exact⟨ob,es,ep,t,k _ _ (.inl rfl) e,c⟩|ins C dx fs=>obtain⟨d,z,ne,e,B,⟨od,es,ep,G,c⟩,r⟩:=x;exact⟨I _ d,z,ne,k _ _ (.inl rfl) e,B,⟨od,es,ep,k _ _ (.inr d) G,c⟩,r⟩|own y=>obtain⟨ob,e⟩:=x;exact⟨ob,k _ _ (.inl rfl) e⟩|xd fs=>obtain⟨B,⟨od,es,ep,e,c⟩,r⟩:=x;exact⟨B,⟨od,es,ep,k _ _ (.inl rfl) e,c⟩,r⟩|rng lo hi=>obtain⟨t,u,v,e⟩:=x;exact⟨t,u,v,k _ _ (.inl rfl) e⟩|frz ob u M=>obtain⟨e,q⟩:=x;exact⟨k _ _ (.inl rfl) e,M q⟩|tbl ps=>have e:h.get? a=some { cls:=.none,data:=.fields ps }:=x;show h'.get? a=some { cls:=.none,data:=.fields ps };exact k a _ (.inl rfl) e|met f y=>have e:h.get? a=some (F7 (.ref f) (.ref y)):=x;show h'.get? a=some (F7 (.ref f) (.ref y));exact k a _ (.inl rfl) e|ext φ=>obtain⟨p,⟨o,e⟩,st⟩:=x;exact⟨st _ _ p λo q=>k _ _ (.inl rfl) q,⟨o,k _ _ (.inl rfl) e⟩,st⟩
theorem HOk.lt(x:HOk P w H h)(e:H a=some o):a<h.objs.size:=(x a o e).lt
theorem HOk.fresh(x:HOk P w H h)(e:h.objs.size<=a):H a=none:=by
 cases q:H a with
 | none=>rfl|some u=>exact absurd (AH (x.lt q) e) (AY _)
theorem HOk.kept(x:HOk P w H h)(k:∀b u,h.get? b=some u->h'.get? b=some u):HOk P w H h':=λa o e=>(x a o e).stay (λb u _ q=>k b u q) (λ_ q=>q) λ_ _ q=>q
theorem HOk.laid(x:HOk P w H h)(k:∀b u,h.get? b=some u->h'.get? b=some u)(G:h.objs.size<=a)(new:eD P w (upd H a o) h' a o):HOk P w (upd H a o) h':=λb u e=>by have B:=x.fresh G;by_cases l:b=a;subst l;rw[bP] at e;cases e;exact new;rw[aM l] at e;exact(x b u e).stay (λc v _ q=>k c v q) (λc q=>by rw[aM (bB q B)];exact q) λc xs q=>by rw[aM (bB q B)];exact q
end
noncomputable def Rd(H:Hp)(a:Addr)(u:HO):Prop:=H a=some u\/∃o,H a=some (.frz o u)
theorem Rd.ok{P:A0}{w:AN}{H:Hp}{h:Heap}{a:Addr}{u:HO}(r:Rd H a u)(x:HOk P w H h):eD P w H h a u:=by
 rcases r with r|⟨o,r⟩
 exact x a u r;obtain⟨_,q⟩:=x a _ r;exact q
noncomputable def Mut:Option HO->Prop
 | some (.lst _)=>True|some (.dK _)=>True|some (.dT _)=>True|some (.set _ _)=>True|some (.ins _ _ _)=>True|some (.ext _)=>True|_=>False
section
variable {P:A0} {w:AN} {H:Hp} {h h':Heap} {x e:Addr} {o':HO}
theorem HOk.write(ok:HOk P w H h)(M:Mut (H x))(W:e=x\/H e=some (.own x))(k:∀b u,b≠e->h.get? b=some u->h'.get? b=some u)(U:∃u,h'.get? e=some u)
 (new:eD P w (upd H x o') h' x o'):HOk P w (upd H x o') h':=λb u q=>by
 have B:∀c y,H c=some (.own y)->c≠x:=λc y r z=>by subst z;rw[r] at M;exact M
 have G:∀c xs,H c=some (.tup xs)->c≠x:=λc xs r z=>by subst z;rw[r] at M;exact M
 by_cases I:b=x;subst I;rw[bP] at q;cases q;exact new;rw[aM I] at q;by_cases l:b=e;have q':H b=some (.own x):=by rcases W with z|z;exact absurd (l.trans z) I;rw[l];exact z
 rw[q] at q';cases q';obtain⟨v,hv⟩:=U;exact⟨v,by rw[l];exact hv⟩;refine(ok b u q).stay (λc v L r=>k c v ?_ r) (λc r=>by rw[aM (B c b r)];exact r) λc xs r=>by rw[aM (G c xs r)];exact r
 rcases L with rfl|L;exact l;rintro rfl;rcases W with z|z;exact B c b L z;rw[L] at z;cases z;exact I rfl
end
structure Un (fs ex:List Addr) (H H':Hp) (h h':Heap):Prop where
 keep:∀b o,h.get? b=some o->H b=none->b∉fs->b∉ex->h'.get? b=some o
 slot:∀b o,h.get? b=some o->H b=none->b∈fs->b∉ex->∃sl,h'.get? b=some { o with slots:=sl }
 free:∀b o,h.get? b=some o->H b=none->b∉ex->H' b=none
 there:∀b o,h.get? b=some o->b∉ex->∃o',h'.get? b=some o'
 tups:∀b xs,H b=some (.tup xs)->H' b=some (.tup xs)
 frzs:∀b o u,H b=some (.frz o u)->H' b=some (.frz o u)
 tbls:∀b ps,H b=some (.tbl ps)->∃more,H' b=some (.tbl (ps++more))
section
variable {fs fs' ex ex':List Addr} {H H1 H2:Hp} {h h1 h2 h':Heap} {a x e:Addr} {o:HO}
theorem Un.any(u:Un fs ex H H1 h h1){b:Addr}{ob:Obj}(q:h.get? b=some ob)(n:H b=none)(B:b∉ex):∃sl,h1.get? b=some { ob with slots:=sl }:=by by_cases l:b∈fs;exact u.slot b ob q n l B;exact⟨ob.slots,u.keep b ob q n l B⟩
theorem Un.kept(k:∀b u,h.get? b=some u->h'.get? b=some u):Un fs ex H H h h':=
 ⟨λb ob q _ _ _=>k b ob q,λb ob q _ _ _=>⟨ob.slots,k b ob q⟩,λ_ _ _ n _=>n,λb ob q _=>⟨ob,k b ob q⟩,λ_ _ q=>q,λ_ _ _ q=>q,λ_ ps q=>⟨#[],by rw[q];simp⟩⟩
theorem Un.refl:Un fs ex H H h h:=Un.kept λ_ _ q=>q
theorem Un.laid(k:∀b u,h.get? b=some u->h'.get? b=some u)(B:h.objs.size<=a)(l:H a=none):Un fs ex H (upd H a o) h h' where
 keep:=λb u q _ _ _=>k b u q
 slot:=λb u q _ _ _=>⟨u.slots,k b u q⟩
 free:=λb u q n _=>by rw[aM (A4 (AH (Am q) B))];exact n
 there:=λb u q _=>⟨u,k b u q⟩
 tups:=λb xs q=>by rw[aM (bB q l)];exact q
 frzs:=λb u xs q=>by rw[aM (bB q l)];exact q
 tbls:=λb ps q=>⟨#[],by rw[aM (bB q l),q];simp⟩
theorem Un.write(B:Mut (H x))(U:e=x\/H e=some (.own x))(k:∀b u,b≠e->h.get? b=some u->h'.get? b=some u)(G:∃u,h'.get? e=some u):Un fs ex H (upd H x o) h h':=by
 have M:∀b,H b=none->b≠x:=λb n z=>by subst z;rw[n] at B;exact B
 have L:∀b,H b=none->b≠e:=λb n z=>by subst z;rcases U with r|r;exact M b n r;rw[n] at r;cases r
 have I:∀b u,H b=some u->¬ Mut (some u)->b≠x:=λb u q W z=>by subst z;rw[q] at B;exact W B
 refine⟨λb u q n _ _=>k b u (L b n) q,λb u q n _ _=>⟨u.slots,k b u (L b n) q⟩,λb u q n _=>by rw[aM (M b n)];exact n,λb u q _=>?_,
  λb xs q=>by rw[aM (I b _ q λz=>z)];exact q,λb u xs q=>by rw[aM (I b _ q λz=>z)];exact q,λb ps q=>⟨#[],by rw[aM (I b _ q λz=>z),q];simp⟩⟩
 by_cases l:b=e;subst l;exact G;exact⟨u,k b u l q⟩
end
noncomputable def trk(h:Heap)(H:Hp):List Addr:=(AF h.objs.size).filter λa=>(H a).isSome
noncomputable def tF(h:Heap)(H:Hp):Heap:=PySem.W.hideAll h (trk h H)
theorem aBz(h:Heap)(H:Hp):(tF h H).objs.size=h.objs.size:=PySem.W.hideAll_size _ _
theorem aCs{h:Heap}{H:Hp}{b:Addr}{o:Obj}(e:h.get? b=some o)(n:H b=none):(tF h H).get? b=some o:=
 PySem.W.hideAll_get _ e λl=>by have q:(H b).isSome=true:=(EO.mp l).2;rw[n] at q;simp at q
theorem aFd{h:Heap}{H:Hp}{b:Addr}{o:Obj}(e:(tF h H).get? b=some o):h.get? b=some o/\H b=none:=by
 have l:h.get? b=some o:=PySem.W.of_hideAll (trk h H) e;refine⟨l,?_⟩;cases q:H b with
 | none=>rfl|some x=>have B:b∈trk h H:=EO.mpr ⟨BA.mpr (Am l),by simp[q]⟩;have z:(tF h H).get? b=none:=PySem.W.hideAll_none (trk h H) B;rw[z] at e;cases e
noncomputable def aFe(g h:Heap)(L:Addr):List (Addr×Obj):=(AF h.objs.size).filterMap λa=>if a=L\/(g.get? a).isSome=true then none else (h.get? a).map λo=>(a,o)
noncomputable def rest(g h:Heap)(L d:Addr):List (Addr×Obj):=(aFe g h L).filter λp=>decide (p.1≠d)
structure Mod (K:Av) (mg:Str->Option Value) (base:Heap):Prop where
 kin:K.In base
 glob:base.Ns Bz mg
 blt:∃mb,base.Ns Hz mb/\∀x:Str,x ≠ "__name__" -> mb x=Cw x
 nolimit:base.NoLimit
set_option genInjectivity true in
structure Cx where
 prog:A0
 w:AN
 K:Av
 mg:Str->Option Value
 base:Heap
 A:AQ
 N:List Str
 s₀:Ac
 H₀:Hp
 env:JX
 outer:List JX
 stack:List JX
 ex:List Addr
 fn:Str->Bool
 calm:Bool
 pn:List (Addr×Obj)
 xe:Value->Ac->Prop
noncomputable def frs(l:List JX):List Addr:=l.filterMap (·.frame)
abbrev Cx.fs(X:Cx):List Addr:=frs X.outer
noncomputable def Vis(sc:DL)(x:Str):Prop:=sc.names.lookup x=some .local\/sc.names.lookup x=some .cell\/sc.names.lookup x=some .free
noncomputable def Loc(sc:DL)(x:Str):Prop:=sc.names.lookup x=some .local\/sc.names.lookup x=some .cell
noncomputable def aMO(env:JX)(h:Heap)(m:Str->Option Value)(x:Str)(u:Value):Prop:=
 (env.kindOf x=some .local/\m x=some u)\/((env.kindOf x=some .cell\/env.kindOf x=some .free)/\∃c,env.cells.lookup x=some c/\h.IsCell c (some u))
structure Cx.Ok (X:Cx):Prop where
 mod:Mod X.K X.mg X.base
 kind:X.env.scope.kind=.function
 glob:X.env.globals=Bz
 blt:X.env.builtins=Hz
 above:X.s₀.heap.objs.size<=X.env.locals
 inj:∀x y c,X.env.cells.lookup x=some c->X.env.cells.lookup y=some c->x=y
 has:∀x,(X.env.kindOf x=some .cell\/X.env.kindOf x=some .free)->∃c,X.env.cells.lookup x=some c
 cab:∀x c,X.fn x=true->X.env.cells.lookup x=some c->X.s₀.heap.objs.size<=c
 hd:X.calm=true->X.A.handled=none
 frames:X.A.frames=some X.stack
 stk:X.stack=X.outer\/(X.stack=X.env::X.outer/\X.env.frame=some X.env.locals)
 exf:∀b∈X.ex,b≠X.env.locals/\∀x c,X.env.cells.lookup x=some c->c≠b
 bs:∀b o,X.base.get? b=some o->X.s₀.heap.get? b=some o/\X.H₀ b=none
 bsz:X.base.objs.size<=X.s₀.heap.objs.size
 noex:∀b o,X.base.get? b=some o->b∉X.ex
 exfs:∀b∈X.ex,b∉X.fs
 funs:X.s₀.heap.FunFrames X.base X.outer
 frf:∀b∈X.fs,X.H₀ b=none
structure Inv (X:Cx) (pins:List (Addr×Obj)) (Z:List (Option V)) (H:Hp) (s:Ac):Prop where
 ok:X.Ok
 os:s.os=X.s₀.os
 bare:F8 s.gens
 base:Un X.fs X.ex X.H₀ H X.s₀.heap s.heap
 loc:∃m,s.heap.Ns X.env.locals m/\∀(i:Nat) (x:Str) (v:V),X.N[i]? = some x->Z[i]? = some (some v)->Vis X.env.scope x->∃u,bG v u/\aMO X.env s.heap m x u
 cell:∀x c,X.env.cells.lookup x=some c->∃v,s.heap.IsCell c v
 free:H X.env.locals=none
 freeC:∀x c,X.env.cells.lookup x=some c->H c=none
 pin:∀p∈X.pn++pins,s.heap.get? p.1=some p.2/\H p.1=none/\p.1≠X.env.locals/\p.1∉X.fs/\∀v,p.2.data≠.cell v
 hok:HOk X.prog X.w H s.heap
 len:Z.length=X.N.length
section
variable {X:Cx} {pins:List (Addr×Obj)} {Z:List (Option V)} {H H':Hp} {s:Ac} {h':Heap}
theorem Cx.Ok.nofr(ok:X.Ok){b:Addr}{o:Obj}(e:X.base.get? b=some o):b∉X.fs:=λl=>by have:=(ok.funs.mem l).1;rw[e] at this;cases this
theorem Inv.bs(I:Inv X pins Z H s):∀b o,X.base.get? b=some o->s.heap.get? b=some o/\H b=none:=λb o e=>⟨I.base.keep b o (I.ok.bs b o e).1 (I.ok.bs b o e).2 (I.ok.nofr e) (I.ok.noex b o e),I.base.free b o (I.ok.bs b o e).1 (I.ok.bs b o e).2 (I.ok.noex b o e)⟩
theorem Inv.bk(I:Inv X pins Z H s):∀b o,X.base.get? b=some o->s.heap.get? b=some o:=λb o e=>(I.bs b o e).1
theorem Inv.mod(I:Inv X pins Z H s):Mod X.K X.mg X.base:=I.ok.mod
theorem Inv.kIn(I:Inv X pins Z H s):X.K.In s.heap:=I.ok.mod.kin.keeps I.bk
theorem Inv.lt(I:Inv X pins Z H s):X.env.locals<s.heap.objs.size:=let ⟨_,hn,_⟩:=I.loc;hn.lt
theorem Inv.sz(I:Inv X pins Z H s):X.s₀.heap.objs.size<=s.heap.objs.size:=AC I.ok.above (Cy I.lt)
theorem Inv.nofs(I:Inv X pins Z H s){a:Addr}(h:s.heap.objs.size<=a):a∉X.fs:=λl=>by obtain⟨_,o,q,_⟩:=I.ok.funs.mem l;exact absurd (AH (Am q) (AC I.sz h)) (AY _)
theorem Inv.cne(I:Inv X pins Z H s):∀x c,X.env.cells.lookup x=some c->c≠X.env.locals:=λx c e z=>by obtain⟨v,o,B,hd⟩:=I.cell x c e;obtain⟨m,⟨o',es,ep,q,l,_⟩,_⟩:=I.loc;rw[z,q] at B;cases B;rw[l] at hd;cases hd
theorem Inv.funs(I:Inv X pins Z H s):s.heap.FunFrames X.base X.outer:=by
 have all:∀(l:List JX),(∀b∈frs l,b∈X.fs)->X.s₀.heap.FunFrames X.base l->s.heap.FunFrames X.base l:=by
  intro l
  induction l with
  | nil=>intro _ _;trivial|cons env r ih=>intro hs U;obtain⟨M,⟨L,o,G,W,ho,hd⟩,hr⟩:=U;have q:L∈X.fs:=hs L (by unfold frs;rw[BL,G];exact Ak);obtain⟨sl,e⟩:=I.base.slot L o ho (I.ok.frf L q) q λz=>I.ok.exfs L z q;exact⟨M,⟨L,_,G,W,e,hd⟩,ih (λb B=>hs b (by unfold frs;rw[BL,G];exact Ag _ B)) hr⟩
 exact all X.outer (λ_ B=>B) I.ok.funs
theorem Inv.stack(I:Inv X pins Z H s):s.heap.FunFrames X.base X.stack:=by
 rcases I.ok.stk with e|⟨e,l⟩
 rw[e];exact I.funs;rw[e];obtain⟨m,q,_⟩:=I.loc;refine .cons (by rw[I.ok.kind];decide) l q ?_ I.funs;exact Heap.get?_none_of_le (AC I.ok.bsz I.ok.above)
theorem Inv.stkSub(I:Inv X pins Z H s):∀b∈frs X.stack,b∈X.env.locals::X.fs:=λb l=>by
 rcases I.ok.stk with e|⟨e,q⟩
 rw[e] at l;exact Ag _ l;rw[e] at l;unfold frs at l;rw[BL,q] at l;exact l
theorem Inv.stkFree(I:Inv X pins Z H s):∀b∈frs X.stack,H b=none:=λb l=>by rcases Au.mp (I.stkSub b l) with e|l;rw[e];exact I.free;obtain⟨_,o,q,_⟩:=I.ok.funs.mem l;exact I.base.free b o q (I.ok.frf b l) λz=>I.ok.exfs b z l
theorem Inv.step{g':Array GH}{t':Nat}{d':Drawn}{ch:List Addr}(I:Inv X pins Z H s)
 (L:∀b∈ch,(b∈X.ex\/X.s₀.heap.objs.size<=b)/\b≠X.env.locals/\(∀x c,X.env.cells.lookup x=some c->c≠b)/\∀p∈X.pn++pins,p.1≠b)
 (keep:∀b o,b≠X.env.locals->b∉X.fs->b∉ch->s.heap.get? b=some o->H b=none->h'.get? b=some o)
 (slot:∀b o,b≠X.env.locals->b∈X.fs->b∉ch->s.heap.get? b=some o->H b=none->∃sl,h'.get? b=some { o with slots:=sl }) (free:∀b o,b∉ch->s.heap.get? b=some o->H b=none->H' b=none)
 (there:∀b o,b∉ch->s.heap.get? b=some o->∃o',h'.get? b=some o')
 (tups:∀b xs,H b=some (.tup xs)->H' b=some (.tup xs)) (frzs:∀b o u,H b=some (.frz o u)->H' b=some (.frz o u)) (tbls:∀b ps,H b=some (.tbl ps)->∃more,H' b=some (.tbl (ps++more)))
 (ns:∀m,s.heap.Ns X.env.locals m->h'.Ns X.env.locals m) (hok:HOk X.prog X.w H' h') (hg:F8 g') :
 Inv X pins Z H' { s with heap:=h',gens:=g',drawn:=d',toks:=t' }:=by
 have q0:∀b o,X.s₀.heap.get? b=some o->b≠X.env.locals:=λb o e=>A4 (AH (Am e) I.ok.above);have W:∀b o,X.s₀.heap.get? b=some o->b∉X.ex->b∉ch:=λb o e B hb=>by rcases(L b hb).1 with z|z;exact B z;exact absurd (AH (Am e) z) (AY _)
 have G:∀x c,X.env.cells.lookup x=some c->∀v,s.heap.IsCell c v->h'.IsCell c v:=λx c e v ⟨o,ho,hd⟩=>by have M:c∉ch:=λz=>(L c z).2.2.1 x c e rfl;by_cases hc:c∈X.fs;obtain⟨sl,q⟩:=slot c o (I.cne x c e) hc M ho (I.freeC x c e);exact⟨_,q,hd⟩;exact⟨o,keep c o (I.cne x c e) hc M ho (I.freeC x c e),hd⟩
 refine⟨I.ok,I.os,hg,⟨λb o e n hb B=>?_,λb o e n hb B=>?_,λb o e n B=>?_,λb o e B=>?_,λb xs e=>tups b xs (I.base.tups b xs e),λb o xs e=>frzs b o xs (I.base.frzs b o xs e),λb ps e=>?_⟩,?_,λx c e=>?_,?_,λx c e=>?_,λp hp=>?_,hok,I.len⟩;exact keep b o (q0 b o e) hb (W b o e B) (I.base.keep b o e n hb B) (I.base.free b o e n B);obtain⟨sl,U⟩:=I.base.slot b o e n hb B;obtain⟨q1,e2⟩:=slot b _ (q0 b o e) hb (W b o e B) U (I.base.free b o e n B);exact⟨q1,e2⟩;obtain⟨o',U⟩:=I.base.there b o e B;exact free b o' (W b o e B) U (I.base.free b o e n B);obtain⟨o',U⟩:=I.base.there b o e B;exact there b o' (W b o e B) U;obtain⟨m1,U⟩:=I.base.tbls b ps e;obtain⟨m2,e2⟩:=tbls b _ U;exact⟨m1++m2,by rw[e2,Array.append_assoc]⟩;obtain⟨m,hn,hl⟩:=I.loc;refine⟨m,ns m hn,λi x v U e2 e3=>?_⟩;obtain⟨u,r,l⟩:=hl i x v U e2 e3;refine⟨u,r,?_⟩;rcases l with l|⟨k,c,e,z⟩
 exact .inl l;exact .inr ⟨k,c,e,G x c e _ z⟩;obtain⟨v,z⟩:=I.cell x c e;exact⟨v,G x c e v z⟩;obtain⟨m,⟨o,_,_,ho,_⟩,_⟩:=I.loc;exact free _ o (λz=>(L _ z).2.1 rfl) ho I.free;obtain⟨v,o,ho,hd⟩:=I.cell x c e;exact free c o (λz=>(L c z).2.2.1 x c e rfl) ho (I.freeC x c e);obtain⟨e,n,ne,nf,d⟩:=I.pin p hp;have M:p.1∉ch:=λz=>(L p.1 z).2.2.2 p hp rfl;exact⟨keep p.1 p.2 ne nf M e n,free p.1 p.2 M e n,ne,nf,d⟩
theorem Inv.un{t':Nat}(I:Inv X pins Z H s)(u:Un X.fs [] H H' s.heap h')(hok:HOk X.prog X.w H' h'):Inv X pins Z H' { s with heap:=h',toks:=t' }:=by
 obtain⟨m,⟨o,es,ep,L,r⟩,_⟩:=id I.loc;obtain⟨sl,M⟩:=u.any L I.free (by simp);exact I.step (g':=s.gens) (d':=s.drawn) (ch:=[]) (λ_ z=>nomatch z) (λb o _ G _ e n=>u.keep b o e n G (by simp)) (λb o _ G _ e n=>u.slot b o e n G (by simp)) (λb o _ e n=>u.free b o e n (by simp)) (λb o _ e=>u.there b o e (by simp)) u.tups u.frzs u.tbls (λm' U=>by
  obtain⟨o',B,q,l,W⟩:=U;rw[L] at l;cases l;exact⟨_,B,q,M,W⟩) hok I.bare
theorem Inv.call{g':Array GH}{t':Nat}{d':Drawn}{ch:List Addr}(I:Inv X pins Z H s)(u:Un (frs X.stack) ch H H' s.heap h')(hok:HOk X.prog X.w H' h')(hg:F8 g')
 (q:∀b∈ch,(b∈X.ex\/X.s₀.heap.objs.size<=b)/\b≠X.env.locals/\(∀x c,X.env.cells.lookup x=some c->c≠b)/\∀p∈X.pn++pins,p.1≠b) :
 Inv X pins Z H' { s with heap:=h',gens:=g',drawn:=d',toks:=t' }:=by
 obtain⟨m,⟨o,es,ep,U,r⟩,_⟩:=id I.loc;obtain⟨sl,M⟩:=u.any U I.free λz=>(q _ z).2.1 rfl;exact I.step (ch:=ch) q (λb o M W l e n=>u.keep b o e n (λz=>(Au.mp (I.stkSub b z)).elim M W) l) (λb o _ _ l e n=>u.any e n l) (λb o l e n=>u.free b o e n l) (λb o l e=>u.there b o e l) u.tups u.frzs u.tbls (λm' hm=>by
  obtain⟨o',L,G,B,r'⟩:=hm;rw[U] at B;cases B;exact⟨_,L,G,M,r'⟩) hok hg
theorem Inv.turned{t':Nat}{it:Addr}(I:Inv X pins Z H s)(k:∀b o,b≠it->s.heap.get? b=some o->h'.get? b=some o)(hn:H it=none)(G:it≠X.env.locals)
 (L:it∈X.ex\/X.s₀.heap.objs.size<=it) (M:∀x c,X.env.cells.lookup x=some c->c≠it) (U:∀p∈X.pn++pins,p.1≠it):Inv X pins Z H { s with heap:=h',toks:=t' }:=by
 have B:∀b u,H b=some u->b≠it:=λb u e z=>by rw[z,hn] at e;cases e
 refine I.step (g':=s.gens) (d':=s.drawn) (ch:=[it]) (λb W=>?_) (λb o _ _ l e _=>k b o (λz=>l (by simp[z])) e) (λb o _ _ l e _=>⟨o.slots,k b o (λz=>l (by simp[z])) e⟩) (λ_ _ _ _ n=>n)
  (λb o l e=>⟨o,k b o (λz=>l (by simp[z])) e⟩) (λ_ _ e=>e) (λ_ _ _ e=>e) (λb ps e=>⟨#[],by rw[e];simp⟩) (λm hm=>?_) (λb u e=>?_) I.bare
 have e:b=it:=by simpa using W
 subst e;exact⟨L,G,M,U⟩;obtain⟨o,es,ep,ho,r⟩:=hm;exact⟨o,es,ep,k _ o (DI G) ho,r⟩;refine(I.hok b u e).stay (λc v l q=>k c v ?_ q) (λ_ q=>q) λ_ _ q=>q;rcases l with z|z;rw[z];exact B b u e;exact B c _ z
theorem Inv.tok(I:Inv X pins Z H s)(t:Nat):Inv X pins Z H { s with toks:=t }:=I.un (h':=s.heap) (t':=t) Un.refl I.hok
theorem Inv.kept{t':Nat}(I:Inv X pins Z H s)(k:∀b u,s.heap.get? b=some u->h'.get? b=some u):Inv X pins Z H { s with heap:=h',toks:=t' }:=I.un (Un.kept k) (I.hok.kept k)
theorem Inv.laid{a:Addr}{o:HO}{t':Nat}(I:Inv X pins Z H s)(k:∀b u,s.heap.get? b=some u->h'.get? b=some u)(l:s.heap.objs.size<=a)(new:eD X.prog X.w (upd H a o) h' a o) :
 Inv X pins Z (upd H a o) { s with heap:=h',toks:=t' }:=I.un (Un.laid k l (I.hok.fresh l)) (I.hok.laid k l new)
theorem Inv.write{x e:Addr}{o:HO}{t':Nat}(I:Inv X pins Z H s)(B:Mut (H x))(q:e=x\/H e=some (.own x))(k:∀b u,b≠e->s.heap.get? b=some u->h'.get? b=some u)(l:∃u,h'.get? e=some u)
 (new:eD X.prog X.w (upd H x o) h' x o):Inv X pins Z (upd H x o) { s with heap:=h',toks:=t' }:=I.un (Un.write B q k l) (I.hok.write B q k l new)
theorem Inv.pins_of{pins':List (Addr×Obj)}(I:Inv X pins Z H s)(h:∀p∈pins',s.heap.get? p.1=some p.2/\H p.1=none/\p.1≠X.env.locals/\p.1∉X.fs/\∀v,p.2.data≠.cell v):Inv X pins' Z H s:=
 ⟨I.ok,I.os,I.bare,I.base,I.loc,I.cell,I.free,I.freeC,λp l=>(AJ.mp l).elim (λz=>I.pin p (AS _ z)) (h p),I.hok,I.len⟩
theorem vP{N:List Str}(B:N.Nodup){i j:Nat}{x:Str}(a:N[i]? = some x)(b:N[j]? = some x):i=j:=by obtain⟨G,l⟩:=Ar.mp a;obtain⟨I,q⟩:=Ar.mp b;exact(List.getElem_inj B).mp (l.trans q.symm)
theorem rP{M:G0}{A:AQ}{E:Value->Ac->Prop}{i:Nat}{x:Str}{v:V}{u:Value}{Q:Unit->Ac->Prop}(I:Inv X pins Z H s)(hN:X.N.Nodup)(hi:X.N[i]? = some x)(L:Loc X.env.scope x)(r:bG v u)
 (h:∀s',Inv X pins (Z.set i (some v)) H s'->(∃a,CF a s.heap s'.heap/\(a=X.env.locals\/X.env.cells.lookup x=some a))->Q () s') (hf:X.fn x=true\/X.env.scope.names.lookup x=some .local:=by first|exact .inl rfl|exact .inr rfl|assumption):Al M A (storeName X.env x u) Q E s:=by
 obtain⟨m,hn,hl⟩:=id I.loc;have q3:(X.env.scope.kind==.class||(X.env.scope.kind==.module&&X.env.locals != X.env.globals))=false:=by rw[I.ok.kind];rfl
 have q4:i<Z.length:=by rw[I.len];exact(Ar.mp hi).1
 have cne:=I.cne;have B:∀{a:Addr} {h':Heap},(∃o,s.heap.get? a=some o/\H a=none)->CF a s.heap h'->HOk X.prog X.w H h':=λ{a h'} ha hs b ob e=>by obtain⟨_,_,U⟩:=ha;refine(I.hok b ob e).stay (λc w' G q=>(hs.2 c ?_).trans q) (λ_ q=>q) λ_ _ q=>q;rintro rfl;rcases G with rfl|G;rw[U] at e;cases e;rw[U] at G;cases G
 rcases L with hk|hk;refine wpAny_storeName_local hk hn (λh' q7 hs=>?_) q3;obtain⟨oL,_,_,q8,_⟩:=id hn;refine h _ ⟨I.ok,I.os,I.bare,⟨λb o e n hb L=>?_,λb o e n hb L=>?_,I.base.free,λb o e L=>?_,I.base.tups,I.base.frzs,I.base.tbls⟩,⟨_,q7,λj y v' l W e3=>?_⟩,λy c e=>?_,I.free,I.freeC,λp hp=>?_,B ⟨oL,q8,I.free⟩ hs,by simpa using I.len⟩ ⟨_,hs,.inl rfl⟩;exact(hs.2 b (A4 (AH (Am e) I.ok.above))).trans (I.base.keep b o e n hb L);obtain⟨sl,l⟩:=I.base.slot b o e n hb L;exact⟨sl,(hs.2 b (A4 (AH (Am e) I.ok.above))).trans l⟩;obtain⟨o',l⟩:=I.base.there b o e L;exact⟨o',(hs.2 b (A4 (AH (Am e) I.ok.above))).trans l⟩;by_cases hj:j=i;subst hj;rw[hi] at l;cases l;rw[AU q4] at W;cases W;exact⟨u,r,.inl ⟨hk,by simp⟩⟩;rw[Ap (DI hj)] at W;obtain⟨u',r',q⟩:=hl j y v' l W e3;refine⟨u',r',?_⟩;rcases q with⟨k,e⟩|⟨k,c,e,z⟩
 refine .inl ⟨k,?_⟩;have:y≠x:=λe=>hj (vP hN l (e▸hi));simp[this,e];exact .inr ⟨k,c,e,z.sameBut hs (cne y c e)⟩;obtain⟨w',z⟩:=I.cell y c e;exact⟨w',z.sameBut hs (cne y c e)⟩;obtain⟨e,n,ne,nf,d⟩:=I.pin p hp;exact⟨(hs.2 p.1 ne).trans e,n,ne,nf,d⟩;have q0:X.fn x=true:=by rcases hf with z|z;exact z;rw[z] at hk;cases hk
 obtain⟨c,G⟩:=I.ok.has x (.inl hk);obtain⟨w',z⟩:=I.cell x c G;refine wpAny_storeName_cell I.ok.kind hk G z (λh' q1 hs=>?_);obtain⟨oc,q5,q6⟩:=id z;refine h { s with heap:=h' } ⟨I.ok,I.os,I.bare,⟨λb o e n hb L=>?_,λb o e n hb L=>?_,I.base.free,λb o e L=>?_,I.base.tups,I.base.frzs,I.base.tbls⟩,⟨m,hn.sameBut hs (DI (cne x c G)),λj y v' l W e3=>?_⟩,λy c' e=>?_,I.free,I.freeC,λp hp=>?_,B ⟨oc,q5,I.freeC x c G⟩ hs,by simpa using I.len⟩ ⟨c,hs,.inr G⟩;exact(hs.2 b (A4 (AH (Am e) (I.ok.cab x c q0 G)))).trans (I.base.keep b o e n hb L);obtain⟨sl,l⟩:=I.base.slot b o e n hb L;exact⟨sl,(hs.2 b (A4 (AH (Am e) (I.ok.cab x c q0 G)))).trans l⟩;obtain⟨o',l⟩:=I.base.there b o e L;exact⟨o',(hs.2 b (A4 (AH (Am e) (I.ok.cab x c q0 G)))).trans l⟩;by_cases hj:j=i;subst hj;rw[hi] at l;cases l;rw[AU q4] at W;cases W;exact⟨u,r,.inr ⟨.inl hk,c,G,q1⟩⟩;rw[Ap (DI hj)] at W;obtain⟨u',r',q⟩:=hl j y v' l W e3;refine⟨u',r',?_⟩;rcases q with q|⟨k,c',e,z'⟩
 exact .inl q;refine .inr ⟨k,c',e,z'.sameBut hs ?_⟩;rintro rfl;exact hj (vP hN l (I.ok.inj _ _ _ e G▸hi));by_cases q2:c'=c;subst q2;exact⟨_,q1⟩;obtain⟨w2,z2⟩:=I.cell y c' e;exact⟨w2,z2.sameBut hs q2⟩;obtain⟨e,n,ne,nf,d⟩:=I.pin p hp;refine⟨(hs.2 p.1 ?_).trans e,n,ne,nf,d⟩;intro q;rw[q,q5] at e;have q':oc=p.2:=As e;exact d w' (by rw[<-q'];exact q6)
theorem vQ{M:G0}{A:AQ}{E:Value->Ac->Prop}{i:Nat}{x:Str}{v:V}{u:Value}{Q:Unit->Ac->Prop}(I:Inv X pins Z H s)(B:X.N.Nodup)(hi:X.N[i]? = some x)(L:Loc X.env.scope x)(r:bG v u)
 (h:∀l,Inv X pins (Z.set i (some v)) H l->Q () l) (G:X.fn x=true\/X.env.scope.names.lookup x=some .local:=by first|exact .inl rfl|exact .inr rfl|assumption):Al M A (storeName X.env x u) Q E s:=
 rP I B hi L r (λl q _=>h l q) G
theorem Inv.call'{l:Ac}{ch:List Addr}(I:Inv X pins Z H s)(G:l.os=s.os)(u:Un (frs X.stack) ch H H' s.heap l.heap)(hok:HOk X.prog X.w H' l.heap)(B:F8 l.gens)
 (q:∀b∈ch,(b∈X.ex\/X.s₀.heap.objs.size<=b)/\b≠X.env.locals/\(∀x c,X.env.cells.lookup x=some c->c≠b)/\∀p∈X.pn++pins,p.1≠b):Inv X pins Z H' l:=by obtain⟨h',g',d',t',o'⟩:=l;have e:o'=s.os:=G;subst e;exact I.call (g':=g') (t':=t') (d':=d') u hok B q
end
abbrev XK:=Value->Option Addr->Hp->Prop
abbrev St:=List (Option V)
abbrev VK:=V->Hp->Prop
abbrev TE:=St->Hp->VK->Prop
abbrev TT:=St->Hp->(Bool->Hp->Prop)->Prop
abbrev TA:=St->Hp->(List V->Hp->Prop)->Prop
structure Ends where
 nx:St->Hp->Prop
 rt:VK
 bk:St->Hp->Prop:=λ_ _=>False
 ct:St->Hp->Prop:=λ_ _=>False
abbrev TS:=Ends->St->Hp->Prop
noncomputable def EP(X:Cx)(pins:List (Addr×Obj))(Z:St)(Q:VK)(u:Value)(s':Ac):Prop:=∃v H',Inv X pins Z H' s'/\bG v u/\Q v H'
noncomputable def TP(X:Cx)(pins:List (Addr×Obj))(Z:St)(Q:Bool->Hp->Prop)(b:Bool)(s':Ac):Prop:=∃H',Inv X pins Z H' s'/\Q b H'
noncomputable def AP(X:Cx)(pins:List (Addr×Obj))(Z:St)(Q:List V->Hp->Prop)(us:List Value)(s':Ac):Prop:=∃vs H',Inv X pins Z H' s'/\aO vs us/\Q vs H'
noncomputable def SP(X:Cx)(pins:List (Addr×Obj))(D:Ends)(f:Flow)(s':Ac):Prop:=
 match f with
 | .next=>∃Z' H',Inv X pins Z' H' s'/\D.nx Z' H'|.brk=>∃Z' H',Inv X pins Z' H' s'/\D.bk Z' H'|.cont=>∃Z' H',Inv X pins Z' H' s'/\D.ct Z' H'|.ret u=>∃v Z' H',Inv X pins Z' H' s'/\bG v u/\D.rt v H'
noncomputable def PE(X:Cx)(e:Aw)(t:TE):Prop:=
 ∀(pins:List (Addr×Obj)) (s:Ac) (Z:St) (H:Hp) (Q:VK),Inv X pins Z H s->t Z H Q->Al (A6 X.prog X.w) X.A (DM e X.env) (EP X pins Z Q) X.xe s
noncomputable def PT(X:Cx)(e:Aw)(t:TT):Prop:=
 ∀(pins:List (Addr×Obj)) (s:Ac) (Z:St) (H:Hp) (Q:Bool->Hp->Prop),Inv X pins Z H s->t Z H Q->Al (A6 X.prog X.w) X.A (isTrue e X.env (DM e X.env)) (TP X pins Z Q) X.xe s
noncomputable def PW(X:Cx)(e:Aw)(t:TT):Prop:=
 ∀(whole:KJ Value) (pins:List (Addr×Obj)) (s:Ac) (Z:St) (H:Hp) (Q:Bool->Hp->Prop),Inv X pins Z H s->t Z H Q->Al (A6 X.prog X.w) X.A (isTrue e X.env whole) (TP X pins Z Q) X.xe s
theorem PW.pt{X:Cx}{e:Aw}{t:TT}(h:PW X e t):PT X e t:=h _
noncomputable def PA(X:Cx)(es:List Aw)(t:TA):Prop:=
 ∀(pos:DK) (pins:List (Addr×Obj)) (s:Ac) (Z:St) (H:Hp) (Q:List V->Hp->Prop),Inv X pins Z H s->t Z H Q->Al (A6 X.prog X.w) X.A (Ha (Ew pos (Bg es X.env))) (AP X pins Z Q) X.xe s
noncomputable def PS(X:Cx)(st:CG)(t:TS):Prop:=
 ∀(pins:List (Addr×Obj)) (s:Ac) (Z:St) (H:Hp) (D:Ends),Inv X pins Z H s->t D Z H->Al (A6 X.prog X.w) X.A (exec st X.env) (SP X pins D) X.xe s
noncomputable def PSs(X:Cx)(st:List CG)(t:TS):Prop:=
 ∀(pins:List (Addr×Obj)) (s:Ac) (Z:St) (H:Hp) (D:Ends),Inv X pins Z H s->t D Z H->Al (A6 X.prog X.w) X.A (execs st X.env) (SP X pins D) X.xe s
theorem thn{α:Type}{t:KJ α}{Q l:α->Ac->Prop}{M:G0}{A:AQ}{E:Value->Ac->Prop}{s:Ac}(h:Al M A t Q E s)(q:∀a s,Q a s->l a s):Al M A t l E s:=CQ h q λ_ _ x=>x
section
variable {X:Cx}
noncomputable def aHG(i:Nat):TE:=λZ H Q=>∃v,Z[i]? = some (some v)/\Q v H
noncomputable def tC(v:V):TE:=λ_ H Q=>Q v H
theorem tG{i:Nat}{x:Str}{pos:DK}(U:X.N[i]? = some x)(hv:Vis X.env.scope x)(hd:(x==("__debug__" : Str))=false:=by decide)(L:(x==("__classdict__" : Str))=false:=by decide):PE X (.Name x pos) (aHG i):=by
 intro pins s Z H Q I h;obtain⟨v,e,h⟩:=h;obtain⟨m,hn,W⟩:=I.loc;obtain⟨u,r,l⟩:=W i x v U e hv;have B:EP X pins Z Q u s:=⟨v,H,I,r,h⟩
 rcases l with⟨G,hm⟩|⟨G,c,M,q⟩
 exact Jx (wpAny_loadName_local I.ok.kind G hn hm B) hd;rcases G with G|G;exact Jx (wpAny_loadName_cell I.ok.kind G M q B) hd;exact Jx (wpAny_loadName_free I.ok.kind G M q B L) hd
theorem aCt{i j pos}:PE X (.Constant (.int i) j pos) (tC (.int i)):=λ_ _ _ H _ I h=>wpAny_Constant_int ⟨.int i,H,I.tok _,⟨_,rfl⟩,h⟩
theorem aKe{b j pos}:PE X (.Constant (.bool b) j pos) (tC (.bl b)):=λ_ _ _ H _ I h=>Constant_bool ⟨.bl b,H,I,rfl,h⟩
theorem aHH{j pos}:PE X (.Constant .none j pos) (tC .non):=λ_ _ _ H _ I h=>Constant_none ⟨.non,H,I,rfl,h⟩
theorem aHI{x j pos}:PE X (.Constant (.str x) j pos) (tC (.str x)):=λ_ _ _ H _ I h=>Calls.Constant_str ⟨.str x,H,I.tok _,⟨_,rfl⟩,h⟩
noncomputable def Gl(X:Cx)(x:Str):Prop:=X.env.kindOf x=some .globalImplicit
theorem tH{E:Value->Ac->Prop}{pins:List (Addr×Obj)}{s:Ac}{Z:St}{H:Hp}{x:Str}{u:Value}{pos:DK}{Q:Value->Ac->Prop}(I:Inv X pins Z H s)(l:Gl X x)(q:X.mg x=some u)(h:Q u s)
 (hd:(x==("__debug__" : Str))=false:=by decide):Al (A6 X.prog X.w) X.A (DM (.Name x pos) X.env) Q E s:=
 Fh I.ok.kind l (Calls.loadGlobal_global (by rw[I.ok.glob];exact I.mod.glob.keeps I.bk) q h) hd
theorem eY{E:Value->Ac->Prop}{pins:List (Addr×Obj)}{s:Ac}{Z:St}{H:Hp}{x:Str}{u:Value}{pos:DK}{Q:Value->Ac->Prop}(I:Inv X pins Z H s)(B:Gl X x)(G:X.mg x=none)(M:Cw x=some u)(h:Q u s)
 (L:x ≠ "__name__" := by decide) (hd:(x==("__debug__" : Str))=false:=by decide):Al (A6 X.prog X.w) X.A (DM (.Name x pos) X.env) Q E s:=by obtain⟨mb,l,q⟩:=I.mod.blt;exact Fh I.ok.kind B (Calls.loadGlobal_builtin (by rw[I.ok.glob];exact I.mod.glob.keeps I.bk) G (by rw[I.ok.blt];exact l.keeps I.bk) ((q x L).trans M) h) hd
theorem aAu{x:Str}{v:V}{u:Value}{pos:DK}(l:Gl X x)(q:X.mg x=some u)(r:bG v u)(hd:(x==("__debug__" : Str))=false:=by decide):PE X (.Name x pos) (tC v):=
 λ_ _ _ H _ I h=>tH I l q ⟨v,H,I,r,h⟩ hd
variable {a b:Aw} {ta tb:TE} {pos:DK}
variable {tA tB':TT} {rest:List Aw}
noncomputable def aMP(t u:TT):TT:=λZ H Q=>t Z H λc H1=>if c=true then u Z H1 Q else Q false H1
noncomputable def tOr(t u:TT):TT:=λZ H Q=>t Z H λc H1=>if c=true then Q true H1 else u Z H1 Q
noncomputable def aMQ(t:TT):TT:=λZ H Q=>t Z H λc H1=>Q (!c) H1
theorem aFf(l:PT X a tA):PW X (.BoolOp .And [a] pos) tA:=by
 intro wh pins s Z H Q I h;refine isTrue_and (thn (l pins s Z H Q I h) λc s1 e=>?_);cases c with
 | true=>exact isTrue_and_nil e|false=>exact e
theorem aHJ(l:PT X a tA):PW X (.BoolOp .Or [a] pos) tA:=by
 intro wh pins s Z H Q I h;refine isTrue_or (thn (l pins s Z H Q I h) λc s1 e=>?_);cases c with
 | false=>exact isTrue_or_nil e|true=>exact e
theorem aHK(B:PT X a tA)(G:PW X (.BoolOp .And (b::rest) pos) tB'):PW X (.BoolOp .And (a::b::rest) pos) (aMP tA tB'):=by
 intro wh pins s Z H Q I h;refine isTrue_and (thn (B pins s Z H _ I h) λc s1 ⟨H1,l,q⟩=>?_);cases c with
 | true=>exact G wh pins s1 Z H1 Q l q|false=>exact⟨H1,l,q⟩
theorem aKf(B:PT X a tA)(G:PW X (.BoolOp .Or (b::rest) pos) tB'):PW X (.BoolOp .Or (a::b::rest) pos) (tOr tA tB'):=by
 intro wh pins s Z H Q I h;refine isTrue_or (thn (B pins s Z H _ I h) λc s1 ⟨H1,l,q⟩=>?_);cases c with
 | true=>exact⟨H1,l,q⟩|false=>exact G wh pins s1 Z H1 Q l q
theorem aHL(l:PT X a tA):PT X (.UnaryOp .Not a pos) (aMQ tA):=by intro pins s Z H Q I h;exact isTrue_not (l pins s Z H (λc H1=>Q (!c) H1) I h)
noncomputable def aKg(ta tb:TE):TE:=λZ H Q=>ta Z H λx H1=>∃c,x=.bl c/\if c=true then tb Z H1 Q else Q (.bl false) H1
noncomputable def aMR(ta tb:TE):TE:=λZ H Q=>ta Z H λx H1=>∃c,x=.bl c/\if c=true then Q (.bl true) H1 else tb Z H1 Q
theorem aCu{op}{t:TE}(h:PE X a t):PE X (.BoolOp op [a] pos) t:=λpins s Z H Q I l=>BoolOp_one (h pins s Z H Q I l)
theorem aHM(B:PE X a ta)(G:PE X (.BoolOp .And (b::rest) pos) tb):PE X (.BoolOp .And (a::b::rest) pos) (aKg ta tb):=by
 intro pins s Z H Q I h;refine BoolOp_and (thn (B pins s Z H _ I h) λv s1 ⟨x,H1,q,L,l⟩=>?_);obtain⟨c,rfl,l⟩:=l;cases L;refine Ca ?_;cases c with
 | true=>exact G pins s1 Z H1 Q q l|false=>exact⟨.bl false,H1,q,rfl,l⟩
theorem aKh(B:PE X a ta)(G:PE X (.BoolOp .Or (b::rest) pos) tb):PE X (.BoolOp .Or (a::b::rest) pos) (aMR ta tb):=by
 intro pins s Z H Q I h;refine BoolOp_or (thn (B pins s Z H _ I h) λv s1 ⟨x,H1,q,L,l⟩=>?_);obtain⟨c,rfl,l⟩:=l;cases L;refine Ca ?_;cases c with
 | false=>exact G pins s1 Z H1 Q q l|true=>exact⟨.bl true,H1,q,rfl,l⟩
noncomputable def tIf(t:TT)(ta tb:TE):TE:=λZ H Q=>t Z H λc H1=>if c=true then ta Z H1 Q else tb Z H1 Q
theorem aCv{c:Aw}(L:PT X c tA)(B:PE X a ta)(G:PE X b tb):PE X (.IfExp c a b pos) (tIf tA ta tb):=by
 intro pins s Z H Q I h;refine wpAny_IfExp (thn (L pins s Z H _ I h) λd s1 ⟨H1,l,q⟩=>?_);cases d with
 | true=>exact B pins s1 Z H1 Q l q|false=>exact G pins s1 Z H1 Q l q
end
noncomputable def SqL(K:Av)(H:Hp)(a:Addr)(xs:List V):Prop:=
 Rd H a (.lst xs) \/
  ∃(o:Obj) (its:Array Value) (n:Nat),K.lookup a=some o/\o.cls=.type "list" /\ o.dict=none/\o.data=.seq its n/\its.size<=sizeLine/\aO xs its.toList
noncomputable def SqT(K:Av)(H:Hp)(a:Addr)(xs:List V):Prop:=
 Rd H a (.tup xs) \/
  ∃(o:Obj) (its:Array Value) (n:Nat),K.lookup a=some o/\o.cls=.type "tuple" /\ o.data=.seq its n/\its.size<=sizeLine/\aO xs its.toList
noncomputable def aMS:Value->Option V
 | .none=>some .non|.bool b=>some (.bl b)|.int i _=>some (.int i)|.str x _=>some (.str x)|.bytes b _=>some (.byt b)|.float b _=>some (.flt b)|.ref a=>some (.ref a)|.type n=>some (.ty n)|_=>none
theorem bG.abs{x:V}{u:Value}(r:bG x u):aMS u=some x:=by
 cases x with
 | non=>cases r;rfl|bl _=>cases r;rfl|int _=>obtain⟨t,rfl⟩:=r;rfl|str _=>obtain⟨t,rfl⟩:=r;rfl|byt _=>obtain⟨t,rfl⟩:=r;rfl|flt _=>obtain⟨t,rfl⟩:=r;rfl|ref _=>cases r;rfl|ty _=>cases r;rfl
theorem bG.inj{x y:V}{u:Value}(r:bG x u)(q:bG y u):x=y:=As (r.abs.symm.trans q.abs)
theorem aO.inj:∀{xs ys:List V} {us:List Value},aO xs us->aO ys us->xs=ys
 | _,_,_,.nil,.nil=>rfl|_,_,_,.cons r t,.cons r' t'=>by rw[r.inj r',aO.inj t t']
section
variable {X:Cx} {pins:List (Addr×Obj)} {Z:St} {H:Hp} {s:Ac} {a:Addr} {xs ys:List V}
theorem SqL.of{K:Av}(h:H a=some (.lst xs)):SqL K H a xs:=.inl (.inl h)
theorem SqT.of{K:Av}(h:H a=some (.tup xs)):SqT K H a xs:=.inl (.inl h)
theorem Inv.list(I:Inv X pins Z H s)(h:SqL X.K H a xs):∃l:List Value,aO xs l/\PlainL s.heap a l.toArray/\xs.length<=sizeLine:=by
 rcases h with h|⟨o,l,n,B,q,hd,hs,G,r⟩
 obtain⟨z,l,n,r,e⟩:=h.ok I.hok;exact⟨l,r,⟨_,n,e,rfl,rfl,rfl⟩,z⟩;refine⟨l.toList,r,⟨o,n,I.kIn a o B,q,hd,by simpa using hs⟩,?_⟩;have e:=r.length;simp only[AK] at e;omega
theorem Inv.tuple(I:Inv X pins Z H s)(h:SqT X.K H a xs):∃l:List Value,aO xs l/\IsTup s.heap a l.toArray/\xs.length<=sizeLine:=by
 rcases h with h|⟨o,l,n,B,q,hs,G,r⟩
 obtain⟨z,l,r,p⟩:=h.ok I.hok;exact⟨l,r,p,z⟩;refine⟨l.toList,r,⟨o,I.kIn a o B,q,n,by simpa using hs⟩,?_⟩;have e:=r.length;simp only[AK] at e;omega
theorem Inv.list_inj(I:Inv X pins Z H s)(h:SqL X.K H a xs)(h':SqL X.K H a ys):xs=ys:=by
 obtain⟨l,r,⟨o,n,e,_,_,d⟩,_⟩:=I.list h;obtain⟨its',B,⟨o',G,q,_,_,d'⟩,_⟩:=I.list h';rw[e] at q;cases q;rw[d] at d';injection d' with d1 _
 have:l=its':=by simpa using congrArg Array.toList d1
 subst this;exact r.inj B
theorem Inv.tuple_inj(I:Inv X pins Z H s)(h:SqT X.K H a xs)(h':SqT X.K H a ys):xs=ys:=by
 obtain⟨l,r,⟨o,e,_,n,d⟩,_⟩:=I.tuple h;obtain⟨its',B,⟨o',q,_,G,d'⟩,_⟩:=I.tuple h';rw[e] at q;cases q;rw[d] at d';injection d' with d1 _
 have:l=its':=by simpa using congrArg Array.toList d1
 subst this;exact r.inj B
end
abbrev Cx.wish(X:Cx)(E:Value->Ac->Prop):Cx:={ X with xe:=E }
abbrev Cx.nox(X:Cx):Cx:=X.wish λ_ _=>False
theorem Cx.Ok.wish{X:Cx}(ok:X.Ok)(E:Value->Ac->Prop):(X.wish E).Ok:=
 ⟨ok.mod,ok.kind,ok.glob,ok.blt,ok.above,ok.inj,ok.has,ok.cab,ok.hd,ok.frames,ok.stk,ok.exf,ok.bs,ok.bsz,ok.noex,ok.exfs,ok.funs,ok.frf⟩
theorem Cx.Ok.unwish{X:Cx}{E:Value->Ac->Prop}(ok:(X.wish E).Ok):X.Ok:=
 ⟨ok.mod,ok.kind,ok.glob,ok.blt,ok.above,ok.inj,ok.has,ok.cab,ok.hd,ok.frames,ok.stk,ok.exf,ok.bs,ok.bsz,ok.noex,ok.exfs,ok.funs,ok.frf⟩
section
variable {X:Cx} {pins:List (Addr×Obj)} {Z:St} {H:Hp} {s:Ac} {E:Value->Ac->Prop}
theorem Inv.wish(I:Inv X pins Z H s)(E:Value->Ac->Prop):Inv (X.wish E) pins Z H s:=⟨I.ok.wish E,I.os,I.bare,I.base,I.loc,I.cell,I.free,I.freeC,I.pin,I.hok,I.len⟩
theorem Inv.unwish(I:Inv (X.wish E) pins Z H s):Inv X pins Z H s:=⟨I.ok.unwish,I.os,I.bare,I.base,I.loc,I.cell,I.free,I.freeC,I.pin,I.hok,I.len⟩
theorem SP.unwish{D:Ends}{f:Flow}{l:Ac}(h:SP (X.wish E) pins D f l):SP X pins D f l:=by
 cases f with
 | next=>obtain⟨Z',H',I,q⟩:=h;exact⟨Z',H',I.unwish,q⟩|brk=>obtain⟨Z',H',I,q⟩:=h;exact⟨Z',H',I.unwish,q⟩|cont=>obtain⟨Z',H',I,q⟩:=h;exact⟨Z',H',I.unwish,q⟩|ret u=>obtain⟨v,Z',H',I,r,q⟩:=h;exact⟨v,Z',H',I.unwish,r,q⟩
theorem PSs.nox{st:List CG}{t:TS}(h:PSs X.nox st t):PSs X st t:=λpins s Z H D I l=>CQ (h pins s Z H D (I.wish _) l) (λ_ _ q=>q.unwish) λ_ _ z=>D2 z
end
section
variable {X:Cx} {st:CG} {rest:List CG} {t u:TS} {e:Aw} {te:TE} {pos:DK}
noncomputable def aGT:TS:=λD Z H=>D.nx Z H
noncomputable def aMT(t u:TS):TS:=λD Z H=>t { D with nx:=u D } Z H
theorem aFg:PSs X [] aGT:=λ_ _ Z H _ I h=>G1 ⟨Z,H,I,h⟩
theorem aCw(B:PS X st t)(G:PSs X rest u):PSs X (st::rest) (aMT t u):=by
 intro pins s Z H D I h;refine wpAny_execs_cons (thn (B pins s Z H { D with nx:=u D } I h) λf s1 q=>?_);cases f with
 | next=>obtain⟨Z',H',l,q⟩:=q;exact G pins s1 Z' H' D l q|ret v=>exact q|brk=>exact q|cont=>exact q
noncomputable def aHN:TS:=λD Z H=>D.bk Z H
noncomputable def aKi:TS:=λD Z H=>D.ct Z H
theorem aFh:PS X (.Pass pos) aGT:=λ_ _ Z H _ I h=>wpAny_Pass ⟨Z,H,I,h⟩
theorem aCx:PS X (.Break pos) aHN:=λ_ _ Z H _ I h=>wpAny_Break ⟨Z,H,I,h⟩
theorem vR:PS X (.Continue pos) aKi:=λ_ _ Z H _ I h=>wpAny_Continue ⟨Z,H,I,h⟩
theorem Inv.quiet{pins:List (Addr×Obj)}{Z:St}{H:Hp}{s:Ac}(I:Inv X pins Z H s):KL X.env=false:=by simp[KL,I.ok.kind]
noncomputable def aKj(te:TE):TS:=λD Z H=>te Z H λ_ H1=>D.nx Z H1
theorem nQ(q:PE X e te)(hs:Kr e none pos.line X.env=pure false:=by rfl):PS X (.Expr e pos) (aKj te):=by intro pins s Z H D I h;exact wpAny_Expr_any (thn (q pins s Z H _ I h) λv s1 ⟨x,H1,l,G,B⟩=>⟨Z,H1,l,B⟩) I.quiet hs
noncomputable def aMU(te:TE):TS:=λD Z H=>te Z H D.rt
theorem aCy(q:PE X e te):PS X (.Return (some e) pos) (aMU te):=by intro pins s Z H D I h;exact wpAny_Return_some (thn (q pins s Z H _ I h) λv s1 ⟨x,H1,l,G,B⟩=>⟨x,Z,H1,l,G,B⟩)
noncomputable def aKk:TS:=λD _ H=>D.rt .non H
theorem aFi:PS X (.Return none pos) aKk:=λ_ _ Z H _ I h=>wpAny_Return_none ⟨.non,Z,H,I,rfl,h⟩
noncomputable def aMV(c:TT)(t u:TS):TS:=λD Z H=>c Z H λb H1=>if b=true then t D Z H1 else u D Z H1
theorem aKl{c:Aw}{a b:List CG}{B:TT}(M:PT X c B)(G:PSs X a t)(L:PSs X b u):PS X (.If c a b pos) (aMV B t u):=by
 intro pins s Z H D I h;refine wpAny_If (thn (M pins s Z H _ I h) λd s1 ⟨H1,l,q⟩=>?_);cases d with
 | true=>exact G pins s1 Z H1 D l q|false=>exact L pins s1 Z H1 D l q
noncomputable def aHO:TS:=λ_ _ _=>False
theorem aCz:PS X st aHO:=λ_ _ _ _ _ _ h=>h.elim
end
abbrev TG:=V->St->Hp->(St->Hp->Prop)->Prop
abbrev TGs:=List V->St->Hp->(St->Hp->Prop)->Prop
noncomputable def PG(X:Cx)(target:Aw)(t:TG):Prop:=
 ∀(pins:List (Addr×Obj)) (s:Ac) (Z:St) (H:Hp) (v:V) (u:Value) (Q:St->Hp->Prop),Inv X pins Z H s->bG v u->t v Z H Q ->
  Al (A6 X.prog X.w) X.A (FZ target X.env u) (λ_ s'=>∃Z' H',Inv X pins Z' H' s'/\Q Z' H') X.xe s
noncomputable def PGs(X:Cx)(ts:List Aw)(t:TGs):Prop:=
 ∀(pins:List (Addr×Obj)) (s:Ac) (Z:St) (H:Hp) (vs:List V) (us:List Value) (Q:St->Hp->Prop),Inv X pins Z H s->aO vs us->t vs Z H Q ->
  Al (A6 X.prog X.w) X.A (assignInOrder ((D3 ts X.env).map (·.2)) us) (λ_ s'=>∃Z' H',Inv X pins Z' H' s'/\Q Z' H') X.xe s
abbrev aHP:=V->V->V->Hp->(Hp->Prop)->Prop
noncomputable def aHQ(X:Cx)(t:aHP):Prop:=
 ∀(pins:List (Addr×Obj)) (s:Ac) (Z:St) (H:Hp) (o i v:V) (ov iv u:Value) (Q:Hp->Prop),Inv X pins Z H s->bG o ov->bG i iv->bG v u->t o i v H Q ->
  Al (A6 X.prog X.w) X.A (setItem ov iv u) (λ_ s'=>∃H',Inv X pins Z H' s'/\Q H') X.xe s
section
variable {X:Cx} {pos:DK}
noncomputable def rQ(i:Nat):TG:=λv Z H Q=>Q (Z.set i (some v)) H
theorem aAv{i:Nat}{x:Str}(q:X.N.Nodup)(hi:X.N[i]? = some x)(G:Loc X.env.scope x)(B:X.fn x=true\/X.env.scope.names.lookup x=some .local:=by first|exact .inl rfl|exact .inr rfl|assumption):PG X (.Name x pos) (rQ i):=by intro pins s Z H v u Q I r h;exact HU (vQ I q hi G r (λL l=>⟨_,H,l,h⟩) B)
noncomputable def aKm:TGs:=λvs Z H Q=>vs=[]/\Q Z H
noncomputable def aGU(t:TG)(u:TGs):TGs:=λvs Z H Q=>∃v r,vs=v::r/\t v Z H λZ' H'=>u r Z' H' Q
theorem aFj:PGs X [] aKm:=by intro pins s Z H vs us Q I r h;obtain⟨e,h⟩:=h;subst e;cases r;exact assignInOrder_nil ⟨Z,H,I,h⟩
theorem aCA{e:Aw}{es:List Aw}{t:TG}{u:TGs}(G:PG X e t)(L:PGs X es u)
 (hs:(D3 (e::es) X.env).map (·.2)=FZ e X.env::(D3 es X.env).map (·.2):=by rfl):PGs X (e::es) (aGU t u):=by
 intro pins s Z H vs us Q I r h;obtain⟨v,W,B,h⟩:=h;subst B;cases r with
 | cons r U=>rw[hs];refine assignInOrder_cons (thn (G pins s Z H _ _ _ I r h) λ_ s1 ⟨q,H1,l,M⟩=>?_);exact L pins s1 q H1 _ _ Q l U M
noncomputable def aKn(K:Av)(n:Nat)(t:TGs):TG:=λv Z H Q=>∃a xs,v=.ref a/\SqT K H a xs/\xs.length=n/\t xs Z H Q
theorem aHR{es:List Aw}{k:Nat}{t:TGs}{n:Nat}(L:X.calm=true)(h:PGs X es t)
 (U:(D3 es X.env).length=n:=by rfl) (l:(D3 es X.env).findIdx? (·.1)=none:=by rfl):PG X (.Tuple es k pos) (aKn X.K n t):=by intro pins s Z H v u Q I r q;obtain⟨a,xs,G,W,M,q⟩:=q;subst G;cases r;obtain⟨q0,rv,ht,hz⟩:=I.tuple W;refine assign_Tuple_tuple (I.ok.hd L) ht (by simp[U,<-M,rv.length]) l λh' hx=>?_;have B:Inv X pins Z H { s with heap:=h' }:=I.kept (t':=s.toks) λb o e=>hx b o (A4 (Am e)) e;exact h pins _ Z H xs _ Q B (by simpa using rv) q
noncomputable def aMW(to ti:TE)(t:aHP):TG:=λv Z H Q=>to Z H λo H1=>ti Z H1 λi H2=>t o i v H2 λH3=>Q Z H3
theorem aCB{o i:Aw}{G B:TE}{t:aHP}(ho:PE X o G)(hi:PE X i B)(hs:aHQ X t)
 (ha:∀v,FZ (.Subscript o i pos) X.env v=(do
  let l<-HV [v] (DM o X.env)
  let q<-HV [v,l] (DM i X.env)
  L0 pos
  HV [v,l,q] (setItem l q v)
  release [v,l,q] []):=by intro _;rfl):PG X (.Subscript o i pos) (aMW G B t):=by intro pins s Z H v u Q I r h;rw[ha];refine Aa (Br (thn (ho pins s Z H _ I h) λl s1 ⟨x,H1,U,r1,q1⟩=>?_));refine Aa (Br (thn (hi pins s1 Z H1 _ U q1) λq s2 ⟨y,L,W,r2,q2⟩=>?_));refine Aa (Hi (Aa (Br (thn (hs pins s2 Z L x y v l q u _ W r1 r2 r q2) λ_ s3 ⟨M,I3,q3⟩=>?_))));exact wpAny_release ⟨Z,M,I3,q3⟩
noncomputable def aFk(te:TE)(g:TG):TS:=λD Z H=>te Z H λx H1=>g x Z H1 D.nx
theorem tJ{tg e:Aw}{te:TE}{g:TG}(G:PE X e te)(L:PG X tg g)(hs:swapsWithSole [tg] e pos.line X.env=pure false:=by rfl)(M:swappedStores [tg] e X.env=pure none:=by rfl)
 (B:(D3 [tg] X.env).map (·.2)=[FZ tg X.env]:=by rfl):PS X (.Assign [tg] e pos) (aFk te g):=by intro pins s Z H D I h;refine wpAny_Assign_stores (thn (G pins s Z H _ I h) λv s1 ⟨x,H1,l,W,U⟩=>?_) hs M;rw[B];exact thn (L pins s1 Z H1 x v _ l W U) λ_ s2 q=>q
theorem tK{i:Nat}{x:Str}{e:Aw}{te:TE}{l:DK}(G:X.N.Nodup)(hi:X.N[i]? = some x)(U:Loc X.env.scope x)(L:PE X e te)(hs:Kr e (some (.Name x l)) pos.line X.env=pure false:=by rfl)(M:X.fn x=true\/X.env.scope.names.lookup x=some .local:=by first|exact .inl rfl|exact .inr rfl|assumption) :
 PS X (.Assign [.Name x l] e pos) (aFk te (rQ i)):=by intro pins s Z H D I h;refine wpAny_Assign_Name (thn (L pins s Z H _ I h) λv s1 ⟨y,H1,q,r1,W⟩=>?_) hs;exact vQ q G hi U r1 (λs2 B=>⟨_,H1,B,W⟩) M
end
structure It where
 go:Nat->Hp->Prop
 yld:Nat->Hp->V->Hp->Prop
 stop:Nat->Hp->Prop
noncomputable def kB(X:Cx)(pins:List (Addr×Obj))(H:Hp)(b:Addr):Prop:=
 H b=none/\b≠X.env.locals/\b∉X.fs/\(b∈X.ex\/X.s₀.heap.objs.size<=b)/\(∀x c,X.env.cells.lookup x=some c->c≠b)/\∀p∈X.pn++pins,p.1≠b
theorem Inv.fpOk{X:Cx}{pins:List (Addr×Obj)}{Z:St}{H H':Hp}{s:Ac}{b:Addr}(I:Inv X pins Z H s)(l:s.heap.objs.size<=b)(B:H' b=none):kB X pins H' b:=by refine⟨B,CH (AH I.lt l),I.nofs l,.inr (AC I.sz l),λx c e z=>?_,λp G z=>?_⟩;obtain⟨v,q⟩:=I.cell x c e;exact absurd (AH q.lt (by rw[z];exact l)) (AY _);exact absurd (AH (Am (I.pin p G).1) (by rw[z];exact l)) (AY _)
structure yT (P:A0) (w:AN) (K:Av) (tg:Aw) (J:It) (fp:List Addr) (it:Addr) (tn:Nat->Heap->Prop):Prop where
 mem:it∈fp
 obj:∀i h,tn i h->∀b∈fp,∃o,h.get? b=some o/\∀v,o.data≠.cell v
 keep:∀i h h',tn i h->(∀b∈fp,∀o,h.get? b=some o->h'.get? b=some o)->tn i h'
 item:∀(X:Cx),X.prog=P->X.w=w->X.K=K->X.calm=true->∀(i:Nat) (pins:List (Addr×Obj)) (s:Ac) (Z:St) (H:Hp) (E:Value->Ac->Prop),Inv X pins Z H s->(∀b∈fp,kB X pins H b)->tn i s.heap->J.go i H ->
  Al (A6 P w) X.A (Ex (.ref it)) (λr s1=>∃u,r=some u /\
   Al (A6 P w) X.A (EQ tg (.ref it) u) (λ_ s2=>∃x H',Inv X pins Z H' s2/\bG x u/\J.yld i H x H'/\tn (i+1) s2.heap/\∀b∈fp,H' b=none) E s1) E s
 done:∀(X:Cx),X.prog=P->X.w=w->X.K=K->X.calm=true->∀(i:Nat) (pins:List (Addr×Obj)) (s:Ac) (Z:St) (H:Hp) (E:Value->Ac->Prop),Inv X pins Z H s->(∀b∈fp,kB X pins H b)->tn i s.heap->J.stop i H ->
  Al (A6 P w) X.A (Ex (.ref it)) (λr s1=>r=none/\Inv X pins Z H s1) E s
 self:∀(A:AQ) (i:Nat) (s:Ac) (Q:Value->Ac->Prop) (E:Value->Ac->Prop),tn i s.heap->Q (.ref it) s->Al (A6 P w) A (H0 (.ref it)) Q E s
abbrev TI:=St->Hp->(It->Hp->Prop)->Prop
noncomputable def PIE(X:Cx)(pins:List (Addr×Obj))(Z:St)(tg:Aw)(R:It->Hp->Prop)(itv:Value)(s2:Ac):Prop:=
 ∃(it:Addr) (fp:List Addr) (tn:Nat->Heap->Prop) (J:It) (H':Hp),itv=.ref it/\Inv X pins Z H' s2/\yT X.prog X.w X.K tg J fp it tn/\tn 0 s2.heap/\(∀b∈fp,kB X pins H' b)/\R J H'
noncomputable def PI(X:Cx)(tg iter:Aw)(wi:TI):Prop:=
 ∀(pins:List (Addr×Obj)) (s:Ac) (Z:St) (H:Hp) (R:It->Hp->Prop),Inv X pins Z H s->wi Z H R ->
  Al (A6 X.prog X.w) X.A (DM iter X.env) (λv s1=>Al (A6 X.prog X.w) X.A (H0 v) (PIE X pins Z tg R) X.xe s1) X.xe s
theorem oH{M:G0}{A:AQ}{E:Value->Ac->Prop}{s:Ac}{tg:Aw}{it:Addr}{u:Value}{o:Obj}{n:String}{vs:Array Value}{Q:Unit->Ac->Prop}(G:s.heap.get? it=some o)(q:o.cls=.type n)(hd:o.data=.fields vs)
 (B:["enumerate", "zip", "dict_itemiterator", "dict_reverseitemiterator", "odict_iterator", "itertools.zip_longest", "itertools.pairwise"].contains n=false) (l:Q () s):Al M A (EQ tg (.ref it) u) Q E s:=by
 unfold EQ;cases tg <;> first
  | exact Ad l
  | (cases u <;> first
   | exact Ad l
   | (refine Aa (wpAny_load G ?_)
      rw[q,hd];show Al M A (if (["enumerate", "zip", "dict_itemiterator", "dict_reverseitemiterator", "odict_iterator", "itertools.zip_longest", "itertools.pairwise"].contains n&&vs[0]?==some (C0 _))=true then _ else _) Q E s;rw[if_neg (by intro h;rw[B,Fi] at h;cases h)];exact Ad l))
noncomputable def Itl(K:Av)(a:Addr):It:=
 ⟨λi H=>∃xs x,SqL K H a xs/\xs[i]? = some x,λi H x H'=>H'=H/\∀xs,SqL K H a xs->xs[i]? = some x,λi H=>∃xs,SqL K H a xs/\xs.length<=i⟩
noncomputable def Itt(K:Av)(a:Addr):It:=
 ⟨λi H=>∃xs x,SqT K H a xs/\xs[i]? = some x,λi H x H'=>H'=H/\∀xs,SqT K H a xs->xs[i]? = some x,λi H=>∃xs,SqT K H a xs/\xs.length<=i⟩
noncomputable def Itr(lo:Int)(n:Nat):It:=⟨λi _=>i<n,λi H x H'=>H'=H/\x=.int (lo+i),λi _=>n<=i⟩
theorem aBA{P:A0}{w:AN}{K:Av}{tg:Aw}(a it:Addr):yT P w K tg (Itl K a) [it] it (λi h=>h.IsListIter it a i) where
 mem:=by simp
 obj:=λi h st b l=>by
  have e:b=it:=by simpa using l
  subst e;obtain⟨o,e,c,d⟩:=st;exact⟨o,e,λv z=>by rw[d] at z;cases z⟩
 keep:=λi h h' st k=>st.at λo e=>k it (by simp) o e
 item:=by intro X L U G hc i pins s Z H E I q st M;subst L U G;obtain⟨xs,x,B,W⟩:=M;obtain⟨q0,rv,p,hz⟩:=I.list B;obtain⟨u,hu,ru⟩:=rv.get W;obtain⟨f0,f1,f2,f3,f4,f5⟩:=q it (by simp);refine wpAny_pyNext_list_item st p.isList (x:=u) (by simpa using hu) λh' st' sb=>?_;have I1:Inv X pins Z H { s with heap:=h' }:=I.turned (t':=s.toks) (λb o l e=>(sb.2 b l).trans e) f0 f1 f3 f4 f5;obtain⟨o,e,c,d⟩:=id st';exact⟨u,rfl,oH (s:={ s with heap:=h' }) e c d (by decide) ⟨x,H,I1,ru,⟨rfl,λys hy=>by rw[I.list_inj hy B];exact W⟩,st',λb l=>(q b l).1⟩⟩
 done:=by intro X L U G hc i pins s Z H E I q st M;subst L U G;obtain⟨xs,B,W⟩:=M;obtain⟨q0,rv,p,hz⟩:=I.list B;obtain⟨f0,f1,f2,f3,f4,f5⟩:=q it (by simp);have hl:=rv.length;exact wpAny_pyNext_list_end (I.ok.hd hc) st p.isList (by simp;omega) λh' eb=>⟨rfl,I.turned (t':=s.toks) (λb o l e=>eb b o l e) f0 f1 f3 f4 f5⟩
 self:=λ_ _ _ _ _ st h=>wpAny_pyIter_listiter st h
theorem yU{P:A0}{w:AN}{K:Av}{tg:Aw}(a it:Addr):yT P w K tg (Itt K a) [it] it (λi h=>h.IsTupleIter it a i) where
 mem:=by simp
 obj:=λi h st b l=>by
  have e:b=it:=by simpa using l
  subst e;obtain⟨o,e,c,d⟩:=st;exact⟨o,e,λv z=>by rw[d] at z;cases z⟩
 keep:=λi h h' st k=>st.at λo e=>k it (by simp) o e
 item:=by intro X M W L hc i pins s Z H E I B st U;subst M W L;obtain⟨xs,x,G,hx⟩:=U;obtain⟨q,rv,p,hz⟩:=I.tuple G;obtain⟨u,hu,ru⟩:=rv.get hx;obtain⟨f0,f1,f2,f3,f4,f5⟩:=B it (by simp);refine wpAny_pyNext_tuple_item st (show s.heap.IsTuple a q.toArray from p) (x:=u) (by simpa using hu) λh' st' sb=>?_;have I1:Inv X pins Z H { s with heap:=h' }:=I.turned (t':=s.toks) (λb o l e=>(sb.2 b l).trans e) f0 f1 f3 f4 f5;obtain⟨o,e,c,d⟩:=id st';exact⟨u,rfl,oH (s:={ s with heap:=h' }) e c d (by decide) ⟨x,H,I1,ru,⟨rfl,λys hy=>by rw[I.tuple_inj hy G];exact hx⟩,st',λb l=>(B b l).1⟩⟩
 done:=by intro X M W L hc i pins s Z H E I B st U;subst M W L;obtain⟨xs,G,hx⟩:=U;obtain⟨q,rv,p,hz⟩:=I.tuple G;obtain⟨f0,f1,f2,f3,f4,f5⟩:=B it (by simp);have hl:=rv.length;exact wpAny_pyNext_tuple_end (I.ok.hd hc) st (show s.heap.IsTuple a q.toArray from p) (by simp;omega) λh' eb=>⟨rfl,I.turned (t':=s.toks) (λb o l e=>eb b o l e) f0 f1 f3 f4 f5⟩
 self:=λ_ _ _ _ _ st h=>wpAny_pyIter_tupleiter st h
theorem yV{P:A0}{w:AN}{K:Av}{tg:Aw}(it:Addr)(lo:Int)(n:Nat):yT P w K tg (Itr lo n) [it] it (λi h=>KM h it (lo+(i:Nat)*1) ((n:Int)-(i:Nat)) 1) where
 mem:=by simp
 obj:=λi h st b l=>by
  have e:b=it:=by simpa using l
  subst e;exact⟨_,st,λv z=>by
   have z':Ja _=ID v:=z;cases z'⟩
 keep:=λi h h' st k=>k it (by simp) _ st
 item:=by intro X G U B L i pins s Z H E I q st M;subst G U B;obtain⟨f0,f1,f2,f3,f4,f5⟩:=q it (by simp);have W0:=Walks.range (prog:=X.prog) (w:=X.w) (I.ok.hd L) it lo 1 n;refine W0.item i s _ _ M st λv h' tk hv st' kk=>?_;obtain⟨t,rfl⟩:=hv;have W:Inv X pins Z H { s with heap:=h',toks:=tk }:=I.turned (λb o l e=>kk b o (by simpa using l) e) f0 f1 f3 f4 f5;refine⟨_,rfl,oH (s:={ s with heap:=h',toks:=tk }) (n:= "range_iterator") st' rfl rfl (by decide) ⟨.int (lo+i),H,W,⟨t,?_⟩,⟨rfl,rfl⟩,st',λb l=>(q b l).1⟩⟩;rw[Int.mul_one]
 done:=by intro X G U B L i pins s Z H E I q st M;subst G U B;obtain⟨f0,f1,f2,f3,f4,f5⟩:=q it (by simp);exact wpAny_pyNext_range_end (I.ok.hd L) st (by have:n<=i:=M;omega) λh' eb=>⟨rfl,I.turned (t':=s.toks) (λb o l e=>eb b o l e) f0 f1 f3 f4 f5⟩
 self:=λ_ _ _ _ _ st h=>wpAny_pyIter_rangeiter st h
section
variable {X:Cx} {tg:Aw}
theorem vS{pins:List (Addr×Obj)}{Z:St}{H:Hp}{s:Ac}{R:It->Hp->Prop}{E:Value->Ac->Prop}{lo hi:Int}{t u v:Lz}{tk:Nat}(I:Inv X pins Z H s)(L:-(2 ^ 62)<=lo)(M:lo<2 ^ 62)(U:-(2 ^ 62)<=hi)(W:hi<2 ^ 62)
 (q:R (Itr lo (hi-lo).toNat) H):Al (A6 X.prog X.w) X.A (H0 (.ref s.heap.objs.size)) (PIE X pins Z tg R) E { s with heap:=s.heap.push { cls:=.type "range",data:=.fields #[.int lo t,.int hi u,.int 1 v] },toks:=tk }:=by
 refine wpAny_pyIter_range (IsRange.new ..) (small_one L M U W) ?_;have l:Inv X pins Z H { s with heap:=s.heap.push { cls:=.type "range",data:=.fields #[.int lo t,.int hi u,.int 1 v] },toks:=tk }:=I.kept λb o e=>Ab _ e;refine⟨(s.heap.push { cls:=.type "range",data:=.fields #[.int lo t,.int hi u,.int 1 v] }).objs.size,[(s.heap.push { cls:=.type "range",data:=.fields #[.int lo t,.int hi u,.int 1 v] }).objs.size],_,_,H,rfl,
  l.kept (t':=tk) λb o e=>Ab _ e,yV _ lo (hi-lo).toNat,?_,λb hb=>?_,q⟩
 have B:lo+((0:Nat):Int)*1=lo:=by simp
 have G:(((hi-lo).toNat:Nat):Int)-((0:Nat):Int)=Ks lo hi 1:=by rw[rangeSize_one];split <;> omega
 show KM _ _ (lo+((0:Nat):Int)*1) ((((hi-lo).toNat:Nat):Int)-((0:Nat):Int)) 1;rw[B,G];exact Ao _ rfl;have e:b=(s.heap.push { cls:=.type "range",data:=.fields #[.int lo t,.int hi u,.int 1 v] }).objs.size:=by simpa using hb
 subst e;exact l.fpOk (Ah _) (l.hok.fresh (Ah _))
noncomputable def aKo(ta:TA):TI:=λZ H R=>ta Z H λvs H1=>∃j:Int,vs=[.int j]/\-(2 ^ 62)<=j/\j<2 ^ 62/\R (Itr 0 j.toNat) H1
noncomputable def aKp(ta:TA):TI:=λZ H R=>ta Z H λvs H1=>∃i j:Int,vs=[.int i,.int j]/\(-(2 ^ 62)<=i/\i<2 ^ 62/\-(2 ^ 62)<=j/\j<2 ^ 62)/\R (Itr i (j-i).toNat) H1
theorem aBB{a:Aw}{B:TA}{p pos:DK}(M:Gl X "range")(U:X.mg "range" = none)(L:PA X [a] B)(hs:Bg [a] X.env=[(false,DM a X.env)]:=by rfl):PI X tg (.Call (.Name "range" p) [a] [] pos) (aKo B):=by
 intro pins s Z H R I h;refine Call_ (eY I M U boot_range (B6 (thn (L pos pins s Z H _ I h) λus s1 ⟨vs,H1,G,r1,l⟩=>?_) hs rfl));obtain⟨j,e,l,W,q⟩:=l;subst e;cases r1 with
 | cons r rr=>cases rr;obtain⟨t,rfl⟩:=r;exact call_range_1 (vS G (by omega) (by omega) l W (by simpa using q))
theorem aBC{a b:Aw}{L:TA}{p pos:DK}(W:Gl X "range")(hm:X.mg "range" = none)(U:PA X [a,b] L)(hs:Bg [a,b] X.env=[(false,DM a X.env),(false,DM b X.env)]:=by rfl)(l:Bg [b] X.env=[(false,DM b X.env)]:=by rfl) :
 PI X tg (.Call (.Name "range" p) [a,b] [] pos) (aKp L):=by
 intro pins s Z H R I h;refine Call_ (eY I W hm boot_range (B6 (thn (U pos pins s Z H _ I h) λus s1 ⟨vs,H1,M,r1,B⟩=>?_) (by rw[hs,l]) (by rw[l];rfl)));obtain⟨i,j,e,⟨B,q2,q3,q4⟩,q⟩:=B;subst e;cases r1 with
 | cons r G=>
  cases G with
  | cons r' G=>cases G;obtain⟨t,rfl⟩:=r;obtain⟨t',rfl⟩:=r';exact call_range_2 (vS M B q2 q3 q4 q)
noncomputable def aMX(wi:TI)(g:TG)(tb:TS):TS:=λD Z H=>wi Z H λJ H1=>∃W0:Nat->Nat->St->Hp->Prop,(∃m,W0 0 m Z H1)/\∀i m Z H,W0 i m Z H ->
 (J.stop i H/\D.nx Z H)\/(J.go i H/\∃N:St->Hp->Prop,(∀Z' H',N Z' H'->∃m',m'<m/\W0 (i+1) m' Z' H')/\∀x H',J.yld i H x H'->g x Z H' λZ2 H2=>tb { D with nx:=N,ct:=N,bk:=D.nx } Z2 H2)
noncomputable def oJ(fp:List Addr)(h:Heap):List (Addr×Obj):=fp.filterMap λb=>(h.get? b).map λo=>(b,o)
theorem gC{fp:List Addr}{h:Heap}{b:Addr}{o:Obj}(l:b∈fp)(e:h.get? b=some o):(b,o)∈oJ fp h:=Bs.mpr ⟨b,l,by rw[e];rfl⟩
theorem aBD{fp:List Addr}{h:Heap}{p:Addr×Obj}(G:p∈oJ fp h):p.1∈fp/\h.get? p.1=some p.2:=by
 obtain⟨b,B,e⟩:=Bs.mp G;cases q:h.get? b with
 | none=>rw[q] at e;cases e|some o=>rw[q] at e;have l:(b,o)=p:=As e;subst l;exact⟨B,q⟩
theorem Inv.pinned{pins:List (Addr×Obj)}{Z:St}{H:Hp}{s:Ac}{fp:List Addr}(I:Inv X pins Z H s)(B:∀b∈fp,kB X pins H b)(G:∀b∈fp,∃o,s.heap.get? b=some o/\∀v,o.data≠.cell v):Inv X (pins++oJ fp s.heap) Z H s:=
 I.pins_of λp L=>(AJ.mp L).elim (λz=>I.pin p (AB _ z)) λz=>by obtain⟨q,e⟩:=aBD z;obtain⟨f0,f1,f2,_⟩:=B p.1 q;obtain⟨o,l,d⟩:=G p.1 q;rw[e] at l;cases l;exact⟨e,f0,f1,f2,d⟩
theorem Inv.unpinned{pins pl:List (Addr×Obj)}{Z:St}{H:Hp}{s:Ac}(I:Inv X (pins++pl) Z H s):Inv X pins Z H s:=I.pins_of λp l=>I.pin p (AB _ (AS _ l))
theorem aHS{M:Aw}{body:List CG}{wi:TI}{g:TG}{tb:TS}{pos:DK}(hp:PassesOwn (A6 X.prog X.w) X.A X.env X.xe)(hc:X.calm=true)(hi:PI X tg M wi)(hg:PG X tg g)(L:PSs X body tb)
 (hs:∀x,C4 M X.env x=pure x:=by intro _;rfl):PS X (.For tg M body [] pos) (aMX wi g tb):=by
 intro pins s Z H D I h;refine wpAny_For (thn (hi pins s Z H _ I h) λv s1 h1=>thn h1 λq9 s2 h2=>?_) hs;obtain⟨it,fp,tn,J,H2,e,I2,T,q8,f2,W0,⟨m0,w0⟩,q3⟩:=h2;subst e;have U:∀{H':Hp},(∀b∈fp,H' b=none)->∀b∈fp,kB X pins H' b:=λhn b L=>⟨hn b L,(f2 b L).2⟩
 refine codeAny_forLoop_any (λn s'=>∃i Z' H',Inv X pins Z' H' s'/\tn i s'.heap/\(∀b∈fp,H' b=none)/\W0 i n Z' H') ?_ m0 ⟨0,Z,H2,I2,q8,λb L=>(f2 b L).1,w0⟩;rintro n s3 ⟨i,Z3,H3,I3,q2,q1,w3⟩;rcases q3 i n Z3 H3 w3 with⟨stop,qn⟩|⟨go,N,hN,step⟩
 refine Em hp (thn (T.done X rfl rfl rfl hc i pins s3 Z3 H3 X.xe I3 (U q1) q2 stop) λr s4 ⟨hr,I4⟩=>?_);subst hr;exact G1 ⟨Z3,H3,I4,qn⟩;refine Em hp (thn (T.item X rfl rfl rfl hc i pins s3 Z3 H3 X.xe I3 (U q1) q2 go) λr s4 ⟨u,hr,h4⟩=>?_);subst hr;refine Em hp (thn h4 λ_ s5 ⟨x,H5,I5,r5,y5,q0,q5⟩=>?_);have q4:=I5.pinned (U q5) (T.obj _ _ q0);refine Em hp (thn (hg _ s5 Z3 H5 x u _ q4 r5 (step x H5 y5)) λ_ s6 ⟨Z6,H6,I6,q6⟩=>?_);refine Em hp (thn (L _ s6 Z6 H6 _ I6 q6) λf s7 W=>?_);have G:∀{B:St} {l:Hp},Inv X (pins++oJ fp s5.heap) B l s7->N B l->∃m,m<n/\∃i Z' H',Inv X pins Z' H' s7/\tn i s7.heap/\(∀b∈fp,H' b=none)/\W0 i m Z' H':=λ{B l} q n7=>by obtain⟨m',hm,w7⟩:=hN B l n7;refine⟨m',hm,i+1,B,l,q.unpinned,T.keep _ _ _ q0 λb L o e=>(q.pin (b,o) (AB _ (AB _ (gC L e)))).1,λb L=>?_,w7⟩;obtain⟨o,e,d⟩:=T.obj _ _ q0 b L;exact(q.pin (b,o) (AB _ (AB _ (gC L e)))).2.1
 cases f with
 | next=>obtain⟨B,l,q,n7⟩:=W;exact G q n7|cont=>obtain⟨B,l,q,n7⟩:=W;exact G q n7|brk=>obtain⟨B,l,q,W⟩:=W;exact⟨B,l,q.unpinned,W⟩|ret v=>obtain⟨x7,B,l,q,r7,W⟩:=W;exact⟨x7,B,l,q.unpinned,r7,W⟩
end
abbrev R2:=V->V->Hp->VK->Prop
noncomputable def OpR(X:Cx)(f:Value->Value->KJ Value)(r:R2):Prop:=
 ∀(pins:List (Addr×Obj)) (s:Ac) (Z:St) (H:Hp) (x y:V) (v u:Value) (Q:VK),Inv X pins Z H s->bG x v->bG y u->r x y H Q ->
  Al (A6 X.prog X.w) X.A (f v u) (EP X pins Z Q) X.xe s
noncomputable def UnR(X:Cx)(f:Value->KJ Value)(r:V->Hp->VK->Prop):Prop:=
 ∀(pins:List (Addr×Obj)) (s:Ac) (Z:St) (H:Hp) (x:V) (v:Value) (Q:VK),Inv X pins Z H s->bG x v->r x H Q ->
  Al (A6 X.prog X.w) X.A (f v) (EP X pins Z Q) X.xe s
noncomputable def gP(X:Cx)(f:Value)(r:List V->Hp->VK->Prop):Prop:=
 ∀(pins:List (Addr×Obj)) (s:Ac) (Z:St) (H:Hp) (xs:List V) (us:List Value) (Q:VK),Inv X pins Z H s->aO xs us->r xs H Q ->
  Al (A6 X.prog X.w) X.A (call f us) (EP X pins Z Q) X.xe s
noncomputable def aMY(X:Cx)(r:V->Hp->(Bool->Hp->Prop)->Prop):Prop:=
 ∀(pins:List (Addr×Obj)) (s:Ac) (Z:St) (H:Hp) (x:V) (v:Value) (Q:Bool->Hp->Prop),Inv X pins Z H s->bG x v->r x H Q ->
  Al (A6 X.prog X.w) X.A (truthy v) (TP X pins Z Q) X.xe s
noncomputable def tOp(r:R2)(ta tb:TE):TE:=λZ H Q=>ta Z H λx H1=>tb Z H1 λy H2=>r x y H2 Q
noncomputable def tUn(r:V->Hp->VK->Prop)(ta:TE):TE:=λZ H Q=>ta Z H λx H1=>r x H1 Q
noncomputable def rI(C:Int->Int->Prop)(g:Int->Int->V):R2:=λx y H Q=>∃i j,x=.int i/\y=.int j/\C i j/\Q (g i j) H
noncomputable def rI0(g:Int->Int->V):R2:=λx y H Q=>∃i j,x=.int i/\y=.int j/\Q (g i j) H
noncomputable def rU(g:Int->V):V->Hp->VK->Prop:=λx H Q=>∃i,x=.int i/\Q (g i) H
section
variable {X:Cx} {a b c:Aw} {ta tb tc:TE} {pos:DK}
theorem aKq(M:PE X a ta)(U:PE X b tb){pins:List (Addr×Obj)}{s:Ac}{Z:St}{H:Hp}{R:V->V->Hp->Prop}(I:Inv X pins Z H s)
 (h:ta Z H λx H1=>tb Z H1 λy l=>R x y l) {Q:Value->Ac->Prop} {f:Value->Value->KJ Value}
 (W:∀v u s2 x y l,Inv X pins Z l s2->bG x v->bG y u->R x y l->Al (A6 X.prog X.w) X.A (f v u) Q X.xe s2) :
 Al (A6 X.prog X.w) X.A (DM a X.env) (λv q=>Al (A6 X.prog X.w) X.A (DM b X.env) (λu B=>Al (A6 X.prog X.w) X.A (f v u) Q X.xe B) X.xe q) X.xe s:=by refine thn (M pins s Z H _ I h) λv s1 ⟨x,H1,G,r1,q1⟩=>?_;refine thn (U pins s1 Z H1 _ G q1) λu s2 ⟨y,l,L,r2,q2⟩=>?_;exact W v u s2 x y l L r1 r2 q2
theorem aGV{op:UnaryOp}{r:V->Hp->VK->Prop}(B:UnR X (unaryOp op) r)(q:PE X a ta):PE X (.UnaryOp op a pos) (tUn r ta):=by intro pins s Z H Q I h;exact UnaryOp_ (thn (q pins s Z H _ I h) λv s1 ⟨x,H1,l,L,G⟩=>B pins s1 Z H1 x v Q l L G)
theorem opI{f:Value->Value->KJ Value}{C:Int->Int->Prop}{g:Int->Int->Int}
 (l:∀(i j:Int) (t u:Lz) (s:Ac) (Q:Value->Ac->Prop) (E:Value->Ac->Prop),C i j->Q (.int (g i j) s.toks) { s with toks:=s.toks+1 }->Al (A6 X.prog X.w) X.A (f (.int i t) (.int j u)) Q E s) :
 OpR X f (rI C λi j=>.int (g i j)):=by intro pins s Z H x y v u Q I G L h;obtain⟨i,j,rfl,rfl,B,q⟩:=h;obtain⟨t,rfl⟩:=G;obtain⟨t',rfl⟩:=L;exact l i j t t' s _ _ B ⟨.int (g i j),H,I.tok _,⟨_,rfl⟩,q⟩
theorem aKr{f:Value->Value->KJ Value}{g:Int->Int->Int}
 (l:∀(i j:Int) (t u:Lz) (s:Ac) (Q:Value->Ac->Prop) (E:Value->Ac->Prop),Q (.int (g i j) s.toks) { s with toks:=s.toks+1 }->Al (A6 X.prog X.w) X.A (f (.int i t) (.int j u)) Q E s) :
 OpR X f (rI0 λi j=>.int (g i j)):=by intro pins s Z H x y v u Q I B G h;obtain⟨i,j,rfl,rfl,q⟩:=h;obtain⟨t,rfl⟩:=B;obtain⟨t',rfl⟩:=G;exact l i j t t' s _ _ ⟨.int (g i j),H,I.tok _,⟨_,rfl⟩,q⟩
theorem aFl{f:Value->Value->KJ Value}{g:Int->Int->Bool}
 (l:∀(i j:Int) (t u:Lz) (s:Ac) (Q:Value->Ac->Prop) (E:Value->Ac->Prop),Q (.bool (g i j)) s->Al (A6 X.prog X.w) X.A (f (.int i t) (.int j u)) Q E s) :
 OpR X f (rI0 λi j=>.bl (g i j)):=by intro pins s Z H x y v u Q I B G h;obtain⟨i,j,rfl,rfl,q⟩:=h;obtain⟨t,rfl⟩:=B;obtain⟨t',rfl⟩:=G;exact l i j t t' s _ _ ⟨.bl (g i j),H,I,rfl,q⟩
noncomputable def aMZ(i j:Int):Prop:=0<j/\j<1073741824
noncomputable def aNa(i j:Int):Prop:=0<=j/\j<=1000000/\i.natAbs<2 ^ 64
noncomputable def aHT(i j:Int):Prop:=(-(2 ^ 64)<i/\i<2 ^ 64)\/(-(2 ^ 64)<j/\j<2 ^ 64)
theorem aHT.ok{i j:Int}(h:aHT i j):IntMulOk i j:=by
 rcases h with⟨l,q⟩|⟨l,q⟩
 exact .of_left (JY l q);exact .of_right (JY l q)
theorem aHU:OpR X (Dc .Add) (rI0 λi j=>.int (i+j)):=aKr λ_ _ _ _ _ _ _ q=>add_int q
theorem aHV:OpR X (Dc .Sub) (rI0 λi j=>.int (i-j)):=aKr λ_ _ _ _ _ _ _ q=>sub_int q
theorem aHW:OpR X (Dc .Mult) (rI aHT λi j=>.int (i*j)):=opI λ_ _ _ _ _ _ _ l q=>mul_int q l.ok
theorem aFm:OpR X (Dc .FloorDiv) (rI aMZ λi j=>.int (i / j)):=opI λi j _ _ _ _ _ l q=>by have B:(0:Int)<j:=l.1;have G:j<1073741824:=l.2;exact floordiv_int (by omega) (by rw[Int.fdiv_eq_ediv_of_nonneg i (by omega)];exact q) (.inl (PyProof.noPylong_small (by omega)))
theorem aHX:OpR X (Dc .Mod) (rI (λ_ j=>0<j) λi j=>.int (i % j)):=opI λi j _ _ _ _ _ l q=>by have B:(0:Int)<j:=l;exact mod_int' (by omega) (by rw[Int.fmod_eq_emod_of_nonneg i (by omega)];exact q)
theorem aHY:OpR X (Dc .Pow) (rI aNa λi j=>.int (i ^ j.toNat)):=opI λ_ _ _ _ _ _ _ l q=>pow_int_small l.1 l.2.1 l.2.2 q
theorem unI{f:Value->KJ Value}{g:Int->Int}
 (l:∀(i:Int) (t:Lz) (s:Ac) (Q:Value->Ac->Prop) (E:Value->Ac->Prop),Q (.int (g i) s.toks) { s with toks:=s.toks+1 }->Al (A6 X.prog X.w) X.A (f (.int i t)) Q E s) :
 UnR X f (rU λi=>.int (g i)):=by intro pins s Z H x v Q I B h;obtain⟨i,rfl,q⟩:=h;obtain⟨t,rfl⟩:=B;exact l i t s _ _ ⟨.int (g i),H,I.tok _,⟨_,rfl⟩,q⟩
theorem aCC:UnR X (unaryOp .USub) (rU λi=>.int (-i)):=unI λ_ _ _ _ _ q=>neg_int q
theorem yW{pins:List (Addr×Obj)}{Z:St}{H:Hp}{s:Ac}{Q:VK}{k l:Bool}(I:Inv X pins Z H s)(q:Q (.bl k) H)(e:k=l):EP X pins Z Q (.bool l) s:=by subst e;exact⟨.bl k,H,I,rfl,q⟩
theorem aKs:OpR X (BX .Lt) (rI0 λi j=>.bl (decide (i<j))):=aFl λ_ _ _ _ _ _ _ q=>lt_int q
theorem aKt:OpR X (BX .LtE) (rI0 λi j=>.bl (decide (i<=j))):=aFl λ_ _ _ _ _ _ _ q=>le_int q
theorem aKu:OpR X (BX .Gt) (rI0 λi j=>.bl (decide (j<i))):=aFl λ_ _ _ _ _ _ _ q=>gt_int q
theorem aKv:OpR X (BX .GtE) (rI0 λi j=>.bl (decide (j<=i))):=aFl λ_ _ _ _ _ _ _ q=>ge_int q
theorem aBE:OpR X (BX .In) (λx y H Q=>∃i j,x=.str i/\y=.str j/\Q (.bl (!(Du j i 0 j.length 1).isEmpty)) H):=by intro pins s Z H x y v u Q I l B h;obtain⟨i,j,rfl,rfl,q⟩:=h;obtain⟨t,rfl⟩:=l;obtain⟨t',rfl⟩:=B;exact in_str (yW I q rfl)
theorem aHZ:OpR X (BX .Is) (λx y H Q=>y=.non/\Q (.bl (decide (x=.non))) H):=by
 intro pins s Z H x y v u Q I l B h;obtain⟨rfl,q⟩:=h;cases B;refine is_none_gen (yW I q ?_);cases x <;> first
  | (cases l;rfl)
  | (obtain⟨t,rfl⟩:=l;rfl)
theorem aFn:OpR X (BX .IsNot) (λx y H Q=>y=.non/\Q (.bl (!decide (x=.non))) H):=by
 intro pins s Z H x y v u Q I l B h;obtain⟨rfl,q⟩:=h;cases B;refine isnot_none_gen (yW I q ?_);cases x <;> first
  | (cases l;rfl)
  | (obtain⟨t,rfl⟩:=l;rfl)
theorem aFo{op:CmpOp}{r:R2}(U:OpR X (BX op) r)(G:PE X a ta)(L:PE X b tb)(M:Hj op b=false):PE X (.Compare a [op] [b] pos) (tOp r ta tb):=by intro pins s Z H Q I h;exact wpAny_Compare1 (aKq G L I h λv u s2 x y l B W ry q=>U pins s2 Z l x y v u Q B W ry q) M
noncomputable def aGW(t:TE):TT:=λZ H Q=>t Z H λx H'=>∃k,x=.bl k/\Q k H'
theorem aFp{op:CmpOp}{r:R2}(ho:OpR X (BX op) r)(M:PE X a ta)(U:PE X b tb)(W:Hj op b=false):PT X (.Compare a [op] [b] pos) (aGW (tOp r ta tb)):=by
 intro pins s Z H Q I h;refine wpAny_isTrue_Compare1 (thn (M pins s Z H _ I h) λv s1 ⟨x,H1,B,r1,q1⟩=>thn (U pins s1 Z H1 _ B q1) λu s2 ⟨y,l,G,r2,q2⟩=>
  thn (ho pins s2 Z l x y v u _ G r1 r2 q2) λc s3 ⟨z,q,L,r3,k,e,q3⟩=>?_) W
 subst e;cases r3;exact Ca ⟨q,L,q3⟩
noncomputable def aCD(r r':R2)(ta tb tc:TE):TE:=λZ H Q=>ta Z H λx H1=>tb Z H1 λy H2=>r x y H2 λz H3=>∃k,z=.bl k /\
 (if k=true then tc Z H3 λw' H4=>r' y w' H4 Q else Q (.bl false) H3)
theorem aCE{op l:CmpOp}{r M:R2}(ho:OpR X (BX op) r)(q:OpR X (BX l) M)(ha:PE X a ta)(hb:PE X b tb)(hc:PE X c tc)
 (hm:Kt [op,l] [b,c]=false:=by with_unfolding_all rfl):PE X (.Compare a [op,l] [b,c] pos) (aCD r M ta tb tc):=by
 intro pins s Z H Q I h;refine Compare_chain (thn (ha pins s Z H _ I h) λv s1 ⟨x,H1,I1,r1,q1⟩=>chain_link (thn (hb pins s1 Z H1 _ I1 q1) λu s2 ⟨y,W,I2,U,q2⟩=>
  thn (ho pins s2 Z W x y v u _ I2 r1 U q2) λd s3 ⟨z,B,G,r3,k,e,L⟩=>?_)) hm
 subst e;cases r3;refine Ca ?_;cases k with
 | false=>exact ite_ff ⟨.bl false,B,G,rfl,L⟩|true=>exact ite_tt (chain_last (thn (hc pins s3 Z B _ G L) λw' s4 ⟨z',H4,I4,r4,q4⟩=>q pins s4 Z H4 y z' u w' Q I4 U r4 q4))
theorem aCF{op l:CmpOp}{r M:R2}(ho:OpR X (BX op) r)(q:OpR X (BX l) M)(ha:PE X a ta)(hb:PE X b tb)(hc:PE X c tc)
 (hm:Kt [op,l] [b,c]=false:=by with_unfolding_all rfl):PT X (.Compare a [op,l] [b,c] pos) (aGW (aCD r M ta tb tc)):=by
 intro pins s Z H Q I h;refine isTrue_chain (thn (ha pins s Z H _ I h) λv s1 ⟨x,H1,I1,r1,q1⟩=>test_link (thn (hb pins s1 Z H1 _ I1 q1) λu s2 ⟨y,W,I2,U,q2⟩=>
  thn (ho pins s2 Z W x y v u _ I2 r1 U q2) λd s3 ⟨z,B,G,r3,k,e,L⟩=>?_)) hm
 subst e;cases r3;refine Ca ?_;cases k with
 | false=>obtain⟨k',e',q'⟩:=L;cases e';exact ite_ff ⟨B,G,q'⟩|true=>refine ite_tt (test_last (thn (hc pins s3 Z B _ G L) λw' s4 ⟨z',H4,I4,r4,q4⟩=>thn (q pins s4 Z H4 y z' u w' _ I4 U r4 q4) λd' s5 ⟨z2,H5,I5,r5,k2,e2,q5⟩=>?_));subst e2;cases r5;exact Ca ⟨H5,I5,q5⟩
noncomputable def aFq(K:Av)(x:V)(H:Hp)(k:Bool):Prop:=
 match x with
 | .non=>k=false|.bl b=>k=b|.int i=>k=(i != 0)
 | .str y=>y.length<=sizeLine/\k=((y.length:Int) != 0)
 | .byt y=>y.size<=sizeLine/\k=((y.size:Int) != 0)
 | .ref p=>(∃xs,SqL K H p xs/\k=!xs.isEmpty)\/(∃xs,SqT K H p xs/\k=!xs.isEmpty)\/∃kvs,H p=some (.dK kvs)/\k=!kvs.isEmpty|_=>False
theorem yX{κ:Type}{kvs:List (κ×V)}{vs:List (κ×Value)}(r:KV kvs vs):(!vs.isEmpty)=!kvs.isEmpty:=by cases r <;> rfl
theorem oK{xs:List V}{l:List Value}(r:aO xs l):(!l.toArray.isEmpty)=!xs.isEmpty:=by cases r <;> simp
theorem jM:(sizeLine:Nat)<2 ^ 63:=by rw[BB];decide
theorem aCG:aMY X (λx H Q=>∃k,aFq X.K x H k/\Q k H):=by
 intro pins s Z H x v Q I G h;obtain⟨k,e,q⟩:=h;have hl:=jM;have hs:sizeLine=16777216:=BB;cases x with
 | non=>cases G;have l:k=false:=e;subst l;exact truthy_none ⟨H,I,q⟩|bl b=>cases G;have l:k=b:=e;subst l;exact Ca ⟨H,I,q⟩|int i=>obtain⟨t,rfl⟩:=G;have l:k=(i != 0):=e;subst l;exact PySem.P.truthy_int ⟨H,I,q⟩|str y=>obtain⟨t,rfl⟩:=G;obtain⟨hy,l⟩:y.length<=sizeLine/\k=((y.length:Int) != 0):=e;subst l;exact PySem.P.truthy_str (by omega) ⟨H,I.tok _,q⟩|byt y=>obtain⟨t,rfl⟩:=G;obtain⟨hy,l⟩:y.size<=sizeLine/\k=((y.size:Int) != 0):=e;subst l;exact PySem.W.truthy_bytes (by omega) ⟨H,I.tok _,q⟩|ref p=>
  cases G;have l:(∃xs,SqL X.K H p xs/\k=!xs.isEmpty)\/(∃xs,SqT X.K H p xs/\k=!xs.isEmpty)\/∃kvs,H p=some (.dK kvs)/\k=!kvs.isEmpty:=e;rcases l with⟨xs,L,l⟩|⟨xs,L,l⟩|⟨kvs,L,l⟩
  subst l;obtain⟨M,r,pl,U⟩:=I.list L;have B:=r.length;exact wpAny_truthy_list pl.isList (by simp only[Af];omega) ⟨H,I.tok _,by rw[oK r];exact q⟩;subst l;obtain⟨M,r,pl,U⟩:=I.tuple L;have B:=r.length;exact truthy_tuple pl (by simp only[Af];omega) ⟨H,I.tok _,by rw[oK r];exact q⟩;subst l;obtain⟨U,W,vs,r,m⟩:kvs.length<=sizeLine/\(p==CP)=false/\∃vs,KV kvs vs/\s.heap.DictOf (fI X.prog X.w) p vs:=I.hok p _ L;have B:kvs.length=vs.length:=FH r;exact wpAny_truthy_dict W m (by omega) ⟨H,I.tok _,by rw[yX r];exact q⟩
 | _=>exact(show False from e).elim
theorem aCH(B:PE X a ta)(G:∀l,isTrue a X.env l=(do let v<-l;L0 a.pos;HV [v] (truthy v))) :
 PT X a (λZ H Q=>ta Z H λx H'=>∃k,aFq X.K x H' k/\Q k H'):=by intro pins s Z H Q I h;exact isTrue_plain (thn (B pins s Z H _ I h) λv s1 ⟨x,H1,q,M,L⟩=>aCG pins s1 Z H1 x v Q q M L) (G _)
theorem yY:OpR X (Dc .Add) (λx y H Q=>∃i j,x=.str i/\y=.str j/\i.length+j.length<=sizeLine/\Q (.str (i++j)) H):=by intro pins s Z H x y v u Q I B G h;obtain⟨i,j,rfl,rfl,l,q⟩:=h;obtain⟨t,rfl⟩:=B;obtain⟨t',rfl⟩:=G;exact add_str (λt' tk=>⟨.str (i++j),H,I.tok _,⟨_,rfl⟩,q⟩) l
theorem aAw{x:V}{us:List Value}(r:aO [x] us):∃u,us=[u]/\bG x u:=by
 cases r with
 | cons l q=>cases q;exact⟨_,rfl,l⟩
end
noncomputable def putF(f:Str)(v:V):List (Str×V)->List (Str×V)
 | []=>[(f,v)]
 | (g,x)::r=>if g=f then (g,v)::r else (g,x)::putF f v r
structure jN (k:Nat) (A:AQ):Prop where
 hd:A.handled=none
 gd:A.guards=some []
 dp:A.depth+3*k+5<Jy
 un:A.units+16*k+200<Dz
theorem jN.deeper{k:Nat}{A:AQ}(r:jN (k+1) A)(env:JX):jN k (A.deeper env):=
 ⟨r.hd,r.gd,by have:=r.dp;show A.depth+1+3*k+5<_;omega,by have:=r.un;show A.units+3+16*k+200<_;omega⟩
theorem jN.depth{k:Nat}{A:AQ}(r:jN k A):A.depth<Jy:=by have:=r.dp;omega
noncomputable def aKw:TA:=λ_ H Q=>Q [] H
noncomputable def aKx(ta:TE)(tr:TA):TA:=λZ H Q=>ta Z H λx H1=>tr Z H1 λxs H2=>Q (x::xs) H2
section
variable {X:Cx} {e:Aw} {es:List Aw} {te:TE} {t:TA} {pos:DK}
theorem lL:PA X [] aKw:=λ_ _ _ _ H Q I h=>Ey ⟨[],H,I,.nil,h⟩
theorem iK(G:PE X e te)(L:PA X es t)(hs:Bg (e::es) X.env=(false,DM e X.env)::Bg es X.env:=by rfl):PA X (e::es) (aKx te t):=by intro pos pins s Z H Q I h;rw[hs];show Al _ _ (Ha ((false,DM e X.env)::Ew pos (Bg es X.env))) _ _ s;refine D4 (thn (G pins s Z H _ I h) λu s1 ⟨x,H1,q,W,M⟩=>?_);exact thn (L pos pins s1 Z H1 _ q M) λus s2 ⟨xs,l,B,r2,U⟩=>⟨x::xs,l,B,.cons W r2,U⟩
noncomputable def aNb(t:TA):TE:=λZ H Q=>t Z H λxs H1=>xs.length<=sizeLine/\∀p,H1 p=none->Q (.ref p) (upd H1 p (.tup xs))
noncomputable def aNc(t:TA):TE:=λZ H Q=>t Z H λxs H1=>xs.length<=sizeLine/\∀p,H1 p=none->Q (.ref p) (upd H1 p (.lst xs))
theorem aIa{x1}(h:PA X es t):PE X (.Tuple es x1 pos) (aNb t):=by intro pins s Z H Q I G;refine wpAny_Tuple_spliced (thn (h pos pins s Z H _ I G) λus s1 ⟨xs,H1,l,r,z,q⟩=>⟨by rw[<-r.length];exact z,?_⟩);have B:H1 s1.heap.objs.size=none:=l.hok.fresh (Ah _);refine⟨.ref s1.heap.objs.size,upd H1 s1.heap.objs.size (.tup xs),l.laid (t':=s1.toks) (λb u e=>Ab _ e) (Ah _) ?_,rfl,q _ B⟩;exact⟨z,us,r,⟨_,Ao _ rfl,rfl,_,rfl⟩⟩
theorem aIb(h:PA X es t):PE X (.List es pos) (aNc t):=by intro pins s Z H Q I G;refine wpAny_List_spliced (thn (h pos pins s Z H _ I G) λus s1 ⟨xs,H1,l,r,z,q⟩=>⟨by rw[<-r.length];exact z,?_⟩);have B:H1 s1.heap.objs.size=none:=l.hok.fresh (Ah _);refine⟨.ref s1.heap.objs.size,upd H1 s1.heap.objs.size (.lst xs),l.laid (t':=s1.toks) (λb u e=>Ab _ e) (Ah _) ?_,rfl,q _ B⟩;exact⟨z,us,0,r,Ao _ rfl⟩
end
abbrev Sp:=List V->Hp->VK->XK->Prop
abbrev CXT:=List JX->Hp->Ac->XK->Value->Ac->Prop
structure aFr (P:A0) (w:AN) (K:Av) (mg:Str->Option Value) (base:Heap) (A:AQ) (outer:List JX) (s:Ac) (H:Hp):Prop where
 frames:A.frames=some outer
 mod:Mod K mg base
 bs:∀b o,base.get? b=some o->s.heap.get? b=some o/\H b=none
 bsz:base.objs.size<=s.heap.objs.size
 funs:s.heap.FunFrames base outer
 frf:∀b∈frs outer,H b=none
 hok:HOk P w H s.heap
 bare:F8 s.gens
noncomputable def CE(outer:List JX)(P:A0)(w:AN)(H:Hp)(s:Ac)(Q:VK)(u:Value)(s':Ac):Prop:=
 ∃v H',s'.os=s.os/\F8 s'.gens/\Un (frs outer) [] H H' s.heap s'.heap/\HOk P w H' s'.heap/\bG v u/\Q v H'
noncomputable def CR(CX:CXT)(outer:List JX)(P:A0)(w:AN)(H:Hp)(s:Ac)(Q:VK)(E:XK)(r:GI)(s':Ac):Prop:=
 match r with
 | .ok (.ret u)=>CE outer P w H s Q u s'|.ok _=>False|.error e=>CX outer H s E e s'
structure nJ (P:A0) (w:AN) (K:Av) (mg:Str->Option Value) (base:Heap) (CX:CXT) (k:Nat) (f:Addr) (fd:DN) (ps:List Str) (sp:Sp):Prop where
 len:∀vs H Q E,sp vs H Q E->vs.length=ps.length
 run:∀(A:AQ) (outer:List JX) (s:Ac) (H:Hp) (args:Args) (us:List Value) (vs:List V) (Q:VK) (E:XK),jN k A->aFr P w K mg base A outer s H->Ky s fd args (ps.zip us)->aO vs us->sp vs H Q E ->
  EH (A6 P w) A (.call (.ref f) args) (CR CX outer P w H s Q E) s
section
variable {X:Cx} {pins:List (Addr×Obj)} {Z:St} {H:Hp} {s s':Ac}
theorem Inv.env0(I:Inv X pins Z H s):aFr X.prog X.w X.K X.mg X.base X.A X.stack s H:=
 ⟨I.ok.frames,I.ok.mod,I.bs,AC I.ok.bsz I.sz,I.stack,I.stkFree,I.hok,I.bare⟩
theorem Inv.after{Q:VK}{u:Value}(I:Inv X pins Z H s)(h:CE X.stack X.prog X.w H s Q u s'):EP X pins Z Q u s':=by obtain⟨v,H',os,bare,un,hok,r,q⟩:=h;obtain⟨B,g,d,t,l⟩:=s';obtain rfl:l=s.os:=os;exact⟨v,H',I.call (h':=B) (g':=g) (d':=d) (t':=t) (ch:=[]) un hok bare (λb z=>absurd z (by simp)),r,q⟩
end
noncomputable def aGX(sp:Sp)(dvs:List V)(E:XK)(t:TA):TE:=λZ H Q=>t Z H λvs H1=>sp (vs++dvs) H1 Q E
noncomputable def jI(K:Av)(fd:DN)(ps:List Str)(ds:List Value):Prop:=
 ∀(s:Ac) (us:List Value),K.In s.heap->(us++ds).length=ps.length->Ky s fd ⟨us,[]⟩ (ps.zip (us++ds))
theorem jI.all{K:Av}{fd:DN}{ps:List Str}(h:∀us:List Value,us.length=ps.length->Jz fd ⟨us,[]⟩=pure (ps.zip us)):jI K fd ps []:=λs us _ l=>by rw[AV] at l ⊢;exact .of_eq (h us l)
noncomputable def tL(CX:CXT)(X:Cx)(E:XK):Prop:=∀(pins:List (Addr×Obj)) (Z:St) (H:Hp) (s:Ac) (e:Value) (s':Ac),Inv X pins Z H s->CX X.stack H s E e s'->X.xe e s'
section
variable {X:Cx} {CX:CXT} {k:Nat} {f C:Addr} {fd:DN} {ps:List Str} {sp:Sp} {dvs:List V} {ds:List Value} {E:XK} {x m:Str} {p pos apos:DK} {e o:Aw} {es:List Aw} {ta:TE} {t:TA}
theorem aCI{pins:List (Addr×Obj)}{Z:St}{H:Hp}{s:Ac}{Q:VK}{us:List Value}{vs:List V}(F:nJ X.prog X.w X.K X.mg X.base CX k f fd ps sp)(L:jN k X.A)(B:jI X.K fd ps ds)(hd:aO dvs ds)(M:tL CX X E)
 (I:Inv X pins Z H s) (r:aO vs us) (h:sp (vs++dvs) H Q E):Al (A6 X.prog X.w) X.A (call (.ref f) us) (EP X pins Z Q) X.xe s:=by
 have q:aO (vs++dvs) (us++ds):=r.append hd;have G:(us++ds).length=ps.length:=by rw[<-q.length];exact F.len _ _ _ _ h
 refine wpAny_call (Fb (F.run X.A X.stack s H ⟨us,[]⟩ (us++ds) (vs++dvs) Q E L I.env0 (B s us I.kIn G) q h) λr U l=>?_);cases r with
 | error e=>exact M pins Z H s e U I l|ok fl=>
  cases fl with
  | ret u=>exact I.after l|next=>exact D2 l|brk=>exact D2 l|cont=>exact D2 l
theorem aFs(F:nJ X.prog X.w X.K X.mg X.base CX k f fd ps sp)(hr:jN k X.A)(W:Gl X x)(hm:X.mg x=some (.ref f))(hk:DO X.K (.ref f)=true)(M:jI X.K fd ps ds)(hd:aO dvs ds)(hx:tL CX X E)
 (L:PA X (e::es) t) (l:(x==("__debug__" : Str))=false:=by decide) (U:Bg (e::es) X.env=(false,DM e X.env)::Bg es X.env:=by rfl) (B:(Ew pos (Bg es X.env)).any (·.1)=false:=by rfl) :
 PE X (.Call (.Name x p) (e::es) [] pos) (aGX sp dvs E t):=by intro pins s Z H Q I h;refine BC (tH I W hm ?_ l);refine PySem.W.callWith_K (h₀:=X.base) I.ok.mod.kin hk (thn (L pos pins s Z H _ I h) λus s1 ⟨vs,H1,G,r,q⟩=>⟨G.kIn,?_⟩) U B;exact aCI F hr M hd hx G r q
theorem aCJ(F:nJ X.prog X.w X.K X.mg X.base CX k f fd ps sp)(M:jN k X.A)(B:Gl X x)(L:X.mg x=some (.ref f))(G:DO X.K (.ref f)=true)(q:jI X.K fd ps ds)(hd:aO dvs ds)(U:tL CX X E)
 (l:(x==("__debug__" : Str))=false:=by decide):PE X (.Call (.Name x p) [] [] pos) (aGX sp dvs E aKw):=by intro pins s Z H Q I h;refine BC (tH I B L ?_ l);exact PySem.W.callWith_K0 I.kIn G (aCI (us:=[]) F M q hd U I .nil h)
end
structure nR (N P:List Str) (sc:DL):Prop where
 kind:sc.kind=.function
 co:sc.isCoroutine=false
 gen:sc.isGenerator=false
 nd:N.Nodup
 pre:N.take P.length=P
 par:∀x∈P,sc.names.lookup x=some .local\/sc.names.lookup x=some .cell
 nofree:∀y∈sc.names,y.2≠.free
theorem rR{kindOf:Str->Option C1}{x:Str}:∀{binds:List (Str×Value)} {m:Str->Option Value},(∀v,(x,v)∉binds)->J0 kindOf binds m x=m x
 | [],_,_=>rfl|(n,v)::r,m,h=>by
  unfold J0;rw[rR λw l=>h w (Ag _ l)];split;have:x≠n:=by rintro rfl;exact h v Ak
  simp[this];rfl
theorem rS{kindOf:Str->Option C1}{x:Str}:∀{binds:List (Str×Value)} {m:Str->Option Value},(∀v,(x,v)∉binds)->J1 kindOf binds m x=m x
 | [],_,_=>rfl|(n,v)::r,m,h=>by
  unfold J1;rw[rS λw l=>h w (Ag _ l)];split;rfl;have:x≠n:=by rintro rfl;exact h v Ak
  simp[this]
theorem rT{kindOf:Str->Option C1}{x:Str}{v:Value}:∀{P:List Str} {vs:List Value} {i:Nat} {m:Str->Option Value},P.Nodup->P[i]? = some x->vs[i]? = some v->kindOf x=some .local ->
 J0 kindOf (P.zip vs) m x=some v
 | [],_,_,_,_,h,_,_=>by simp at h|_::_,[],_,_,_,_,h,_=>by simp at h|p::P,w::vs,0,m,nd,h1,h2,hk=>by simp at h1 h2;subst h1;subst h2;show J0 kindOf ((p,w)::P.zip vs) m p=_;unfold J0;rw[rR λv l=>(B2.mp nd).1 (ES l).1,if_pos hk];simp|p::P,w::vs,i+1,m,nd,h1,h2,hk=>by show J0 kindOf ((p,w)::P.zip vs) m x=_;unfold J0;exact rT (i:=i) (B2.mp nd).2 (by simpa using h1) (by simpa using h2) hk
theorem rV{kindOf:Str->Option C1}{x:Str}{v:Value}:∀{P:List Str} {vs:List Value} {i:Nat} {m:Str->Option Value},P.Nodup->P[i]? = some x->vs[i]? = some v->kindOf x≠some .local ->
 J1 kindOf (P.zip vs) m x=some v
 | [],_,_,_,_,h,_,_=>by simp at h|_::_,[],_,_,_,_,h,_=>by simp at h|p::P,w::vs,0,m,nd,h1,h2,hk=>by simp at h1 h2;subst h1;subst h2;show J1 kindOf ((p,w)::P.zip vs) m p=_;unfold J1;rw[rS λv l=>(B2.mp nd).1 (ES l).1,if_neg hk];simp|p::P,w::vs,i+1,m,nd,h1,h2,hk=>by show J1 kindOf ((p,w)::P.zip vs) m x=_;unfold J1;exact rV (i:=i) (B2.mp nd).2 (by simpa using h1) (by simpa using h2) hk
noncomputable def start(N:List Str)(vs:List V):St:=vs.map some++Aj (N.length-vs.length) none
noncomputable def yZ(CX:CXT)(P:A0)(w:AN)(K:Av)(mg:Str->Option Value)(base:Heap)(N:List Str)(qual:Str)(scope:DL)(f:Addr)(cd:Value)(A:AQ)(outer:List JX)(s:Ac)(H:Hp)(E:XK):Cx where
 prog:=P
 w:=w
 K:=K
 mg:=mg
 base:=base
 A:=A.deeper (GJ qual scope s.heap.objs.size f cd)
 N:=N
 s₀:=s
 H₀:=H
 env:=GJ qual scope s.heap.objs.size f cd
 outer:=outer
 stack:=GJ qual scope s.heap.objs.size f cd::outer
 ex:=[]
 calm:=true
 fn:=λ_=>true
 pn:=[]
 xe:=λe s'=>Al (A6 P w) (A.deeper (GJ qual scope s.heap.objs.size f cd)) (leaving (GJ qual scope s.heap.objs.size f cd) e) (λ_ s''=>CX outer H s E e s'') (λe' s''=>CX outer H s E e' s'') s'
theorem vT{sc:DL}{n:Nat}{x:Str}(h:sc.names.lookup x=some .cell):∃c,(Ku n sc.names []).lookup x=some c:=by have q:=Ga sc.names n [] (.inl h);exact Option.isSome_iff_exists.mp q
theorem aBF{CX:CXT}{P:A0}{w:AN}{K:Av}{mg:Str->Option Value}{base:Heap}{N ps:List Str}{qual:Str}{scope:DL}{f:Addr}{U:Value}{A:AQ}{outer:List JX}{s s1:Ac}{H:Hp}{E:XK}{us:List Value}{vs:List V}
 (S:nR N ps scope) (hd:A.handled=none) (B:aFr P w K mg base A outer s H) (hl:vs.length=ps.length) (r:aO vs us)
 (x:InCallC s s.heap.objs.size (J0 (GJ qual scope s.heap.objs.size f U).kindOf (ps.zip us) λ_=>none) (Ku (s.heap.objs.size+1) scope.names []) (J1 (GJ qual scope s.heap.objs.size f U).kindOf (ps.zip us) λ_=>none) s1) :
 Inv (yZ CX P w K mg base N qual scope f U A outer s H E) [] (start N vs) H s1:=by
 have q0:ps.length<=N.length:=by have:=congrArg F9 S.pre;rw[Bc] at this;omega
 obtain⟨W,tk,rfl,hk⟩:=x.done;have I:∀b:Addr,b∉(yZ CX P w K mg base N qual scope f U A outer s H E).ex:=λb z=>absurd (show b∈([]:List Addr) from z) (by simp);refine⟨⟨B.mod,S.kind,rfl,rfl,Ah _,λy z c W l=>?_,λy G=>?_,λy c _ h=>?_,λ_=>hd,Around.frames_deeper B.frames,.inr ⟨rfl,rfl⟩,λb z=>absurd z (I b),B.bs,B.bsz,λb _ _=>I b,λb z=>absurd z (I b),B.funs,B.frf⟩,
  rfl,B.bare,Un.kept hk,⟨_,x.toInCall.ns,λi y v W l h3=>?_⟩,λy c h=>⟨_,x.cell y c h⟩,B.hok.fresh (Ah _),λy c h=>?_,λp L=>absurd (show p∈([]:List (Addr×Obj)) from L) (by simp),B.hok.kept hk,?_⟩
 exact name_of_addr x.apart (BM W) (BM l);have G:scope.names.lookup y=some .cell\/scope.names.lookup y=some .free:=G;rcases G with G|G;exact vT G;exact absurd rfl (S.nofree _ (BM G));exact Cy (x.above y c (BM h));have hi:i<vs.length:=by unfold start at l;by_cases hi:i<vs.length;exact hi;rw[A1 (by simpa using hi)] at l;rw[C5] at l;split at l <;> cases l
 have ha:vs[i]? = some v:=by
  unfold start at l;rw[A5 (by simpa using hi),A2] at l;cases e:vs[i]? with
  | none=>rw[e] at l;cases l|some a=>rw[e] at l;cases l;rfl
 obtain⟨u,hu,rv⟩:=r.get ha;have L:ps[i]? = some y:=by rw[<-S.pre,Dm (by omega)];exact W
 have M:ps.Nodup:=by rw[<-S.pre];exact S.nd.sublist (HW _ _)
 refine⟨u,rv,?_⟩;rcases S.par y (List.mem_of_getElem? L) with k|k;exact .inl ⟨k,rT M L hu k⟩;obtain⟨c,e⟩:=vT (n:=s.heap.objs.size+1) k;refine .inr ⟨.inl k,c,e,?_⟩;have q:=x.cell y c e;rw[rV M L hu (by show scope.names.lookup y≠_;rw[k];decide)] at q;exact q;exact B.hok.fresh (Cy (x.above y c (BM h)));unfold start;show _=N.length;rw[D5,G3,Bk];omega
theorem aKy{CX:CXT}{P:A0}{w:AN}{K:Av}{mg:Str->Option Value}{base:Heap}{k:Nat}{f:Addr}{name qual:Str}{l:Hb}{body:List CG}{scope:DL}{dV kV doc pm cdv ct oc:Value}{an od:Option Addr}
 {osl:Array (Option Value)} {N ps:List Str} {sp:Sp} (lk:K.lookup f=some ⟨oc,od,.func (Gb name qual l body scope dV kV doc pm an cdv ct),osl⟩) (W:J3 K cdv qual=true) (S:nR N ps scope)
 (len:∀vs H Q E,sp vs H Q E->vs.length=ps.length)
 (B:∀(A:AQ) (outer:List JX) (s:Ac) (H:Hp) (vs:List V) (Q:VK) (E:XK),jN k (A.deeper (GJ qual scope s.heap.objs.size f cdv))->sp vs H Q E ->
  ∃t,PSs (yZ CX P w K mg base N qual scope f cdv A outer s H E) body t/\t { nx:=λ_ H'=>Q .non H',rt:=Q } (start N vs) H) :
 nJ P w K mg base CX (k+1) f (Gb name qual l body scope dV kV doc pm an cdv ct) ps sp:=by
 refine⟨len,λA outer s H args us vs Q E hr L hb r U=>?_⟩;have hl:=len _ _ _ _ U;have KX:K.In s.heap:=L.mod.kin.keeps λb o e=>(L.bs b o e).1;have lim:s.heap.NoLimit:=L.mod.nolimit.keeps λb o e=>(L.bs b o e).1;have G:∀y∈ps.zip us,scope.names.lookup y.1=some .local\/(scope.names.lookup y.1=some .cell/\((Ku (s.heap.objs.size+1) scope.names []).lookup y.1).isSome=true):=λ⟨n,v⟩ hy=>by rcases S.par n (ES hy).1 with q|q;exact .inl q;exact .inr ⟨q,Ga _ _ _ (.inl q)⟩
 refine codeAny_call_function hr.depth (KX _ _ lk) rfl S.co S.gen rfl (PySem.W.codeRec_of KX W) (hb _ _ _ _ ?_);refine wpAny_newFunctionEnv_cells S.kind G λenv he s1 x=>?_;subst he;refine⟨lim.keeps x.toInCall.keep,codeAny_func ?_⟩;obtain⟨t,ht,hq⟩:=B A outer s H vs Q E (hr.deeper _) U;have I:Inv (yZ CX P w K mg base N qual scope f cdv A outer s H E) [] (start N vs) H s1:=aBF S hr.hd L hl r x;refine CQ (ht [] s1 (start N vs) H _ I hq) (λfl s' hs=>?_) λe s' hs=>hs;have M:∀{Z':St} {H':Hp} {v:V} {u:Value},Inv (yZ CX P w K mg base N qual scope f cdv A outer s H E) [] Z' H' s'->bG v u->Q v H'->CE outer P w H s Q u s':=
  λ{Z' H' v u} J rv q=>⟨v,H',J.os,J.bare,J.base,J.hok,rv,q⟩
 cases fl with
 | ret u=>obtain⟨v,Z',H',J,rv,q⟩:=hs;exact M J rv q|next=>obtain⟨Z',H',J,q⟩:=hs;exact M (v:=V.non) (u:=B5) J rfl q|brk=>obtain⟨_,_,_,q⟩:=hs;exact D2 q|cont=>obtain⟨_,_,_,q⟩:=hs;exact D2 q
section
variable {X:Cx} {x:Str} {p pos:DK} {e:Aw} {es:List Aw} {t:TA} {id T:String} {r:List V->Hp->VK->Prop}
noncomputable def tCB(r:List V->Hp->VK->Prop)(t:TA):TE:=λZ H Q=>t Z H λvs H1=>r vs H1 Q
theorem aCK(L:gP X (.builtin id) r)(U:Gl X x)(W:X.mg x=none)(hv:Cw x=some (.builtin id))(G:PA X (e::es) t)(hn:x ≠ "__name__" := by decide)(l:(x==("__debug__" : Str))=false:=by decide)
 (M:Bg (e::es) X.env=(false,DM e X.env)::Bg es X.env:=by rfl) (q:(Ew pos (Bg es X.env)).any (·.1)=false:=by rfl):PE X (.Call (.Name x p) (e::es) [] pos) (tCB r t):=by intro pins s Z H Q I h;refine BC (eY I U W hv ?_ hn l);exact Co (thn (G pos pins s Z H _ I h) λus s1 ⟨vs,H1,B,r1,q1⟩=>L pins s1 Z H1 vs us Q B r1 q1) M q
theorem rW(L:gP X (.type T) r)(U:Gl X x)(W:X.mg x=none)(hv:Cw x=some (.type T))(G:PA X (e::es) t)(hn:x ≠ "__name__" := by decide)(l:(x==("__debug__" : Str))=false:=by decide)
 (M:Bg (e::es) X.env=(false,DM e X.env)::Bg es X.env:=by rfl) (q:(Ew pos (Bg es X.env)).any (·.1)=false:=by rfl):PE X (.Call (.Name x p) (e::es) [] pos) (tCB r t):=by intro pins s Z H Q I h;refine BC (eY I U W hv ?_ hn l);exact B6 (thn (G pos pins s Z H _ I h) λus s1 ⟨vs,H1,B,r1,q1⟩=>L pins s1 Z H1 vs us Q B r1 q1) M q
end
end L2
namespace HT
open PySem PyProof.Rows
noncomputable def lexLt:List Int->List Int->Bool
 | [],[]=>false|[],_::_=>true|_::_,[]=>false|x::xs,y::ys=>if x=y then lexLt xs ys else decide (x<y)
theorem lexLt_cons(x y:Int)(xs ys:List Int):lexLt (x::xs) (y::ys)=if x=y then lexLt xs ys else decide (x<y):=rfl
theorem rG:lexLt [] []=false:=rfl
theorem oM(y:Int)(ys:List Int):lexLt [] (y::ys)=true:=rfl
theorem oN(x:Int)(xs:List Int):lexLt (x::xs) []=false:=rfl
theorem aCL(A:AQ)(s:Ac)(a:Int)(t:Lz)(c:Int)(u:Lz):∃e,SeqAt.EqAt A s (.int a t) (.int c u) e/\(e=true↔a=c):=
 ⟨(a==c),Lp a t c u,by simp⟩
theorem aCM(A:AQ)(s:Ac)(a:Int)(t:Lz)(c:Int)(u:Lz)(prog:A0)(w:AN)(E:Value->Ac->Prop)(Q:Value->Ac->Prop)(h:Q (.bool (decide (a<c))) s) :
 Al (A6 prog w) A (richCompare .Lt (.int a t) (.int c u)) Q E s:=
 (Lk h:Al (A6 prog w) A (BX .Lt (.int a t) (.int c u)) Q E s)
section
open PySem.SeqAt
open PySem.AutoSeq1 (wpAny_loadPart')
open PySem.MeetsSeq PySem.MeetsSeq2 PySem.MeetsSeq3
theorem rH(l b:Addr)(items B:Array Value)(n n2:Nat)(dd q5:Option Addr)(sl q7:Array (Option Value))(ns ms:List Int)(hi:Ez items.toList ns)(hj:Ez B.toList ms) :
 L3 (Cz.«tuple.__lt__» ⟨[.ref l,.ref b],[]⟩)
  (λ_ R s=>s.heap.get? l=some { cls:=.type "tuple",dict:=dd,data:=.seq items n,slots:=sl }/\s.heap.get? b=some { cls:=.type "tuple",dict:=q5,data:=.seq B n2,slots:=q7 } /\
   R (.ok (.ret (.bool (lexLt ns ms)))) s):=
 .of_wp λprog w A R s h=>by
  obtain⟨hp,g,d,tk,os⟩:=s;obtain⟨hl,hb,h⟩:=h;have f2:=JZ;have z1:items.size=ns.length:=by rw[<-hi.length];simp
  have z2:B.size=ms.length:=by rw[<-hj.length];simp
  wp_walk using wpAny_loadPart' hl,wpAny_loadPart' hb,BH _ (λrest b s'=>b.1=none/\s'=⟨hp,g,d,tk,os⟩/\∃(vs ws:List Value) (L I:List Int),rest=vs.zip ws /\
   Ez vs L/\Ez ws I/\L.length+B.size=I.length+items.size/\R (.ok (.ret (.bool (lexLt L I)))) ⟨hp,g,d,tk,os⟩) _
  case turn=>
   rintro ⟨y,x⟩ rest b s' ⟨q1,rfl,vs,ws,L,I,U,q2,M,G,W⟩;cases q2 with
   | nil=>rw[BN] at U;cases U|cons a t q3=>
    cases M with
    | nil=>rw[H9] at U;cases U|cons c u q4=>
     rw[AE] at U;injection U with hyx hrest
     injection hyx with hy hx
     subst hy hx;rw[lexLt_cons] at W;simp only[FP] at G;obtain⟨e,he,q0⟩:=aCL A.in1 ⟨hp,g,d,tk,os⟩ a t c u;refine Aa (he prog w _ _ ?_);cases e with
     | true=>
      rw[if_pos (q0.mp rfl)] at W
      wp_walk
      exact⟨rfl,rfl,_,_,_,_,hrest,q3,q4,by omega,W⟩
     | false=>
      rw[if_neg (λq=>absurd (q0.mpr q) CN)] at W;have q6:=aCM A.in1 ⟨hp,g,d,tk,os⟩ a t c u prog w
      wp_walk using q6
      exact⟨_,rfl,by simpa using W⟩
  case fin=>
   rintro ⟨b1,b2⟩ s' ⟨q1,rfl,vs,ws,L,I,U,q2,M,G,W⟩;simp only at q1;subst q1;have hv:lexLt L I=decide (items.size<B.size):=by
    cases q2 with
    | nil=>
     cases M with
     | nil=>simp only[G4] at G;rw[rG];exact(Az (by omega)).symm|cons c u hw=>simp only[G4,FP] at G;rw[oM];exact(A8 (by omega)).symm
    | cons a t hv=>
     cases M with
     | nil=>simp only[G4,FP] at G;rw[oN];exact(Az (by omega)).symm|cons c u hw=>rw[AE] at U;cases U
   rw[hv] at W
   wp_walk
   exact⟨_,rfl,by simpa[IC] using W⟩
  case h=>exact⟨rfl,rfl,items.toList,B.toList,ns,ms,rfl,hi,hj,by omega,h⟩
end
section
variable {prog:A0} {w:AN} {A:AQ} {E:Value->Ac->Prop} {s:Ac}
theorem lt_tupInts{l b:Addr}{items q:Array Value}{ns L:List Int}{Q:Value->Ac->Prop}(hl:IsTup s.heap l items)(hb:IsTup s.heap b q)(hi:Ez items.toList ns)(hj:Ez q.toList L)
 (hu:A.units<Dz) (h:Q (.bool (lexLt ns L)) s):Al (A6 prog w) A (BX .Lt (.ref l) (.ref b)) Q E s:=by
 obtain⟨⟨cls,dd,data,sl⟩,ho,hc,n,hd⟩:=id hl;obtain⟨⟨q0,U,M,W⟩,I,B,n2,G⟩:=id hb;simp only at hc hd B G;subst hc hd B G;exact richCompare_meets_room (op:=.Lt) ⟨_,ho,rfl⟩ ⟨_,I,rfl⟩ PySem.F.slot_tuple_lt PySem.F.entry_tuple_lt (PySem.F.args_tuple_lt_2 _ _) (rH l b items q n n2 dd U sl W ns L hi hj)
  ⟨ho,I,show Jw (lexLt ns L)≠GK/\Q (.bool (lexLt ns L)) s from⟨(λx=>nomatch x),h⟩⟩ hu
theorem cat_tup{t b:Addr}{vs ws:List Value}{Q:Value->Ac->Prop}(ht:IsTup s.heap t vs.toArray)(hb:IsTup s.heap b ws.toArray)(hv:vs≠[])
 (h1:ws=[]->Q (.ref t) s) (h2:ws≠[]->Q (.ref s.heap.objs.size) { s with heap:=s.heap.push { cls:=.type "tuple",data:=.seq (vs++ws).toArray } })
 (hsz:vs.length+ws.length<=sizeLine):Al (A6 prog w) A (Dc .Add (.ref t) (.ref b)) Q E s:=by
 obtain⟨⟨cls,dd,data,sl⟩,L,hc,n,hd⟩:=id ht;obtain⟨⟨W,q,U,I⟩,l,B,n2,G⟩:=id hb;simp only at hc hd B G;subst hc hd B G;have e:vs.toArray++ws.toArray=(vs++ws).toArray:=by simp
 by_cases M:ws=[]
 exact Gc ⟨_,L,rfl⟩ ⟨_,l,rfl⟩ FQ Hk E1 Er (Ej _ _)
  (tuple_addW1 t b vs.toArray ws.toArray n n2 dd q sl I (by simpa using hv) (by simp[M])) ⟨L,l,h1 M⟩
 refine Gc ⟨_,L,rfl⟩ ⟨_,l,rfl⟩ FQ Hk E1 Er (Ej _ _)
  (tuple_addW2 t b vs.toArray ws.toArray n n2 dd q sl I (by simpa using hv) (by simpa using M) (by rw[Af,Af];exact hsz)) ⟨L,l,?_⟩
 rw[e];exact h2 M
noncomputable def sIx(n d:Nat):Option Int->Nat
 | none=>d|some v=>if v<0 then (v+(n:Int)).toNat else min v.toNat n
theorem aIc(n d:Nat)(hd:d<=n)(o:Option Int):sIx n d o<=n:=by
 cases o with
 | none=>exact hd|some v=>show(if v<0 then (v+(n:Int)).toNat else min v.toNat n)<=n;by_cases l:v<0;rw[if_pos l];omega;rw[if_neg l];exact Nat.min_le_right _ _
theorem aAx(v:Int)(n d:Nat):(if v<0 then max (v+(n:Int)) 0 else min v (n:Int))=((sIx n d (some v):Nat):Int):=by
 show(if v<0 then max (v+(n:Int)) 0 else min v (n:Int))=(((if v<0 then (v+(n:Int)).toNat else min v.toNat n):Nat):Int)
 by_cases l:v<0;simp only[if_pos l];omega;simp only[if_neg l];omega
theorem zA(lo hi:Option Int)(n:Nat):Ee lo hi 1 (n:Int)=(((sIx n 0 lo:Nat):Int),((sIx n n hi:Nat):Int)):=by
 have l:¬ ((1:Int)<0):=by omega
 unfold Ee;simp only[l,if_false];refine KO ?_ ?_;cases lo with
 | none=>rfl|some v=>exact aAx v n 0
 cases hi with
 | none=>rfl|some v=>exact aAx v n n
theorem zB(i j:Nat):CW (i:Int) (j:Int) 1=j-i:=by
 unfold CW;have l:(1:Int)>0:=by omega
 simp only[l,if_true,Kz];split <;> omega
theorem oO{v:Value}{o:Option Int}{Q:Option Int->Ac->Prop}(p:Ge v o)(h:Q o s):Al (A6 prog w) A (Jg v) Q E s:=by
 cases p with
 | none=>exact J4 h|int i t=>exact slicePart_int h
theorem sliceApplied_gen{sl:Addr}{B G:Value}{lo hi:Option Int}{n:Nat}{Q:Int×Int×Nat->Ac->Prop}(hs:s.heap.IsSliceOf sl B G .none)(pl:Ge B lo)(L:Ge G hi)
 (h:Q (((sIx n 0 lo:Nat):Int),1,sIx n n hi-sIx n 0 lo) s):Al (A6 prog w) A (Fj (.ref sl) (pure (n:Int))) Q E s:=by obtain⟨os,q,I,l⟩:=id hs;unfold Fj JU;refine Aa (Aa (BO q l (x:=B) rfl (Aa (BO q l (x:=G) rfl (Aa (BO q l (x:=.none) rfl (Ad ?_)))))));refine Aa (J4 ?_);show Al _ _ (if ((1:Int)==0)=true then _ else _) _ _ s;rw[if_neg (by decide)];refine Aa (oO pl (Aa (oO L (Aa (Ad ?_)))));show Al _ _ (match Ee lo hi 1 (n:Int) with|(lo,hi)=>pure (lo,(1:Int),CW lo hi 1)) _ _ s;rw[zA lo hi n];show Al _ _ (pure (((sIx n 0 lo:Nat):Int),(1:Int),CW ((sIx n 0 lo:Nat):Int) ((sIx n n hi:Nat):Int) 1)) _ _ s;rw[zB];exact Ad h
theorem aCN(xs:Array Value)(i k:Nat):((AF k).filterMap λ(m:Nat)=>xs[((i:Int)+(m:Int)*1).toNat]?).toArray=((xs.toList.drop i).take k).toArray:=by
 have e:(λ(m:Nat)=>xs[((i:Int)+(m:Int)*1).toNat]?)=λm=>xs[i+m]? := by
  funext m
  have:((i:Int)+(m:Int)*1).toNat=i+m:=by omega
  rw[this]
 rw[e];have:=pick_run xs i k;rw[Fk] at this;have l:((λx=>xs[x]?)∘λx=>i+x)=λm=>xs[i+m]? := rfl;rw[l] at this;rw[this]
theorem getItem_tuple_cut{t sl:Addr}{items:Array Value}{U W:Value}{lo hi:Option Int}{Q:Value->Ac->Prop}(B:IsTup s.heap t items)(hs:s.heap.IsSliceOf sl U W .none)(pl:Ge U lo)(pu:Ge W hi)
 (hw:¬ (sIx items.size 0 lo=0/\sIx items.size items.size hi=items.size))
 (h:Q (.ref s.heap.objs.size) { s with heap:=s.heap.push { cls:=.type "tuple",data:=.seq ((items.toList.drop (sIx items.size 0 lo)).take (sIx items.size items.size hi-sIx items.size 0 lo)).toArray } })
 (hsz:items.size<=sizeLine):Al (A6 prog w) A (Gf (.ref t) (.ref sl)) Q E s:=by
 have l:sizeOk (.seq ((items.toList.drop (sIx items.size 0 lo)).take (sIx items.size items.size hi-sIx items.size 0 lo)).toArray):=by show((items.toList.drop (sIx items.size 0 lo)).take (sIx items.size items.size hi-sIx items.size 0 lo)).toArray.size<=sizeLine;rw[Af,Bc,BI,AK];omega
 have hj:sIx items.size items.size hi<=items.size:=aIc _ _ (Ah _) hi;obtain⟨os,M,I,q0⟩:=id hs;have G:s.TypeIs (.ref sl) "slice" := ⟨os,M,I⟩
 unfold Gf
 try with_reducible refine Br ?_
 first|refine Aa (Ad ?_)|skip
 refine Aa (HX B.typeIs (by decide) ?_);refine Aa (Bl (name:=Dd "__getitem__") B.typeIs Bt
  (Bb Bt B.typeIs He ?_ (HA _ _)))
 show Al _ _ (DP (.ref t) >>= _) _ _ s;refine Aa (Ka B ?_);refine Aa (De G ?_);rw[if_pos (by decide)];refine Aa (sliceApplied_gen hs pl pu ?_);have L:¬ ((((sIx items.size 0 lo:Nat):Int)==0&&(1:Int)==1&&(sIx items.size items.size hi-sIx items.size 0 lo)==items.size)=true):=by intro q;rw[IE,IE] at q;have q1:((sIx items.size 0 lo:Nat):Int)=0:=eq_of_beq q.1.1;have q2:sIx items.size items.size hi-sIx items.size 0 lo=items.size:=eq_of_beq q.2;exact hw ⟨by omega,by omega⟩
 show Al _ _ (if (((sIx items.size 0 lo:Nat):Int)==0&&(1:Int)==1&&(sIx items.size items.size hi-sIx items.size 0 lo)==items.size)=true then _ else _) _ _ s;rw[if_neg L,aCN]
 first
  | exact Aa (m:=Dn _) (Bd (Ad ⟨_,rfl,Ad h⟩) l)
  | exact Aa (m:=Dn _) (Bd (Aa (Ad (Ad ⟨_,rfl,Ad h⟩))) l)
  | exact Aa (Aa (m:=Dn _) (Bd (Ad (Ad ⟨_,rfl,Ad h⟩)) l))
  | exact Aa (Aa (m:=Dn _) (Bd (Ad ⟨_,rfl,Ad h⟩) l))
end
end HT
namespace L2
open PySem PySem.Spec PyProof.Rows
abbrev TO:=St->Hp->(Option Int->Hp->Prop)->Prop
noncomputable def PO(X:Cx)(e:Option Aw)(t:TO):Prop:=
 ∀(pins:List (Addr×Obj)) (s:Ac) (Z:St) (H:Hp) (Q:Option Int->Hp->Prop),Inv X pins Z H s->t Z H Q ->
  Al (A6 X.prog X.w) X.A (evalPart e X.env) (λu s'=>∃o H',Inv X pins Z H' s'/\Ge u o/\Q o H') X.xe s
noncomputable def aFt:TO:=λ_ H Q=>Q none H
noncomputable def aKz(t:TE):TO:=λZ H Q=>t Z H λx H1=>∃i,x=.int i/\Q (some i) H1
section
variable {X:Cx} {e:Aw} {te:TE} {lo hi:Option Aw} {tl th:TO} {pos p2:DK}
theorem aFu:PO X none aFt:=by intro pins s Z H Q I h;rw[Hl];exact Ad ⟨none,H,I,.none,h⟩
theorem aFv(h:PE X e te):PO X (some e) (aKz te):=by intro pins s Z H Q I B;rw[Kb];refine thn (h pins s Z H _ I B) λu s1 ⟨x,H1,l,L,G⟩=>?_;obtain⟨i,rfl,q⟩:=G;obtain⟨t,rfl⟩:=L;exact⟨some i,H1,l,.int i t,q⟩
noncomputable def SlR(X:Cx)(r:V->Option Int->Option Int->Hp->VK->Prop):Prop:=
 ∀(pins:List (Addr×Obj)) (s:Ac) (Z:St) (H:Hp) (x:V) (v vl vu:Value) (lo hi:Option Int) (sl:Addr) (Q:VK),Inv X pins Z H s->bG x v->s.heap.IsSliceOf sl vl vu .none->Ge vl lo->Ge vu hi->r x lo hi H Q ->
  ∃T id,typeLookup (.type T) "__getitem__" = pure (some (.builtin id))/\s.TypeIs v T/\Al (A6 X.prog X.w) X.A (Gf v (.ref sl)) (EP X pins Z Q) X.xe s
theorem SlR.or{r B:V->Option Int->Option Int->Hp->VK->Prop}(h:SlR X r)(h':SlR X B):SlR X (λx lo hi H Q=>r x lo hi H Q\/B x lo hi H Q):=by intro pins s Z H x v L M lo hi sl Q I G hs pl l q;rcases q with q|q;exact h pins s Z H x v L M lo hi sl Q I G hs pl l q;exact h' pins s Z H x v L M lo hi sl Q I G hs pl l q
noncomputable def tSl(r:V->Option Int->Option Int->Hp->VK->Prop)(te:TE)(tl th:TO):TE:=λZ H Q=>te Z H λx H1=>tl Z H1 λl H2=>th Z H2 λu H3=>r x l u H3 Q
theorem aCO{r:V->Option Int->Option Int->Hp->VK->Prop}(hr:SlR X r)(he:PE X e te)(hl:PO X lo tl)(hu:PO X hi th):PE X (.Subscript e (.Slice lo hi none p2) pos) (tSl r te tl th):=by intro pins s Z H Q I h;refine J5 (thn (he pins s Z H _ I h) λv s1 ⟨x,H1,W,r1,q1⟩=>?_);refine KP (thn (hl pins s1 Z H1 _ W q1) λG s2 ⟨l,U,I2,pl,q2⟩=>thn (hu pins s2 Z U _ I2 q2) λL B ⟨u,M,I3,pu,q3⟩=>?_);rw[Hl];refine Ad ?_;have I4:Inv X pins Z M { B with heap:=B.heap.push { cls:=.type "slice",data:=.fields #[G,L,.none] } }:=I3.kept (t':=B.toks) λb ob q=>Ab _ q;obtain⟨T,id,hT,ht,hg⟩:=hr pins { B with heap:=B.heap.push { cls:=.type "slice",data:=.fields #[G,L,.none] } } Z M x v G L l u B.heap.objs.size Q I4 r1 (HB ..) pl pu q3;show Al (A6 X.prog X.w) X.A (Kc e (.Slice lo hi none p2) v (.ref B.heap.objs.size)) (EP X pins Z Q) X.xe { B with heap:=B.heap.push { cls:=.type "slice",data:=.fields #[G,L,.none] } };exact KQ (ops:=[.ref B.heap.objs.size,v]) ht hT hg (by with_unfolding_all rfl)
noncomputable def vU(xs:List V)(lo hi:Option Int):List V:=(xs.drop (HT.sIx xs.length 0 lo)).take (HT.sIx xs.length xs.length hi-HT.sIx xs.length 0 lo)
theorem mY(xs:List V)(lo hi:Option Int):(vU xs lo hi).length<=xs.length:=by unfold vU;rw[Bc,BI];omega
noncomputable def aCP(K:Av):V->Option Int->Option Int->Hp->VK->Prop:=λx lo hi H Q=>∃a xs,x=.ref a/\SqT K H a xs /\
 ¬ (HT.sIx xs.length 0 lo=0/\HT.sIx xs.length xs.length hi=xs.length)/\∀p,H p=none->Q (.ref p) (upd H p (.tup (vU xs lo hi)))
theorem aId:SlR X (aCP X.K):=by
 intro pins s Z H x v vl vu lo hi sl Q I rx hs pl W h;obtain⟨a,xs,rfl,U,M,q⟩:=h;cases rx;obtain⟨B,r,G,L⟩:=I.tuple U;have l:B.toArray.size=xs.length:=by rw[Af];exact r.length.symm
 refine⟨"tuple",_,Bt.lookup,G.typeIs,?_⟩;refine HT.getItem_tuple_cut G hs pl W (by rw[l];exact M) ?_ (by rw[l];exact L);rw[l];refine⟨.ref s.heap.objs.size,_,I.laid (t':=s.toks) (o:=.tup (vU xs lo hi)) (λb ob q=>Ab _ q) (Ah _) ?_,rfl,q _ (I.hok.fresh (Ah _))⟩;exact⟨AC (mY xs lo hi) L,_,(r.drop (HT.sIx xs.length 0 lo)).take (HT.sIx xs.length xs.length hi-HT.sIx xs.length 0 lo),IF _ _⟩
noncomputable def aKA(K:Av):R2:=λx y H Q=>∃a b xs ys,x=.ref a/\y=.ref b/\SqT K H a xs/\SqT K H b ys/\xs≠[]/\xs.length+ys.length<=sizeLine /\
 (ys=[]->Q (.ref a) H)/\(ys≠[]->∀p,H p=none->Q (.ref p) (upd H p (.tup (xs++ys))))
theorem aO.nil_iff{xs:List V}{us:List Value}(r:aO xs us):us=[]↔xs=[]:=by
 cases r with
 | nil=>simp|cons _ _=>simp
theorem aFw:OpR X (Dc .Add) (aKA X.K):=by intro pins s Z H x y v u Q I rx ry h;obtain⟨a,b,xs,ys,rfl,rfl,M,U,W,G,q1,q2⟩:=h;cases rx;cases ry;obtain⟨q0,B,p1,_⟩:=I.tuple M;obtain⟨L,l,p2,_⟩:=I.tuple U;refine HT.cat_tup p1 p2 (λz=>W (B.nil_iff.mp z)) (λz=>⟨.ref a,H,I,rfl,q1 (l.nil_iff.mp z)⟩) (λz=>?_) (by rw[<-B.length,<-l.length];exact G);refine⟨.ref s.heap.objs.size,_,I.laid (t':=s.toks) (o:=.tup (xs++ys)) (λb ob q=>Ab _ q) (Ah _) ?_,rfl,q2 (λw=>z (l.nil_iff.mpr w)) _ (I.hok.fresh (Ah _))⟩;exact⟨by rw[D5];exact G,_,B.append l,IF _ _⟩
end
noncomputable def ixN(n:Nat)(i:Int):Option Nat:=if 0<=i then (if i<n then some i.toNat else none) else if -(n:Int)<=i then some (i+n).toNat else none
noncomputable def atI{α:Type}(xs:List α)(i:Int):Option α:=(ixN xs.length i).bind λj=>xs[j]?
theorem aAy{n:Nat}{i:Int}{j:Nat}(h:ixN n i=some j):seqIndex? i n=some j/\j<n/\-(n:Int)<=i/\i<n:=by unfold ixN at h;by_cases q:0<=i;rw[if_pos q] at h;by_cases l:i<n;rw[if_pos l] at h;have e:i.toNat=j:=As h;exact⟨by rw[Jb q l,e],by omega,by omega,l⟩;rw[if_neg l] at h;cases h;rw[if_neg q] at h;by_cases l:-(n:Int)<=i;rw[if_pos l] at h;have e:(i+n).toNat=j:=As h;exact⟨by rw[HY (by omega) l,e],by omega,l,by omega⟩;rw[if_neg l] at h;cases h
theorem tM{α:Type}{xs:List α}{i:Int}{v:α}(h:atI xs i=some v):∃j,seqIndex? i xs.length=some j/\xs[j]? = some v/\j<xs.length/\-(xs.length:Int)<=i/\i<xs.length:=by
 unfold atI at h;cases e:ixN xs.length i with
 | none=>rw[e] at h;cases h|some j=>rw[e] at h;obtain⟨l,q,B,G⟩:=aAy e;exact⟨j,l,h,q,B,G⟩
noncomputable def aAz(b:Aw):Prop:=∀o i,KR b false o i=operate [o,i] (Gf o i)
noncomputable def IxR(X:Cx)(r:R2):Prop:=
 ∀(value slice:Aw) (pins:List (Addr×Obj)) (s:Ac) (Z:St) (H:Hp) (x y:V) (v u:Value) (Q:VK),Inv X pins Z H s->bG x v->bG y u->r x y H Q ->
  KR slice false v u=operate [v,u] (Gf v u)->Al (A6 X.prog X.w) X.A (Kc value slice v u) (EP X pins Z Q) X.xe s
noncomputable def MtR(X:Cx)(id:String)(r:V->List V->Hp->VK->Prop):Prop:=
 ∀(pins:List (Addr×Obj)) (s:Ac) (Z:St) (H:Hp) (x:V) (xs:List V) (v:Value) (us:List Value) (Q:VK),Inv X pins Z H s->bG x v->aO xs us->r x xs H Q ->
  Al (A6 X.prog X.w) X.A (call (.builtin id) (v::us)) (EP X pins Z Q) X.xe s
section
variable {X:Cx} {a b:Aw} {ta tb:TE} {pos:DK}
theorem IxR.or{r B:R2}(h:IxR X r)(h':IxR X B):IxR X (λx y H Q=>r x y H Q\/B x y H Q):=by intro value l pins s Z H x y v u Q I G L q hs;rcases q with q|q;exact h value l pins s Z H x y v u Q I G L q hs;exact h' value l pins s Z H x y v u Q I G L q hs
theorem aKB{r:R2}(M:IxR X r)(G:PE X a ta)(L:PE X b tb)(hs:aAz b):PE X (.Subscript a b pos) (tOp r ta tb):=by intro pins s Z H Q I h;exact J5 (aKq G L I h λv u s2 x y l B U W q=>M a b pins s2 Z l x y v u Q B U W q (hs _ _))
noncomputable def aKC(K:Av):R2:=λx y H Q=>∃p xs i v,x=.ref p/\y=.int i/\SqL K H p xs/\atI xs i=some v/\Q v H
noncomputable def aKD(K:Av):R2:=λx y H Q=>∃p xs i v,x=.ref p/\y=.int i/\SqT K H p xs/\atI xs i=some v/\Q v H
noncomputable def aKE:R2:=λx y H Q=>∃z i c,x=.str z/\y=.int i/\z.length<=sizeLine/\atI z.cps.toList i=some c/\Q (.str ⟨#[c]⟩) H
theorem aFx:IxR X (aKC X.K):=by
 intro value U pins s Z H x y v u Q I rx ry h hs;obtain⟨p,xs,i,z,rfl,rfl,hq,he,q⟩:=h;cases rx;obtain⟨t,rfl⟩:=ry;obtain⟨L,r,pl,hz⟩:=I.list hq;obtain⟨j,B,h2,h3,h4,h5⟩:=tM he;obtain⟨w,W,M⟩:=r.get h2;have hl:=r.length;have hn:=jM;have l:EP X pins Z Q w s:=⟨z,H,I,M,q⟩
 by_cases h0:0<=i;have G:i.toNat=j:=by rw[Jb h0 h5] at B;exact As B
 exact item_listR pl.isList h0 (by omega) (by rw[G];simpa using W) l hs;have G:(i+(L.toArray.size:Int)).toNat=j:=by rw[HY (by omega) h4] at B;rw[Af,<-hl];exact As B
 exact Gg (x:=w) pl.isList.typeIs FA.lookup
  (wpAny_getItem_list_neg (Q:=λr s'=>r=w/\EP X pins Z Q r s') pl.isList (by omega) (by rw[Af] <;> omega) (by omega) (by rw[G];simpa using W) ⟨rfl,l⟩) hs
theorem aIe:IxR X (aKD X.K):=by
 intro value G pins s Z H x y v u Q I rx ry h hs;obtain⟨p,xs,i,z,rfl,rfl,hq,W,q⟩:=h;cases rx;obtain⟨t,rfl⟩:=ry;obtain⟨q0,r,pl,hz⟩:=I.tuple hq;obtain⟨j,M,U,h3,h4,h5⟩:=tM W;obtain⟨w,L,B⟩:=r.get U;have hl:=r.length;have hn:=jM;have l:EP X pins Z Q w s:=⟨z,H,I,B,q⟩
 exact Gg (x:=w) pl.typeIs slot_tuple_getitem.lookup
  (getItem_tuple (j:=j) (Q:=λr s'=>r=w/\EP X pins Z Q r s') pl (by omega) (by omega) (by rw[Af,<-hl];exact M) (by simpa using L) ⟨rfl,l⟩) hs
theorem aIf:IxR X aKE:=by
 intro value l pins s Z H x y v u Q I rx ry h hs;obtain⟨z,i,c,rfl,rfl,hz,he,q⟩:=h;obtain⟨t,rfl⟩:=rx;obtain⟨t',rfl⟩:=ry;obtain⟨j,B,M,h3,U,W⟩:=tM he;have hl:z.cps.toList.length=z.length:=by simp[J6]
 rw[hl] at B U W;have hn:=jM;exact KQ (typeIs_str s z t) IG.lookup (getItem_str (c:=c) (by
  have G:decide (i < -(2 ^ 63:Int))=false:=Az (by omega);have L:decide (i ≥ 2 ^ 63)=false:=Az (by omega);rw[G,L,Kd]) (by rw[B];simpa using M) ⟨.str ⟨#[c]⟩,H,I.tok _,⟨_,rfl⟩,q⟩) hs
noncomputable def rIx(K:Av):R2:=λx y H Q=>aKC K x y H Q\/aKD K x y H Q\/aKE x y H Q
theorem aIg:IxR X (rIx X.K):=aFx.or (aIe.or aIf)
theorem zC(l:List Value)(n j:Nat)(u:Value):BD (·.setIfInBounds j u) { cls:=.type "list",data:=.seq l.toArray n }={ cls:=.type "list",data:=.seq (l.set j u).toArray n }:=by simp[BD]
theorem Inv.lst{pins:List (Addr×Obj)}{Z:St}{H:Hp}{s:Ac}{p:Addr}{xs:List V}(I:Inv X pins Z H s)(h:H p=some (.lst xs)) :
 ∃(l:List Value) (n:Nat),aO xs l/\s.heap.get? p=some { cls:=.type "list",data:=.seq l.toArray n }/\xs.length<=sizeLine:=by obtain⟨z,l,n,r,e⟩:=I.hok p _ h;exact⟨l,n,r,e,z⟩
theorem Inv.lstUpd{pins:List (Addr×Obj)}{Z:St}{H:Hp}{s:Ac}{p:Addr}{xs ys:List V}{l its':List Value}{n B:Nat}{f:Obj->Obj}(I:Inv X pins Z H s)(h:H p=some (.lst xs))
 (M:s.heap.get? p=some { cls:=.type "list",data:=.seq l.toArray n }) (G:f { cls:=.type "list",data:=.seq l.toArray n }={ cls:=.type "list",data:=.seq its'.toArray B }) (r:aO ys its') (U:ys.length<=sizeLine) (t:Nat) :
 Inv X pins Z (upd H p (.lst ys)) { s with heap:=s.heap.update p f,toks:=t }:=by
 have e:(s.heap.update p f).get? p=some { cls:=.type "list",data:=.seq its'.toArray B }:=by rw[DG f M (by rw[G] <;> rfl),G]
 refine I.write (x:=p) (e:=p) (by rw[h];trivial) (.inl rfl) (λb u L q=>(D6 _ _ (DI L)).trans q) ⟨_,e⟩ ?_;exact⟨U,its',B,r,e⟩
noncomputable def aKF:V->V->V->Hp->(Hp->Prop)->Prop:=λo i v H Q=>∃p xs k j,o=.ref p/\i=.int k/\H p=some (.lst xs)/\ixN xs.length k=some j/\Q (upd H p (.lst (xs.set j v)))
theorem aCQ:aHQ X aKF:=by
 intro pins s Z H o i v ov iv u Q I ro ri rv h;obtain⟨p,xs,k,j,rfl,rfl,hp,hj,q⟩:=h;cases ro;obtain⟨t,rfl⟩:=ri;obtain⟨l,n,r,M,hz⟩:=I.lst hp;obtain⟨B,h2,h3,h4⟩:=aAy hj;have L:=r.length;have hn:=jM;have U:Inv X pins Z (upd H p (.lst (xs.set j v))) { s with heap:=s.heap.update p (BD (·.setIfInBounds j u)) }:=
  I.lstUpd hp M (zC l n j u) (r.set rv j) (by rw[AM];exact hz) s.toks
 by_cases W:0<=k;have G:k.toNat=j:=by rw[Jb W h4] at B;exact As B
 exact PySem.W.ki_setAt M W (by omega) (by rw[Af,<-L];exact h4) (by rw[G];exact⟨_,U,q⟩);have G:(k+(l.toArray.size:Int)).toNat=j:=by rw[HY (by omega) h3] at B;rw[Af,<-L];exact As B
 exact PySem.W.ki_setBack M (by omega) (by rw[Af,<-L];exact h3) (by omega) (by rw[G];exact⟨_,U,q⟩)
theorem tN(lo hi:Option Int)(n:Nat):(DQ lo hi none n).1=((HT.sIx n 0 lo:Nat):Int)/\(DQ lo hi none n).2.1=((HT.sIx n n hi:Nat):Int)/\(DQ lo hi none n).2.2=1:=by
 refine⟨?_,?_,rfl⟩;cases lo with
 | none=>simp[DQ,HT.sIx]|some i=>simp only[DQ,HT.sIx,EC,show(1:Int)>0 by decide,if_true];by_cases h:i<0;simp only[h,if_true] <;> omega;simp only[h,if_false] <;> omega
 cases hi with
 | none=>simp[DQ,HT.sIx]|some i=>simp only[DQ,HT.sIx,EC,show(1:Int)>0 by decide,if_true];by_cases h:i<0;simp only[h,if_true] <;> omega;simp only[h,if_false] <;> omega
theorem rJ(l:List Value)(lo hi:Option Int):IH l.toArray lo hi none=((l.drop (HT.sIx l.length 0 lo)).take (HT.sIx l.length l.length hi-HT.sIx l.length 0 lo)).toArray:=by obtain⟨q,B,G⟩:=tN lo hi l.toArray.size;unfold IH;rw[q,B,G];simp only[sliceRange_one,pick_run,Af] <;> rfl
noncomputable def aCR(K:Av):V->Option Int->Option Int->Hp->VK->Prop:=λx lo hi H Q=>∃a xs,x=.ref a/\SqL K H a xs/\∀p,H p=none->Q (.ref p) (upd H p (.lst (vU xs lo hi)))
theorem aFy:SlR X (aCR X.K):=by intro pins s Z H x v vl vu lo hi sl Q I W hs pl U h;obtain⟨a,xs,rfl,G,q⟩:=h;cases W;obtain⟨M,r,B,L⟩:=I.list G;have l:=r.length;refine⟨"list",_,FA.lookup,B.isList.typeIs,?_⟩;refine FI B.isList hs pl U .none (by simp) ?_ (by rw[Af] <;> omega);rw[rJ,<-l];refine⟨.ref s.heap.objs.size,_,I.laid (t':=s.toks) (o:=.lst (vU xs lo hi)) (λb ob q=>Ab _ q) (Ah _) ?_,rfl,q _ (I.hok.fresh (Ah _))⟩;exact⟨AC (mY xs lo hi) L,_,0,(r.drop (HT.sIx xs.length 0 lo)).take (HT.sIx xs.length xs.length hi-HT.sIx xs.length 0 lo),Ao _ rfl⟩
theorem tP:OpR X (BX .NotIn) (λx y H Q=>∃i j,x=.str i/\y=.str j/\Q (.bl (!(!(Du j i 0 j.length 1).isEmpty))) H):=by intro pins s Z H x y v u Q I l B h;obtain⟨i,j,rfl,rfl,q⟩:=h;obtain⟨t,rfl⟩:=l;obtain⟨t',rfl⟩:=B;exact notIn_str ⟨.bl _,H,I,rfl,q⟩
theorem tQ:gP X (.builtin "len") (λxs H Q=>∃p ys,xs=[.ref p]/\(SqL X.K H p ys\/SqT X.K H p ys)/\Q (.int ys.length) H):=by intro pins s Z H xs us Q I r h;obtain⟨p,ys,rfl,B,q⟩:=h;obtain⟨u,rfl,U⟩:=aAw r;cases U;have W:=jM;rcases B with B|B;obtain⟨G,L,pl,M⟩:=I.list B;have l:=L.length;exact Calls.call_len_list pl.isList (by simp only[Af] <;> omega) ⟨.int ys.length,H,I.tok _,⟨s.toks+1,by rw[Af,l]⟩,q⟩;obtain⟨G,L,pl,M⟩:=I.tuple B;have l:=L.length;exact len_tuple pl (by simp only[Af] <;> omega) ⟨.int ys.length,H,I.tok _,⟨s.toks+1,by rw[Af,l]⟩,q⟩
theorem tR:gP X (.builtin "len") (λxs H Q=>∃z,xs=[.str z]/\z.length<=sizeLine/\Q (.int z.length) H):=by intro pins s Z H xs us Q I r h;obtain⟨z,rfl,B,q⟩:=h;obtain⟨u,rfl,t,rfl⟩:=aAw r;have l:=jM;exact len_str (by omega) ⟨.int z.length,H,I.tok _,⟨_,rfl⟩,q⟩
theorem gP.or{f:Value}{r l:List V->Hp->VK->Prop}(h:gP X f r)(h':gP X f l):gP X f (λxs H Q=>r xs H Q\/l xs H Q):=by intro pins s Z H xs us Q I rs q;rcases q with q|q;exact h pins s Z H xs us Q I rs q;exact h' pins s Z H xs us Q I rs q
theorem tS:gP X (.type "list") (λxs H Q=>∃p ys,xs=[.ref p]/\(SqL X.K H p ys\/SqT X.K H p ys)/\∀l,H l=none->Q (.ref l) (upd H l (.lst ys))):=by
 intro pins s Z H xs us Q I r h;obtain⟨p,ys,rfl,W,q⟩:=h;obtain⟨u,rfl,rx⟩:=aAw r;cases rx;have M:∀(B:List Value),aO ys B->ys.length<=sizeLine->∀(h':Heap) (G:Nat),(∀b o',s.heap.get? b=some o'->h'.get? b=some o') ->
  h'.get? s.heap.objs.size=some { cls:=.type "list",dict:=none,data:=.seq B.toArray G,slots:=#[] }->EP X pins Z Q (.ref s.heap.objs.size) { s with heap:=h' }:=λB L hz h' G kp e=>
  ⟨.ref s.heap.objs.size,_,I.laid (t':=s.toks) kp (Ah _) (show eD X.prog X.w _ h' _ (.lst ys) from⟨hz,B,G,L,e⟩),rfl,q _ (I.hok.fresh (Ah _))⟩
 rcases W with W|W;obtain⟨B,L,pl,hz⟩:=I.list W;have U:=L.length;obtain⟨o,ho,hc,n,hd⟩:=pl.isList;exact Ke p (.inl rfl) ho hc hd (λh' G kp e=>M B L hz h' G kp e) (by simp only[Af] <;> omega);obtain⟨B,L,pl,hz⟩:=I.tuple W;have U:=L.length;obtain⟨o,ho,hc,n,hd⟩:=pl;exact Ke p (.inr rfl) ho hc hd (λh' G kp e=>M B L hz h' G kp e) (by simp only[Af] <;> omega)
theorem rK:gP X (.type "tuple") (λxs H Q=>∃p ys,xs=[.ref p]/\((SqL X.K H p ys/\∀l,H l=none->Q (.ref l) (upd H l (.tup ys)))\/(SqT X.K H p ys/\Q (.ref p) H))):=by
 intro pins s Z H xs us Q I r h;obtain⟨p,ys,rfl,h⟩:=h;obtain⟨u,rfl,rx⟩:=aAw r;cases rx;rcases h with⟨G,q⟩|⟨G,q⟩
 obtain⟨B,L,pl,W⟩:=I.list G;have U:=L.length;refine call_tuple_list pl.isList (λh' kp=>?_) (by simp only[Af] <;> omega);have M:Inv X pins Z H { s with heap:=h' }:=I.kept (t':=s.toks) kp;have I2:Inv X pins Z (upd H h'.objs.size (.tup ys)) { s with heap:=h'.push { cls:=.type "tuple",data:=.seq B.toArray } }:=
  M.laid (t':=s.toks) (λb o e=>Ab _ e) (Ah _) (show eD X.prog X.w _ _ _ (.tup ys) from⟨W,B,L,IF _ _⟩)
 exact⟨.ref h'.objs.size,_,I2,rfl,q _ (M.hok.fresh (Ah _))⟩;obtain⟨B,L,pl,W⟩:=I.tuple G;exact call_tuple_same pl ⟨.ref p,H,I,rfl,q⟩
noncomputable def tyV(K:Av)(T:String)(x:V)(H:Hp):Prop:=match x with
 | .str _=>T = "str"|.int _=>T = "int"|.ref p=>(T = "list" /\ ∃xs,SqL K H p xs)\/(T = "tuple" /\ ∃o,K.lookup p=some o/\o.cls=.type "tuple" /\ o.dict=none) \/
  (T = "dict" /\ ((∃kvs,H p=some (.dK kvs))\/∃kvs,H p=some (.dT kvs)))\/(T = "set" /\ ∃S n,H p=some (.set S n))
 | _=>False
theorem aCS{pins:List (Addr×Obj)}{Z:St}{H:Hp}{s:Ac}{T:String}{x:V}{v:Value}(I:Inv X pins Z H s)(r:bG x v)(ty:tyV X.K T x H) :
 s.TypeIs v T/\∀a,v=.ref a->∃ob,s.heap.get? a=some ob/\ob.dict=none:=by
 cases x with
 | str z=>obtain⟨t,rfl⟩:=r;cases(show T = "str" from ty);exact⟨typeIs_str s z t,λ_ e=>nomatch e⟩|int i=>obtain⟨t,rfl⟩:=r;cases(show T = "int" from ty);exact⟨Gh s i t,λ_ e=>nomatch e⟩|ref p=>
  cases r;rcases ty with⟨rfl,xs,G⟩|⟨rfl,o,l,B,hd⟩|⟨rfl,l⟩|⟨rfl,S,n,l⟩
  obtain⟨L,_,pl,_⟩:=I.list G;refine⟨pl.isList.typeIs,λa e=>?_⟩;cases e;obtain⟨o,n,e,c,hd,_⟩:=pl;exact⟨o,e,hd⟩;refine⟨⟨o,I.kIn p o l,B⟩,λa e=>?_⟩;cases e;exact⟨o,I.kIn _ o l,hd⟩;have z:∃o,s.heap.get? p=some o/\o.ExactDict:=by
   rcases l with⟨kvs,l⟩|⟨kvs,l⟩
   obtain⟨_,_,_,_,o,_,_,e,ex,_⟩:=I.hok p _ l;exact⟨o,e,ex⟩;obtain⟨_,_,_,_,o,_,_,e,ex,_⟩:=I.hok p _ l;exact⟨o,e,ex⟩
  obtain⟨o,e,ex⟩:=z;refine⟨⟨o,e,ex.1⟩,λa q=>?_⟩;cases q;exact⟨o,e,ex.2.1⟩;obtain⟨o,_,_,_,e,ex,_⟩:=I.hok p _ l;refine⟨⟨o,e,ex.1⟩,λa q=>?_⟩;cases q;exact⟨o,e,ex.2.1⟩
 | _=>exact D2 ty
noncomputable def aNd(K:Av)(T:String)(r:V->List V->Hp->VK->Prop)(to:TE):TE:=λZ H Q=>to Z H λx H1=>tyV K T x H1/\r x [] H1 Q
noncomputable def tBM(K:Av)(T:String)(r:V->List V->Hp->VK->Prop)(to:TE)(t:TA):TE:=λZ H Q=>to Z H λx H1=>tyV K T x H1/\t Z H1 λxs H2=>r x xs H2 Q
variable {o e:Aw} {es:List Aw} {to:TE} {t:TA} {name:Str} {apos cpos:DK} {T id:String} {r:V->List V->Hp->VK->Prop}
theorem aIh(pa:PlainAttrs T)(slot:Slot T name id)(B:typeOf (.builtin id)=pure (.type "method_descriptor"))(W:MtR X id r)(ho:PE X o to)
 (l:Kf o name X.env (DM o X.env)=DM o X.env:=by rfl) (q:(apos.endLine==cpos.line)=true:=by rfl):PE X (.Call (.Attribute o name apos) [] [] cpos) (aNd X.K T r to):=by intro pins s Z H Q I h;refine wpAny_Call_method0_late l q (thn (ho pins s Z H _ I h) λv s1 ⟨x,H1,G,L,ty,q1⟩=>?_);obtain⟨M,U⟩:=aCS G L ty;exact⟨T,id,pa,slot,B,M,U,E2 rfl (PySem.evalArgs_none (W pins s1 Z H1 x [] v [] Q G L .nil q1))⟩
theorem aGY(pa:PlainAttrs T)(slot:Slot T name id)(L:typeOf (.builtin id)=pure (.type "method_descriptor"))(hm:MtR X id r)(ho:PE X o to)(ha:PA X (e::es) t)
 (q:Kf o name X.env (DM o X.env)=DM o X.env:=by rfl)
 (G:((Ew cpos (Bg (e::es) X.env)).all (λx=>!x.1)&&(backToKw cpos (keywordEach [] X.env)).all (λx=>x.1.isSome)
  && decide ((e::es).length+([]:List L1).length+(if ([]:List L1).isEmpty then 0 else 1)<30))=true:=by rfl)
 (B:(apos.endLine==cpos.line)=true:=by rfl) (hs:Bg (e::es) X.env=(false,DM e X.env)::Bg es X.env:=by rfl) (l:(Ew cpos (Bg es X.env)).any (·.1)=false:=by rfl) :
 PE X (.Call (.Attribute o name apos) (e::es) [] cpos) (tBM X.K T r to t):=by intro pins s Z H Q I h;refine Gi q G B rfl (thn (ho pins s Z H _ I h) λv s1 ⟨x,H1,M,W,ty,q1⟩=>?_);obtain⟨h1,h2⟩:=aCS M W ty;refine⟨T,id,pa,slot,L,h1,h2,?_⟩;have U:=ha cpos pins s1 Z H1 _ M q1;rw[hs] at U ⊢;refine E2 (by show(false||(Ew cpos (Bg es X.env)).any (·.1))=false;rw[l] <;> rfl) (GL ?_);exact thn U λus s2 ⟨vs,H2,I2,r2,q2⟩=>hm pins s2 Z H2 x vs v us Q I2 W r2 q2
end
noncomputable def MtM(X:Cx)(id:String)(r:V->List V->Hp->VK->Prop):Prop:=
 ∀(pins:List (Addr×Obj)) (s:Ac) (Z:St) (H:Hp) (x:V) (xs:List V) (v:Value) (us:List Value) (Q:VK),Inv X pins Z H s->bG x v->aO xs us->r x xs H Q ->
  Al (A6 X.prog X.w) X.A (call (.builtin id) (v::us)) (EP X pins Z Q) X.xe s
theorem aO.one:∀{x:V} {us:List Value},aO [x] us->∃u,us=[u]/\bG x u:=by intro x us h;cases h with|cons r t=>cases t;exact⟨_,rfl,r⟩
theorem aO.zero:∀{us:List Value},aO [] us->us=[]
 | _,.nil=>rfl
theorem aO.dropLast{xs:List V}{us:List Value}(h:aO xs us):aO xs.dropLast us.dropLast:=by
 induction h with
 | nil=>exact .nil|cons r t l=>
  cases t with
  | nil=>exact .nil|cons q t'=>exact .cons r l
theorem aO.reverse{xs:List V}{us:List Value}(h:aO xs us):aO xs.reverse us.reverse:=by
 induction h with
 | nil=>exact .nil|cons r t l=>rw[DJ,DJ];exact aO.append l (.cons r .nil)
theorem aO.rep{xs:List V}{us:List Value}(h:aO xs us):∀k:Nat,aO (Aj k xs).flatten (Aj k us).flatten
 | 0=>.nil|k+1=>by rw[B4,B4,Df,Df];exact aO.append h (aO.rep h k)
theorem oP{α:Type}(l:List α):l.eraseIdx (l.length-1)=l.dropLast:=by
 induction l with
 | nil=>rfl|cons a r q=>
  cases r with
  | nil=>rfl|cons b r=>
   have e:(a::b::r).length-1=((b::r).length-1)+1:=by have B:(a::b::r).length=r.length+2:=rfl;have G:(b::r).length=r.length+1:=rfl;omega
   rw[e,List.eraseIdx_cons_succ,q]
   all_goals rfl
theorem lO(l:List Value):∀(k:Nat) (acc:List Value),
 HC (λB G=>B++G) acc.toArray (Aj k l.toArray)=(acc++(Aj k l).flatten).toArray
 | 0,acc=>by simp|k+1,acc=>by
  have e:acc.toArray++l.toArray=(acc++l).toArray:=by simp
  have q:(acc++l)++(Aj k l).flatten=acc++(Aj (k+1) l).flatten:=by rw[B4,Df,AD]
  rw[<-q,<-lO l k (acc++l),<-e,B4,BS]
section
variable {X:Cx} {pins:List (Addr×Obj)} {Z:St} {H:Hp} {s:Ac} {l b:Addr} {xs ys zs:List V}
theorem Inv.lset{B its':List Value}{n:Nat}{f:Array Value->Array Value}{t':Nat}(I:Inv X pins Z H s)(G:H l=some (.lst xs))
 (e:s.heap.get? l=some { cls:=.type "list",data:=.seq B.toArray n }) (M:f B.toArray=its'.toArray) (W:aO ys its') (hz:ys.length<=sizeLine) :
 Inv X pins Z (upd H l (.lst ys)) { s with heap:=s.heap.update l (BD f),toks:=t' }:=by have q:=II e f;rw[M] at q;refine I.write (x:=l) (e:=l) (by rw[G];exact trivial) (.inl rfl) (λb' u L U=>(D6 s.heap (BD f) (DI L)).trans U) ⟨_,q⟩ ?_;exact⟨hz,its',_,W,q⟩
theorem Inv.lnew{B:List Value}{t':Nat}(I:Inv X pins Z H s)(G:aO ys B)(L:ys.length<=sizeLine) :
 Inv X pins Z (upd H s.heap.objs.size (.lst ys)) { s with heap:=s.heap.push { cls:=.type "list",data:=.seq B.toArray },toks:=t' }:=
 I.laid (λ_ _ q=>Ab _ q) (Ah _) ⟨L,B,0,G,Ao _ rfl⟩
theorem Inv.fresh(I:Inv X pins Z H s):H s.heap.objs.size=none:=I.hok.fresh (Ah _)
theorem Inv.lstM(I:Inv X pins Z H s)(B:H l=some (.lst xs)):xs.length<=sizeLine/\∃(q:List Value) (n:Nat),aO xs q/\xs.length=q.length/\s.heap.get? l=some { cls:=.type "list",data:=.seq q.toArray n }:=by obtain⟨z,q,n,r,e⟩:=I.hok l _ B;exact⟨z,q,n,r,r.length,e⟩
theorem vV{n:Nat}(h:n<=sizeLine):Dp n=false:=by unfold Dp;exact Az (by omega)
end
section
variable {X:Cx}
noncomputable def aFz:V->List V->Hp->VK->Prop:=λx vs H Q=>∃l xs y,x=.ref l/\vs=[y]/\H l=some (.lst xs)/\xs.length<sizeLine/\Q .non (upd H l (.lst (xs++[y])))
theorem aBG:MtM X "list.append" aFz:=by intro pins s Z H x vs v us Q I M rv h;obtain⟨l,xs,y,rfl,rfl,G,W,q⟩:=h;cases M;obtain⟨u,rfl,L⟩:=rv.one;obtain⟨z,B,n,r,U,e⟩:=I.lstM G;refine DR HD ⟨_,e,rfl⟩ Hf (GM _ _) (HZ l B.toArray n u (by rw[Af];omega)) ⟨e,?_⟩;refine⟨.non,_,I.lset (its':=B++[u]) G e (by simp) (r.append (.cons L .nil)) ?_,rfl,q⟩;rw[D5,E9];omega
noncomputable def aFA:V->List V->Hp->VK->Prop:=λx vs H Q=>∃l b xs zs,x=.ref l/\vs=[.ref b]/\H l=some (.lst xs)/\H b=some (.lst zs)/\xs.length+zs.length<=sizeLine/\Q .non (upd H l (.lst (xs++zs)))
theorem aBH:MtM X "list.extend" aFA:=by
 intro pins s Z H x vs v us Q I rx rv h;obtain⟨l,b,xs,zs,rfl,rfl,M,hB,hz,q⟩:=h;cases rx;obtain⟨u,rfl,ru⟩:=rv.one;cases ru;obtain⟨z,G,n,r,hl,e⟩:=I.lstM M;obtain⟨z2,B,n2,r2,W,U⟩:=I.lstM hB;have hsz:G.toArray.size+B.toArray.size<=sizeLine:=by rw[Af,Af];omega
 have L:¬ (!G.toArray.isEmpty&&Dp (G.toArray.size+B.toArray.size))=true:=by rw[vV hsz,GN];exact CN
 refine DR F.slot_list_extend ⟨_,e,rfl⟩ F.entry_list_extend (F.args_list_extend_2 _ _)
  (Ia l G.toArray n b B.toArray n2 L (by rw[Af];omega) (by omega)) ⟨e,U,?_⟩
 refine⟨.non,_,I.lset (its':=G++B) M e (by simp) (r.append r2) ?_,rfl,q⟩;rw[D5];omega
noncomputable def aNe:V->List V->Hp->VK->Prop:=λx vs H Q=>∃l xs y,x=.ref l/\vs=[]/\H l=some (.lst xs)/\xs[xs.length-1]? = some y/\Q y (upd H l (.lst xs.dropLast))
theorem aIi:MtM X "list.pop" aNe:=by
 intro pins s Z H x vs v us Q I rx rv h;obtain⟨l,xs,y,rfl,rfl,M,hy,q⟩:=h;cases rx;have G:=rv.zero;subst G;obtain⟨z,B,n,r,U,e⟩:=I.lstM M;obtain⟨u,W,ru⟩:=r.get hy;have L:B.toArray[B.toArray.size-1]? = some u:=by show B.toArray[B.length-1]? = some u;rw[<-AT,<-U];exact W
 refine DR F.slot_list_pop ⟨_,e,rfl⟩ F.entry_list_pop (F.args_list_pop_1 _) (K0 l B.toArray n u L (by rw[Af];omega)) ⟨e,?_⟩;refine⟨y,_,I.lset (its':=B.dropLast) M e ?_ r.dropLast ?_,ru,q⟩;show B.toArray.eraseIdxIfInBounds (B.toArray.size-1)=B.dropLast.toArray;rw[Af,List.eraseIdxIfInBounds_toArray,oP];rw[List.length_dropLast];omega
noncomputable def aNf:R2:=λx y H Q=>∃l k xs,x=.ref l/\y=.int k/\H l=some (.lst xs)/\-(2 ^ 63)<=k/\k<2 ^ 63/\xs.length*k.toNat<=sizeLine /\
 ∀p,H p=none->Q (.ref p) (upd H p (.lst (Aj k.toNat xs).flatten))
theorem tU{α:Type}(xs:List α)(k:Nat):(Aj k xs).flatten.length=k*xs.length:=by
 induction k with
 | zero=>simp|succ k l=>rw[B4,Df,D5,l,Ib,Nat.add_comm]
theorem aIj:OpR X (Dc .Mult) aNf:=by
 intro pins s Z H x y v u Q I rx ry h;obtain⟨l,k,xs,rfl,rfl,hH,h1,h2,hz,q⟩:=h;cases rx;obtain⟨t,rfl⟩:=ry;obtain⟨z,B,n,r,hl,e⟩:=I.lstM hH;have W:B.toArray.size*k.toNat<=sizeLine:=by rw[Af,<-hl];exact hz
 have L:¬ B.toArray.size*k.toNat>(2 ^ 63-1) / 8:=by
  have:(sizeLine:Nat)<=(2 ^ 63-1) / 8:=by decide
  omega
 have M:¬ (!J7 k)=true:=by rw[fitsIndex_both h1 h2];exact CN
 have G:¬ Dp (B.toArray.size*k.toNat)=true:=by rw[vV W];exact CN
 have q0:HC (λx1 x2=>x1++x2) #[] (Aj (if B.toArray.isEmpty=true then 0 else k.toNat) B.toArray)=(Aj k.toNat B).flatten.toArray:=by
  have f0:∀m:Nat,HC (λx1 x2=>x1++x2) #[] (Aj m B.toArray)=(Aj m B).flatten.toArray:=λm=>by have:=lO B m [];rw[D8] at this;exact this
  rw[f0];cases B with
  | nil=>simp|cons a r'=>rw[if_neg (by simp)]
 refine F4 (T:= "list") (U:= "int") (by decide) ⟨_,e,rfl⟩ (λs'=>Gh s' k t) noFill_list_mul Jh ET repeat_list IJ.lookup
  (DR ET (Gh s k t) IK (Ic _ _) (int___rmul___int_list k t l B.toArray n)
   ⟨e,rfl,⟨_,e,rfl⟩,DR F.slot_list_mul ⟨_,e,rfl⟩ F.entry_list_mul (F.args_list_mul_2 _ _) (HR l B.toArray n k t M L G) ⟨e,?_⟩⟩)
 rw[q0];exact⟨.ref _,_,I.lnew (t':=s.toks) (r.rep k.toNat) (by rw[tU,Ie];exact hz),rfl,q _ I.fresh⟩
end
end L2
namespace Att
open PySem PySem.W PySem.Calls PyProof.Rows
theorem nK{P:J8}{h:Heap}:∀(ns:List Int) (vs:List Value),WellAll P h vs (ns.map LD)->Ez vs ns:=by
 intro ns
 induction ns with
 | nil=>intro vs w;rw[List.map_nil] at w;cases w;exact .nil|cons n ns l=>
  intro vs w;rw[List.map_cons] at w;cases w with
  | cons a b=>cases a;exact .cons _ _ (l _ b)
theorem aBI{l:L4}{n:Nat}(hn:l.most=some n){P:J8}{h:Heap}{args:List WData}{G:List Value}
 (B:l.row.toRowW.claim.pre args=true) (q0:WellAll P h G args) :
 ∃a vs ns,G=[A9 a]/\args=[WData.list (ns.map LD)]/\h.get? a=some { cls:=.type "list",data:=.seq vs.toArray }/\Ez vs ns/\ns.length<=n:=by
 have W:WShape.hasAll [] args [.list .int]=true:=(pre_splitW B).1;have hc:l.pre.holds [] { args:=args }=true:=(pre_splitW B).2;obtain⟨d,r,rfl,h1,h2⟩:=hasAllW_cons W;obtain rfl:=hasAllW_nil h2;obtain⟨xs,rfl,h3⟩:=hasW_list h1;obtain⟨ns,rfl⟩:=items_int h3;have L:ns.length<=n:=by
  unfold OpenLaw.pre at hc;have M:(WTm.not (.lt (.lit (.int (n:Int))) (.len (.arg 0)))).holds [] { args:=[.list (ns.map .int)] }=true:=by have M:=(holds_andW hc).1;rw[hn] at M;exact M
  have U:=condW_of M (w_not (w_lt w_lit (w_len_list (w_arg rfl))));rw[G3] at U;refine FR λq=>?_;have q':(n:Int)<((ns.length:Nat):Int):=by omega
  first
   | (rw[A8 q'] at U;exact absurd U (by decide))
   | (simp at U;omega)
 cases q0 with
 | cons w1 w2=>
  cases w2;cases w1 with
  | list ho I=>exact⟨_,_,ns,rfl,rfl,ho,nK ns _ I,L⟩
theorem aBJ(l:L4)(args:List WData):l.row.toRowW.claim.post args (.bool true) args=true:=
 postW_of (r:=l.row.toRowW) (X:=(true==true))
  (show Lq [] (.bool true) .bool=true by first|rfl|decide|simp[Lq,WShape.arms,WShape.armsAll])
  (show(WTm.eq .res (.lit (.bool true))).value [] { args:=args,res:=some (.bool true),after:=args }=some (.bool (true==true)) from w_eq_bool (w_res rfl) w_lit) rfl
theorem attach_call{l:L4}{n:Nat}{q:A0}{I:List Str}{XP:(Str->Option Value)->Heap->Prop}{YP:AN->Heap->Prop}{d:DefRec}
 (hn:l.most=some n) (q1:d.params.defaults=[])
 (call:∀(w:AN) (s₀ B:Ac) (mg mb:Str->Option Value) (fa:Addr) (o:Obj) (pm cd doc:Value) (a:Addr) (vs:List Value) (ns:List Int),
  Ground q I [] XP w s₀ mg mb B.heap->YP w B.heap ->
  B.heap.get? fa=some o->o.data=.func (docDef d.name d.params d.body d.scope pm cd doc)->B.heap.CodeRec cd d.name->mg d.name=some (.ref fa) ->
  B.heap.get? a=some { cls:=.type "list",data:=.seq vs.toArray }->Ez vs ns->ns.length<=n->B.gens=#[] ->
  EH (A6 l.prog w) Gj (.call (.ref fa) ⟨[.ref a],[]⟩) (λr s'=>r=.ok (.ret (.bool true))/\OldK B.heap s'.heap/\s'.os=B.os/\F8 s'.gens) B) :
 WalkO q I XP YP l.row.toRowW d [] (λf vs=>HE f vs):=by intro w s₀ B mg mb G Y fa o pm cd doc dV kV ho hd q0 hD q2 hg args q5 as W q4 q7 q3 q6;obtain rfl:dV=.none:=Dflts.none hD q1;obtain rfl:kV=.none:=Dflts.noKw hD;obtain⟨a,vs,ns,rfl,rfl,U,L,M⟩:=aBI hn W q3;refine enter_call (Fb (call w s₀ B mg mb fa o pm cd doc a vs ns G Y ho (fd_plain hd) q0 q2 U L M hg) λr s' hq=>?_);obtain⟨rfl,h2,h3,h4⟩:=hq;exact⟨.inl ⟨.bool true,.bool true,[],rfl,λ_=>rfl,.bool true,aBJ l _,λ_=>⟨C6,λ_ hm=>(nomatch hm)⟩⟩,h2,h3,h4⟩
end Att
namespace L2
open PySem PySem.Spec PyProof.Rows
theorem rX:∀{vs:List Value} {ns:List Int},Ez vs ns->aO (ns.map V.int) vs
 | _,_,.nil=>.nil|_,_,.cons n t h=>.cons ⟨t,rfl⟩ (rX h)
noncomputable def aFB(H:Hp):Prop:=∀b,H b=none\/∃o xs,H b=some (.frz o (.lst xs))
theorem aCT{P:A0}{w:AN}{K:Av}{mg mb:Str->Option Value}{CX:CXT}{k:Nat}{fa a:Addr}{fd:DN}{x:Str}{sp:Sp}{l:Ac}{vs:List Value}{ns:List Int}
 (KX:K.In l.heap) (q1:l.heap.Ns Bz mg) (G:l.heap.Ns Hz mb) (q5:∀x:Str,x ≠ "__name__" -> mb x=Cw x) (q0:l.heap.NoLimit) (hg:l.gens=#[])
 (ha:l.heap.get? a=some { cls:=.type "list",data:=.seq vs.toArray }) (hi:Ez vs ns) (hl:ns.length<=sizeLine) (hr:jN k Gj)
 (F:∀base:Heap,K.In base->base.Ns Bz mg->nJ P w K mg base CX k fa fd [x] sp) (U:∀(s:Ac) (u:Value),Ky s fd ⟨[u],[]⟩ [(x,u)])
 (q6:∀H:Hp,aFB H->SqL K H a (ns.map V.int)->sp [.ref a] H (λv _=>v=.bl true) λ_ _ _=>False)
 (q4:∀H e I,CX [] H l (λ_ _ _=>False) e I->False) :
 EH (A6 P w) Gj (.call (.ref fa) ⟨[.ref a],[]⟩) (λr I=>r=.ok (.ret (.bool true))/\OldK l.heap I.heap/\I.os=l.os/\F8 I.gens) l:=by
 have rv:=rX hi;have q3:=hi.length;have M:∀H:Hp,aFB H->SqL K H a (ns.map V.int)->HOk P w H l.heap->(∀b,H b≠none->b=a)->(H a≠none->K.lookup a=none) ->
  EH (A6 P w) Gj (.call (.ref fa) ⟨[.ref a],[]⟩) (λr I=>r=.ok (.ret (.bool true))/\OldK l.heap I.heap/\I.os=l.os/\F8 I.gens) l:=by
  intro H hO hS hok hA hK;have B:∀{b:Addr} {o:Obj},l.heap.get? b=some o->H b=none->(tF l.heap H).get? b=some o:=λe n=>aCs e n;have q7:∀{b:Addr} {o:Obj} {es:Array DE} {ep:Nat},l.heap.get? b=some o->o.data=.dict es ep->H b=none:=λ{b o es ep} e d=>by
   cases q:H b with
   | none=>rfl|some u=>have e':b=a:=hA b (by rw[q];simp);subst e';rw[ha] at e;cases e;have d':KS vs.toArray _=Data.dict es ep:=d;cases d'
  have L:∀{b:Addr} {m:Str->Option Value},l.heap.Ns b m->(tF l.heap H).Ns b m:=λ{b m} ⟨o,es,ep,e,d,r⟩=>⟨o,es,ep,B e (q7 e d),d,r⟩
  have W:K.In (tF l.heap H):=λb o e=>B (KX b o e) (by
   cases q:H b with
   | none=>rfl|some u=>
    have e':b=a:=hA b (by rw[q];simp);subst e';rw[hK (by rw[q];simp)] at e;cases e)
  have hM:Mod K mg (tF l.heap H):=⟨W,L q1,⟨mb,L G,q5⟩,let ⟨mc,h1,h2⟩:=q0;⟨mc,L h1,h2⟩⟩
  have e0:aFr P w K mg (tF l.heap H) Gj [] l H:=⟨rfl,hM,λb o e=>aFd e,K1 (aBz _ _),trivial,λb G=>absurd (show b∈([]:List Addr) from G) (by simp),hok,.of_eq hg⟩
  refine Fb ((F _ W (L q1)).run Gj [] l H ⟨[.ref a],[]⟩ [.ref a] [.ref a] _ _ hr e0 (U l (.ref a)) (.cons rfl .nil) (q6 H hO hS)) λr I h=>?_;cases r with
  | error e=>exact(q4 H e I h).elim|ok fl=>
   cases fl with
   | next=>exact D2 h|brk=>exact D2 h|cont=>exact D2 h|ret u=>
    obtain⟨v,H',os,bare,un,q2,r',q⟩:=h;have q':v=.bl true:=q;subst q';obtain rfl:u=Jw true:=r';refine⟨rfl,OldK.of_keep λb o e=>?_,os,bare⟩;cases q:H b with
    | none=>exact un.keep b o e q (by intro z;exact absurd (show b∈([]:List Addr) from z) (by simp)) (by simp)|some u=>
     rcases hO b with z|⟨ob,xs,z⟩
     rw[q] at z;cases z;have z2:=un.frzs b ob _ z;obtain⟨e1,_⟩:=hok b _ z;obtain⟨e2,_⟩:=q2 b _ z2;rw[e] at e1;cases e1;exact e2
 cases hk:K.lookup a with
 | some o=>have e:=KX a o hk;rw[ha] at e;cases e;refine M (λ_=>none) (λ_=>.inl rfl) (.inr ⟨_,vs.toArray,_,hk,rfl,rfl,rfl,by rw[Af,q3];exact hl,by simpa using rv⟩) (λb u z=>by have z':(none:Option HO)=some u:=z;cases z') (λb z=>absurd rfl z) λz=>absurd rfl z|none=>refine M (λb=>if b=a then some (.frz { cls:=.type "list",data:=.seq vs.toArray } (.lst (ns.map V.int))) else none) (λb=>?_) (.inl (.inr ⟨{ cls:=.type "list",data:=.seq vs.toArray },if_pos rfl⟩)) (λb u z=>?_) (λb z=>?_) λ_=>hk;by_cases G:b=a;exact .inr ⟨_,_,if_pos G⟩;exact .inl (if_neg G);by_cases G:b=a;have z':=(if_pos G).symm.trans z;cases z';subst G;exact⟨ha,by rw[G3];exact hl,vs,_,rv,ha⟩;have z':=(if_neg G).symm.trans z;cases z';by_cases G:b=a;exact G;exact absurd (if_neg G) z
noncomputable def iL(s:CG):Hb:=match s with|.FunctionDef _ a _ _ _ _ _ _ _ _=>a|_=>{ posonlyargs:=[],args:=[],vararg:=none,kwonlyargs:=[],kw_defaults:=[],kwarg:=none,defaults:=[] }
noncomputable def iM(s:CG):List CG:=match s with|.FunctionDef _ _ b _ _ _ _ _ _ _=>b|_=>[]
noncomputable def bL(s:CG):DL:=match s with|.FunctionDef _ _ _ _ _ _ sc _ _ _=>sc|_=>{ kind:=.function,names:=[],isGenerator:=false,isCoroutine:=false }
abbrev CX0:CXT:=λ_ _ _ _ _ _=>False
abbrev E0:XK:=λ_ _ _=>False
theorem aGZ{X:Cx}:tL CX0 X E0:=λ_ _ _ _ _ _ _ h=>h.elim
structure Fun (K:Av) (x qual:Str) (st:CG) (f:Addr) (fd:DN):Prop where
 ex:∃(oc:Value) (od:Option Addr) (kV doc pm:Value) (an:Option Addr) (cdv ct:Value) (osl:Array (Option Value)),
  fd=Gb x qual (iL st) (iM st) (bL st) .none kV doc pm an cdv ct/\K.lookup f=some ⟨oc,od,.func fd,osl⟩/\J3 K cdv qual=true
 kp:DO K (.ref f)=true
section
variable {P:A0} {w:AN} {K:Av} {mg:Str->Option Value} {base:Heap}
theorem Fun.ok{x qual:Str}{st:CG}{f:Addr}{fd:DN}{N ps:List Str}{k:Nat}{sp:Sp}(F:Fun K x qual st f fd)(S:nR N ps (bL st))(len:∀vs H Q E,sp vs H Q E->vs.length=ps.length)
 (l:∀(cdv:Value) (A:AQ) (outer:List JX) (s:Ac) (H:Hp) (vs:List V) (Q:VK) (E:XK),jN k (A.deeper (GJ qual (bL st) s.heap.objs.size f cdv))->sp vs H Q E ->
  ∃t,PSs (yZ CX0 P w K mg base N qual (bL st) f cdv A outer s H E).nox (iM st) t/\t { nx:=λ_ H'=>Q .non H',rt:=Q } (start N vs) H):nJ P w K mg base CX0 (k+1) f fd ps sp:=by obtain⟨oc,od,kV,doc,pm,an,cdv,ct,osl,rfl,L,B⟩:=F.ex;refine aKy L B S len λA outer s H vs Q E I G=>?_;obtain⟨t,h,q⟩:=l cdv A outer s H vs Q E I G;exact⟨t,h.nox,q⟩
theorem Fun.binds{x qual:Str}{st:CG}{f:Addr}{fd:DN}{ps:List Str}(F:Fun K x qual st f fd)
 (h:∀(kV doc pm:Value) (an:Option Addr) (cdv ct:Value) (us:List Value),us.length=ps.length->Jz (Gb x qual (iL st) (iM st) (bL st) .none kV doc pm an cdv ct) ⟨us,[]⟩=pure (ps.zip us)):jI K fd ps []:=by obtain⟨oc,od,kV,doc,pm,an,cdv,ct,osl,rfl,q,l⟩:=F.ex;exact .all (h kV doc pm an cdv ct)
end
theorem aKG{A B:Prop}(h:B):if false=true then A else B:=by rw[if_neg CN];exact h
theorem aNg{A B:Prop}(h:A):if true=true then A else B:=by rw[if_pos rfl];exact h
noncomputable def aL(H H':Hp):Prop:=∀b o,H b=some o->H' b=some o
theorem aL.refl(H:Hp):aL H H:=λ_ _ h=>h
theorem aL.trans{H H1 l:Hp}(a:aL H H1)(b:aL H1 l):aL H l:=λc o h=>b c o (a c o h)
theorem aL.free{H H':Hp}(e:aL H H'){l:Addr}(h:H' l=KT):H l=KT:=by
 cases q:H l with
 | none=>rfl|some o=>rw[e l o q] at h;cases h
theorem aL.seq{K:Av}{H H':Hp}{a:Addr}{xs:List V}(e:aL H H')(h:SqL K H a xs):SqL K H' a xs:=by rcases h with(h|⟨o,h⟩)|h;exact .inl (.inl (e _ _ h));exact .inl (.inr ⟨o,e _ _ h⟩);exact .inr h
end L2
end
namespace L2
open PySem PySem.Spec PyProof.Rows
section
variable {prog:A0} {w:AN} {K:Type} [DecidableEq K] (knd:KU prog w K)
inductive bJ (h:Heap):List K->List Value->Prop
 | nil:bJ h [] []
 | cons {k:K} {a:Addr} {ks:List K} {vs:List Value}:knd.is h k a->bJ h ks vs->bJ h (k::ks) (.ref a::vs)
noncomputable def dQ(h:Heap)(ks:List K)(a:Addr):Prop:=∃o its n,h.get? a=some o/\o.cls=.type "tuple" /\ o.data=.seq its n/\bJ knd h ks its.toList
noncomputable def oQ(ks:List K):Int:=HF (BJ (ks.map knd.hash))
noncomputable def lP(ks:List K):Nat:=(ks.map knd.draws).sum+1
variable {knd}
theorem bJ.inj{h:Heap}:∀{x y:List K} {vs:List Value},bJ knd h x vs->bJ knd h y vs->x=y
 | _,_,_,.nil,hy=>by cases hy;rfl|_,_,_,.cons h1 t,hy=>by
  cases hy with
  | cons l q=>rw[knd.inj h1 l,t.inj q]
theorem bJ.keeps{h h':Heap}{d:Addr}{o:Obj}{es ep}(l:h.get? d=some o)(hd:o.data=.dict es ep)(hs:CF d h h'):∀{x:List K} {vs:List Value},bJ knd h x vs->bJ knd h' x vs
 | _,_,.nil=>.nil|_,_,.cons h1 t=>.cons (knd.keeps h1 l hd hs) (t.keeps l hd hs)
theorem dQ.typeIs{s:Ac}{ks:List K}{a:Addr}(x:dQ knd s.heap ks a):s.TypeIs (.ref a) "tuple" := let ⟨o,_,_,ho,hc,_⟩:=x;⟨o,ho,hc⟩
variable {A:AQ} {E:Value->Ac->Prop} {s:Ac}
theorem aBK{ks:List K}{a:Addr}{Q:Int->Ac->Prop}(U:A.units<Dz)(q:knd.room A.in1)(L:dQ knd s.heap ks a)(h:Q (oQ knd ks) { s with toks:=s.toks+lP knd ks }):Al (A6 prog w) A (pyHash (.ref a)) Q E s:=by
 have T:=L.typeIs;obtain⟨o,W,n,M,_,hd,hi⟩:=L;unfold pyHash pyHashByItsType;refine Aa (wpAny_cRoomFor_or (.inr U) (Aa (C9 T E3.lookup ?_)));rw[if_neg (by rw[beq_builtin_none];exact bN)];refine Aa (C9 T E3.lookup ?_);refine Aa (m:=callSpecialIfBoundUnlessNone? (.ref a) "__hash__" _) (wpAny_callSpecialIfBoundUnlessNone?_slot T E3 (Bb E3 T F.entry_tuple_hash ?_ (F.args_tuple_hash_1 _)));refine Aa (m:=DP (.ref a)) (Fl M hd (Aa ?_));rw[<-Cp];refine BH _ (λrest (b:Array Int) I=>∃done l,ks=done++l/\bJ knd s.heap l rest/\b.toList=done.map knd.hash/\I={ s with toks:=s.toks+(done.map knd.draws).sum }) _ ?_ ?_ _ _ ⟨[],ks,rfl,hi,rfl,rfl⟩
 . rintro x rest b I ⟨done,l,rfl,G,B,rfl⟩;cases G with|@cons k _ ks' _ h1 hl'=>refine Aa (knd.pyHash (s:={ s with toks:=s.toks+(done.map knd.draws).sum }) q h1 ?_);exact Ad ⟨done++[k],ks',by simp,hl',by simp[B],by simp[EI]⟩
 . rintro b I ⟨done,l,rfl,G,B,rfl⟩;cases G;rw[AV] at h;show Al _ _ (retInt (BJ b.toList)) _ _ _;rw[B];refine wpAny_ret_mkInt ?_;show Al _ _ (if (decide (-(2:Int) ^ 63<=BJ (done.map knd.hash))&&decide (BJ (done.map knd.hash)<2 ^ 63))=true then _ else _) Q E _;unfold oQ HF lP at h;split;rename_i q;rw[if_pos q] at h;exact Ad (by simpa[EI] using h);rename_i q;rw[if_neg q] at h;exact Aa (Cq (Ad (by simpa[EI] using h)))
theorem aCU{x y:List K}{a b:Addr}{P:Fin->Ac->Prop}(hr:knd.room A)(hx:dQ knd s.heap x a)(hy:dQ knd s.heap y b)(h:P (.done (.ret (.bool (decide (x=y))))) s):Al (A6 prog w) A (Cz.«tuple.__eq__» ⟨[.ref a,.ref b],[]⟩) P E s:=by
 have Tb:=hy.typeIs;obtain⟨oa,xs,na,q5,_,q1,q3⟩:=hx;obtain⟨ob,ys,nb,q6,_,q2,q4⟩:=hy;refine Aa (m:=J9 (.ref b) (.type "tuple")) (Cr Tb EA ?_);simp only[Bh,bF,if_false];refine Aa (Fl q5 q1 (Aa (Fl q6 q2 (Aa ?_))));refine BH _ (λrest r W=>r.1=none/\W=s/\∃x' y' B G,rest=List.zip B G/\bJ knd s.heap x' B/\bJ knd s.heap y' G/\decide (x'=y')=decide (x=y)/\(B.length==G.length)=(xs.size==ys.size)) _ ?_ ?_ _ _ ⟨rfl,rfl,x,y,xs.toList,ys.toList,rfl,q3,q4,rfl,by simp⟩;rintro ⟨u,v⟩ rest r W ⟨_,rfl,x',y',B,G,M,L,I,l,q⟩;cases L with
 | nil=>simp at M|@cons k1 _ x'' xs'' h1 hx''=>
  cases I with
  | nil=>simp at M|@cons k2 _ y'' ys'' h2 hy''=>
   simp only[AE,LI,CM] at M;obtain⟨⟨rfl,rfl⟩,rfl⟩:=M;refine Aa (knd.eqBool (x:=k1) (y:=k2) hr h1 h2 ?_);by_cases hk:k1=k2;subst hk;rw[A8 rfl];simp only[Bh,bF,if_false];exact Ad ⟨rfl,rfl,x'',y'',xs'',ys'',rfl,hx'',hy'',by rw[<-l];simp,by simpa using q⟩;rw[Az hk];simp only[DS,if_true];have hf:decide (x=y)=false:=by rw[<-l];simp[hk]
   rw[hf] at h;exact Aa (Ad (Ad (Ad h)))
 rintro ⟨r1,r2⟩ W ⟨U,rfl,x',y',B,G,M,L,I,l,q⟩;simp only at U;subst U;have q0:(xs.size==ys.size)=decide (x=y):=by
  rw[<-l,<-q];cases L with
  | nil=>cases I <;> simp|cons _ _=>
   cases I with
   | nil=>simp|cons _ _=>simp at M
 refine Ad ?_;show P (.done (.ret (.bool (xs.size==ys.size)))) W;rw[q0];exact h
theorem dQ.inj{h:Heap}{a:Addr}{x y:List K}(I:dQ knd h x a)(L:dQ knd h y a):x=y:=by obtain⟨o,M,n,G,_,hd,hi⟩:=I;obtain⟨o',its',U,q,_,l,B⟩:=L;rw[G] at q;cases q;rw[hd] at l;cases l;exact hi.inj B
theorem aFC{x y:List K}{a b:Addr}{Q:Bool->Ac->Prop}(I:A.units<Dz)(G:knd.room A.in1)(q:dQ knd s.heap x a)(B:dQ knd s.heap y b)(h:Q (decide (x=y)) s):Al (A6 prog w) A (eqBool (.ref a) (.ref b)) Q E s:=by
 unfold eqBool
 try with_reducible refine Br ?_
 show Al _ _ (if (A9 a==A9 b)=true then _ else _) Q E s;by_cases l:(A9 a==A9 b)=true;have e:a=b:=by have:=eq_of_beq l;injection this
 subst e;rw[if_pos l,q.inj B] at *;exact Aa (Cq (Ad (by simpa using h)));rw[if_neg l];exact Aa (wpAny_richCompare_same_room (op:=.Eq) q.typeIs B.typeIs EU
  (Bb EU q.typeIs F.entry_tuple_eq (aCU G q B ⟨_,rfl,(λe=>nomatch e),Ca h⟩) (F.args_tuple_eq_2 _ _)) I)
end
section
variable {prog:A0} {w:AN} {A:AQ} {E:Value->Ac->Prop} {s:Ac}
theorem zD{K:Type}[DecidableEq K]{knd:KeyKind prog w K}{n:Nat}{ks:List K}{a:Addr}{Q:Bool->Ac->Prop}(I:JA knd s.heap ks a)(h:Q true s):Al (A6 prog w) A (IL (n+1) (.ref a)) Q E s:=by have T:=I.typeIs;obtain⟨o,B,m,M,_,hd,hi⟩:=I;unfold IL;refine Aa (C9 T EU.lookup (Aa (m:=J9 (.ref a) (.type "tuple")) (Cr T EA ?_)));simp only[Bh,bF,if_false];refine Aa (Bv M hd (Aa (m:=forIn B _ _) ?_));rw[<-Cp];refine BH _ (λrest r G=>r.1=none/\G=s/\∀v∈rest,DT v=true) _ ?_ ?_ _ _ ⟨rfl,rfl,hi.byValue⟩;rintro v rest r G ⟨_,rfl,l⟩;rw[eqIsQuiet_byValue _ (l v Ak)];refine Aa (Ad ?_);simp only[Bh,bF,if_false];exact Ad ⟨rfl,rfl,λu q=>l u (Ag _ q)⟩;rintro ⟨U,W⟩ G ⟨L,rfl,_⟩;simp only at L;subst L;exact Ad h
theorem zF{K:Type}[DecidableEq K]{knd:KeyKind prog w K}{ks:List (List K)}{a:Addr}{Q:Bool->Ac->Prop}(G:dQ (Cm knd) s.heap ks a)(h:Q true s):Al (A6 prog w) A (IL 8 (.ref a)) Q E s:=by
 have T:=G.typeIs;obtain⟨o,q,m,U,_,hd,hi⟩:=G;unfold IL;refine Aa (C9 T EU.lookup (Aa (m:=J9 (.ref a) (.type "tuple")) (Cr T EA ?_)));simp only[Bh,bF,if_false];refine Aa (Bv U hd (Aa (m:=forIn q _ _) ?_));rw[<-Cp];refine BH _ (λrest r B=>r.1=none/\B=s/\∃ks',bJ (Cm knd) s.heap ks' rest) _ ?_ ?_ _ _ ⟨rfl,rfl,ks,hi⟩;rintro v rest r B ⟨_,rfl,ks',M⟩;cases M with
 | cons L l=>refine Aa (zD (n:=6) L ?_);simp only[Bh,bF,if_false];exact Ad ⟨rfl,rfl,_,l⟩
 rintro ⟨W,r2⟩ B ⟨I,rfl,_⟩;simp only at I;subst I;exact Ad h
noncomputable def oR{K:Type}[DecidableEq K](knd:KeyKind prog w K):KU prog w (List (List K)) where
 is:=dQ (Cm knd)
 hash:=oQ (Cm knd)
 draws:=lP (Cm knd)
 room:=λA=>A.units+8<Dz
 inj:=λhx hy=>hx.inj hy
 keeps:=λ{h h' k a d o es ep} x ho hd hs=>by
  obtain⟨o',its,n,ho',hc,hd',hi⟩:=x;have hne:a≠d:=λe=>by subst e;rw[ho'] at ho;cases ho;rw[hd] at hd';cases hd'
  exact⟨o',its,n,(hs.2 a hne).trans ho',hc,hd',hi.keeps ho hd hs⟩
 pyHash:=λ{A E s k a Q} hu hk h=>aBK (by omega) (show A.in1.units<Dz by show A.units+1<Dz;omega) hk h
 eqBool:=λ{A E s x y a b Q} hu hx hy h=>aFC (by omega) (show A.in1.units<Dz by show A.units+1<Dz;omega) hx hy h
 quiet:=λhk h=>zF hk h
end
abbrev NK:=List (List Int)
abbrev NE:=NK×Addr×V
abbrev pj(x:NE):NK×V:=(x.1,x.2.2)
noncomputable def kC(x:NE)(e:NK×Addr×Value):Prop:=e.1=x.1/\e.2.1=x.2.1/\bG x.2.2 e.2.2
noncomputable def nkH(k:NK):Int:=HF (BJ (k.map λk=>HF (BJ (k.map hashInt))))
noncomputable def aNh(x:NK×Addr×Value):DE:=⟨nkH x.1,.ref x.2.1,x.2.2⟩
noncomputable def aIk(a:Addr)(xs:List NE)(h:Heap):Prop:=
 (a==CP)=false/\xs.length<=sizeLine/\∃o es ep vs,h.get? a=some o/\o.ExactDict/\o.data=.dict es ep/\es.toList=vs.map aNh/\CO kC xs vs/\(xs.map (·.1)).Nodup
abbrev dR(a:Addr)(xs:List NE):HO:=.ext (aIk a xs)
noncomputable def cE(K:Av)(H:Hp)(k:NK)(b:Addr):Prop:=∃bs:List Addr,SqT K H b (bs.map V.ref)/\CO (λis c=>SqT K H c (is.map V.int)) k bs
section
variable {X:Cx} {pins:List (Addr×Obj)} {Z:St} {H:Hp} {s:Ac}
theorem aCV{is:List Int}:∀{us:List Value},aO (is.map V.int) us->ItemsAre (CD X.prog X.w) is us:=by
 induction is with
 | nil=>intro us h;rw[mN] at h;cases h;exact .nil|cons i is l=>
  intro us h;rw[mC] at h;cases h with
  | cons r t=>obtain⟨tk,e⟩:∃t,_=FO i t:=r;subst e;exact .cons (intKind_is _ _ i tk) (l t)
theorem aFD(I:Inv X pins Z H s){c:Addr}{is:List Int}(h:SqT X.K H c (is.map V.int)):JA (CD X.prog X.w) s.heap is c:=by obtain⟨l,rv,⟨o,B,q,n,hd⟩,_⟩:=I.tuple h;exact⟨o,l.toArray,n,B,q,hd,by simpa using aCV rv⟩
theorem vW(I:Inv X pins Z H s):∀{k:NK} {bs:List Addr} {us:List Value},CO (λis c=>SqT X.K H c (is.map V.int)) k bs->aO (bs.map V.ref) us->bJ (Cm (CD X.prog X.w)) s.heap k us
 | _,_,us,.nil,r=>by rw[mN] at r;cases r;exact .nil|_,_,us,.cons h t,r=>by
  rw[mC] at r;cases r with
  | cons l q=>cases l;exact .cons (aFD I h) (vW I t q)
theorem oT(I:Inv X pins Z H s){k:NK}{b:Addr}(h:cE X.K H k b):dQ (Cm (CD X.prog X.w)) s.heap k b:=by obtain⟨bs,q,p⟩:=h;obtain⟨l,rv,⟨o,G,B,n,hd⟩,_⟩:=I.tuple q;exact⟨o,l.toArray,n,G,B,hd,by simpa using vW I p rv⟩
theorem iN:∀{xs:List NE} {vs:List (NK×Addr×Value)},CO kC xs vs->vs.map (·.1)=xs.map (·.1)
 | _,_,.nil=>rfl|_,_,.cons h t=>by rw[mC,mC,iN t,h.1]
theorem vX:∀{xs:List NE} {vs:List (NK×Addr×Value)},CO kC xs vs->∀v∈vs,∃x∈xs,kC x v
 | _,_,.nil,v,h=>by cases h|_,_,.cons h t,v,m=>by rcases Au.mp m with rfl|m;exact⟨_,Ak ..,h⟩;obtain⟨x,l,r⟩:=vX t v m;exact⟨x,Ag _ l,r⟩
theorem aAA{k:NK}:∀{xs:List NE} {vs:List (NK×Addr×Value)},CO kC xs vs->(atKey vs k).isSome=decide (k∈xs.map (·.1))
 | _,_,.nil=>rfl|x::xs,e::vs,.cons h t=>by
  have q:=aAA (k:=k) t;unfold atKey at q ⊢;rw[G5];by_cases l:x.1=k;rw[show decide (e.1=k)=true from A8 (h.1.trans l)];subst l;simp;rw[show decide (e.1=k)=false from Az (by rw[h.1];exact l)];simp only;rw[q];have e:(k∈(x::xs).map (·.1))↔k∈xs.map (·.1):=by simp[DI l]
  simp only[e]
theorem aAB(I:Inv X pins Z H s){a:Addr}{xs:List NE}(e:H a=some (dR a xs))(hk:∀x∈xs,cE X.K H x.1 x.2.1):(a==CP)=false/\xs.length<=sizeLine/\∃vs,CO kC xs vs/\s.heap.DictOfH (oR (CD X.prog X.w)) a vs:=by
 obtain⟨⟨q,B,o,es,ep,vs,G,L,M,U,l,W⟩,_⟩:=(show eD X.prog X.w H s.heap a (dR a xs) from I.hok a _ e)
 refine⟨q,B,vs,l,o,es,ep,G,L,M,U,λx hx=>?_,?_⟩;obtain⟨y,hy,r1,r2,_⟩:=vX l x hx;rw[r1,r2];exact oT I (hk y hy);rw[iN l];exact W
noncomputable def nL(xs:List NE)(k:NK)(b:Addr)(v:V):List NE:=if k∈xs.map (·.1) then xs.map (λx=>if x.1=k then (x.1,x.2.1,v) else x) else xs++[(k,b,v)]
theorem vY{k:NK}{v:V}{u:Value}(r:bG v u):∀{xs:List NE} {vs:List (NK×Addr×Value)},CO kC xs vs->CO kC (xs.map λx=>if x.1=k then (x.1,x.2.1,v) else x) (vs.map (putAt k u))
 | _,_,.nil=>.nil|x::xs,e::vs,.cons h t=>by rw[mC,mC];refine .cons ?_ (vY r t);unfold putAt;by_cases l:x.1=k;rw[if_pos l,if_pos (h.1.trans l)];exact⟨h.1,h.2.1,r⟩;rw[if_neg l,if_neg (by rw[h.1];exact l)];exact h
theorem vZ{x:NE}{e:NK×Addr×Value}(r:kC x e):∀{xs:List NE} {vs:List (NK×Addr×Value)},CO kC xs vs->CO kC (xs++[x]) (vs++[e])
 | _,_,.nil=>.cons r .nil|_,_,.cons h t=>.cons h (vZ r t)
theorem wC{xs:List NE}{vs:List (NK×Addr×Value)}{k:NK}{b:Addr}{v:V}{u:Value}(h:CO kC xs vs)(r:bG v u):CO kC (nL xs k b v) (storedH vs k b u):=by unfold storedH nL;rw[aAA h];by_cases l:k∈xs.map (·.1);rw[if_pos (A8 l),if_pos l];exact vY r h;rw[if_neg l,if_neg (by simpa using l)];exact vZ ⟨rfl,rfl,r⟩ h
theorem wD{xs:List NE}{k:NK}{b:Addr}{v:V}:(nL xs k b v).length<=xs.length+1:=by unfold nL;split;rw[lM];omega;rw[lA];exact Ah _
theorem aAC{a:Addr}{xs:List NE}:∀B G:Heap,aIk a xs B->(∀o,B.get? a=some o->G.get? a=some o)->aIk a xs G:=by rintro B G ⟨L,M,o',q,l,vs,U,W⟩ I;exact⟨L,M,o',q,l,vs,I _ U,W⟩
theorem aIl(hu:X.A.units+100<Dz):aHQ X (λo i v H Q=>∃a b xs k,o=.ref a/\i=.ref b/\H a=some (dR a xs)/\(∀x∈xs,cE X.K H x.1 x.2.1)/\cE X.K H k b/\xs.length<sizeLine/\Q (upd H a (dR a (nL xs k b v)))):=by
 intro pins s Z H o i v ov iv u Q I ro ri rv h;obtain⟨a,b,xs,k,rfl,rfl,e,hk,kb,hl,q⟩:=h;cases ro;cases ri;obtain⟨h1,h2,vs,G,h3⟩:=aAB I e hk;have len:vs.length=xs.length:=(FH G).symm;refine wpAny_setItem_heap (knd:=oR (CD X.prog X.w)) (hsz:=by rw[len];exact h2) (show X.A.in1.units+8<Dz by show X.A.units+1+8<Dz;omega) (oT I kb) h3 λh' hm hs=>?_;obtain⟨ob,es,ep,B,L,M,U,_,W⟩:=hm;have l:=wC (k:=k) (b:=b) G rv;have nd:((nL xs k b v).map (·.1)).Nodup:=by rw[<-iN l];exact W
 have lp:(nL xs k b v).length<=sizeLine:=AC wD hl;refine⟨_,I.write (x:=a) (e:=a) (o:=dR a (nL xs k b v)) (by rw[e];exact Gk) (.inl rfl) (λc q hc z=>(hs.2 c hc).trans z) ⟨ob,B⟩ ⟨⟨h1,lp,ob,es,ep,_,B,L,M,U,l,nd⟩,⟨ob,B⟩,aAC⟩,q⟩
theorem Inv.big(I:Inv X pins Z H s):CP<s.heap.objs.size:=by have h:Bz<s.heap.objs.size:=(I.ok.mod.glob.keeps I.bk).lt;exact E4 (by decide) h
noncomputable def aIm:TE:=λ_ H Q=>∀p,H p=none->Q (.ref p) (upd H p (dR p []))
theorem aCW{pos:DK}:PE X (.Dict [] [] pos) aIm:=λpins s Z H Q I h=>
 wpAny_Dict_empty ⟨.ref s.heap.objs.size,_,I.laid (a:=s.heap.objs.size) (o:=dR s.heap.objs.size []) (t':=s.toks) (λ_ _ q=>Ab _ q) (Ah _)
  ⟨⟨beq_eq_false_iff_ne.mpr (DI (A4 I.big)),AL _,_,#[],0,[],Ao _ rfl,⟨rfl,rfl,rfl⟩,rfl,rfl,.nil,Fm⟩,⟨_,Ao _ rfl⟩,aAC⟩,rfl,h _ (I.hok.fresh (Ah _))⟩
end
noncomputable def aFE(ks:List (NK×V))(k:NK×V):List (NK×V):=if k.1∈ks.map (·.1) then ks.map (λx=>if x.1=k.1 then (x.1,k.2) else x) else ks++[k]
theorem aCX(xs:List NE)(k:NK)(b:Addr)(v:V):(nL xs k b v).map pj=aFE (xs.map pj) (k,v):=by
 have e:(xs.map pj).map (·.1)=xs.map (·.1):=by rw[A7];rfl
 unfold nL aFE;rw[e];split;rw[A7,A7];refine CB λx _=>?_;show pj (if x.1=k then _ else _)=if x.1=k then _ else _
 split <;> rfl;rw[Bj];rfl
end L2
namespace L2
open PySem PySem.Spec PyProof.Rows PySem.Builtin
set_option maxRecDepth 100000 in
theorem lQ:fillsNumberSlot (.type "tuple") "mul" = pure false:=
 PySem.fillsNumberSlot_seq (id:= "tuple.__mul__") (r:=some (.builtin "tuple.__rmul__")) ED.lookup (by decide +kernel) Ig.lookup (by decide +kernel)
theorem tV:seqRepeat? (.type "tuple")=pure (some (.builtin "tuple.__mul__")):=by unfold seqRepeat?;rw[IM (T:= "tuple") (name:= "__mul__") (id:= "tuple.__mul__") ED.lookup (by decide +kernel),IM (T:= "tuple") (name:= "__rmul__") (id:= "tuple.__rmul__") Ig.lookup (by decide +kernel)];rfl
theorem oU(a:Int)(t:Lz)(l:Addr)(od:Option Addr)(items:Array Value)(n:Nat)(sl:Array (Option Value)):L3 (Cz.«int.__rmul__» ⟨[.int a t,.ref l],[]⟩) (λ_ R s=>s.heap.get? l=some { cls:=.type "tuple",dict:=od,data:=.seq items n,slots:=sl }/\R (.ok (.ret GK)) s):=
 .of_wp λprog w A R s h=>by obtain⟨B,g,d,tk,os⟩:=s;obtain⟨q,h⟩:=h;wp_walk;exact⟨_,rfl,h⟩
theorem wG(l:Addr)(t:Lz)(od:Option Addr)(items:Array Value)(n:Nat)(sl:Array (Option Value)):L3 (Cz.«tuple.__mul__» ⟨[.ref l,.int 1 t],[]⟩) (λ_ R s=>s.heap.get? l=some { cls:=.type "tuple",dict:=od,data:=.seq items n,slots:=sl }/\R (.ok (.ret (.ref l))) s):=
 .of_wp λprog w A R s h=>by obtain⟨B,g,d,tk,os⟩:=s;obtain⟨q,h⟩:=h;wp_walk;exact⟨_,rfl,h⟩
theorem wH(l:Addr)(t:Lz)(k:Int)(od:Option Addr)(items:Array Value)(n:Nat)(sl:Array (Option Value))(U:1<k)(W:k<2 ^ 63)(q:items.isEmpty=false)(hz:items.size*k.toNat<=sizeLine)(hs:((Aj k.toNat items).foldl (·++·) #[]).size<=sizeLine):L3 (Cz.«tuple.__mul__» ⟨[.ref l,.int k t],[]⟩) (λ_ R s=>s.heap.get? l=some { cls:=.type "tuple",dict:=od,data:=.seq items n,slots:=sl }/\R (.ok (.ret (.ref s.heap.objs.size))) { s with heap:=s.heap.push { cls:=.type "tuple",data:=.seq ((Aj k.toNat items).foldl (·++·) #[]) } }):=
 .of_wp λprog w A R s h=>by
  obtain⟨hp,g,d,tk,os⟩:=s;obtain⟨hl,h⟩:=h;wp_walk;have B:(decide (k < -2 ^ 63)||decide (k ≥ 2 ^ 63))=false:=by rw[Az (by omega),Az (by omega)];rfl
  have G:(items.isEmpty||k==1)=false:=by rw[q,beq_eq_false_iff_ne.mpr (by omega)];rfl
  have I:(decide (k<=0)||items.isEmpty)=false:=by rw[q,Az (by omega)];rfl
  have e:((items.size*k.toNat:Nat):Int)=(items.size:Int)*k:=by rw[EV,Ds (by omega)]
  have L:Tuple.tupleTooMany ((items.size:Int)*k)=false:=by unfold Tuple.tupleTooMany;rw[<-e];exact Az (by omega)
  have M:¬ (items.size:Int)*k>(2 ^ 63-1) / 8:=by
   have:(sizeLine:Nat)<=(2 ^ 63-1) / 8:=by decide
   rw[<-e];omega
  rw[if_neg (by rw[B];exact bN)]
  wp_walk
  rw[if_neg (by rw[G];exact bN),if_neg (by rw[I];exact bN),if_neg M,if_neg (by rw[L];exact bN)];unfold Tuple.tupleExact newObj;simp only[if_neg (Gm.mpr hs)]
  wp_walk
  exact⟨_,rfl,h⟩
section
variable {X:Cx}
theorem aFF:OpR X (Dc .Mult) (λx y H Q=>∃a k xs,x=.ref a/\y=.int k/\SqT X.K H a xs/\xs≠[]/\1<=k/\k<2 ^ 63/\xs.length*k.toNat<=sizeLine /\
 (k=1->Q (.ref a) H)/\(1<k->∀p,H p=none->Q (.ref p) (upd H p (.tup (Aj k.toNat xs).flatten)))):=by
 intro pins s Z H x y v u Q I rx ry h;obtain⟨a,k,xs,rfl,rfl,ha,hx,h1,h2,M,q1,q2⟩:=h;cases rx;obtain⟨t,rfl⟩:=ry;obtain⟨l,r,⟨o,B,L,n,hd⟩,_⟩:=I.tuple ha;obtain⟨oc,od,dt,sl⟩:=o;have L:oc=.type "tuple" := L;have hd:dt=.seq l.toArray n:=hd;subst L hd;have lz:=r.length;have G:=λW (hq:Al (A6 X.prog X.w) X.A (call (.builtin "tuple.__mul__") [.ref a,.int k t]) W X.xe s)=>F4 (Q:=W) (T:= "tuple") (U:= "int") (by decide) (show s.TypeIs (.ref a) "tuple" from⟨_,B,rfl⟩) (λs'=>Gh s' k t) lQ Jh ET tV IJ.lookup
  (DR ET (Gh s k t) IK (Ic _ _) (oU k t a od l.toArray n sl) ⟨B,rfl,⟨_,B,rfl⟩,hq⟩)
 refine G _ ?_;by_cases hk:k=1;subst hk;exact DR ED ⟨_,B,rfl⟩ Ih (HG _ _) (wG a t od l.toArray n sl) ⟨B,.ref a,H,I,rfl,q1 rfl⟩;have e0:l.toArray.isEmpty=false:=by
  cases l with
  | nil=>exact absurd (r.nil_iff.mp rfl) hx|cons _ _=>rfl
 have f0:=lO l k.toNat [];rw[D8] at f0;have f1:HC (λx1 x2=>x1++x2) #[] (Aj k.toNat l.toArray)=(Aj k.toNat l).flatten.toArray:=f0;refine DR ED ⟨_,B,rfl⟩ Ih (HG _ _) (wH a t k od l.toArray n sl (by omega) h2 e0 (by rw[Af,<-lz];exact M) (by rw[f1,Af,tU,<-lz,Ie];exact M)) ⟨B,?_⟩;rw[f1];refine⟨.ref s.heap.objs.size,_,I.laid (t':=s.toks) (o:=.tup (Aj k.toNat xs).flatten) (λb ob q=>Ab _ q) (Ah _) ?_,rfl,q2 (by omega) _ (I.hok.fresh (Ah _))⟩;exact⟨by rw[tU,Ie];exact M,_,r.rep k.toNat,IF _ _⟩
end
end L2
namespace Hp
open PySem (Str Operator CmpOp)
inductive D where
 | non|bl (b:Bool)|int (i:Int)|str (x:Str)
 | tup (ds:List D)|lst (ds:List D)
 | dic (kvs:List (D×D))
 | err (c:Nat) (fs:List D)
 deriving Inhabited
mutual
noncomputable def noL:D->Bool
 | .tup ds=>noLs ds|.lst _=>false|.dic _=>false|.err _ _=>false|_=>true
noncomputable def noLs:List D->Bool
 | []=>true|d::ds=>noL d&&noLs ds
end
noncomputable def lim:Nat:=1000000
noncomputable def lexG{α:Type}[DecidableEq α](lt:α->α->Bool):List α->List α->Bool
 | [],[]=>false|[],_::_=>true|_::_,[]=>false|x::xs,y::ys=>if x=y then lexG lt xs ys else lt x y
noncomputable def ltI(a b:Int):Bool:=decide (a<b)
abbrev lexJ:List Int->List Int->Bool:=lexG ltI
abbrev lexN:List (List Int)->List (List Int)->Bool:=lexG lexJ
noncomputable def b2i(b:Bool):Int:=if b then 1 else 0
noncomputable def eqL(f:D->D->Option Bool):List D->List D->Option Bool
 | [],[]=>some true|a::as,b::bs=>match f a b,eqL f as bs with|some x,some y=>some (x&&y)|_,_=>none
 | _,_=>some false
noncomputable def eqF:Nat->D->D->Option Bool
 | 0,_,_=>none|n+1,a,b=>match a,b with|.non,.non=>some true|.bl a,.bl b=>some (a==b)|.int a,.int b=>some (a==b)|.str a,.str b=>some (a==b)|.bl a,.int b=>some (b2i a==b)|.int a,.bl b=>some (a==b2i b)|.tup as,.tup bs=>eqL (eqF n) as bs|.lst as,.lst bs=>if as.length=bs.length then eqL (eqF n) as bs else some false|.dic _,_=>none|_,.dic _=>none|.err _ _,_=>none|_,.err _ _=>none|_,_=>some false
noncomputable def eP(n:Nat):List D->List D->Option Bool
 | [],[]=>some true|a::as,b::bs=>match eqF n a b,eP n as bs with|some x,some y=>some (x&&y)|_,_=>none
 | _,_=>some false
@[simp] theorem oV (n:Nat):∀as bs:List D,eqL (eqF n) as bs=eP n as bs
 | [],[]=>rfl|[],_::_=>rfl|_::_,[]=>rfl|a::as,b::bs=>by rw[eqL,eP,oV n as bs]
noncomputable def tW:Nat:=120
noncomputable def eqD(a b:D):Option Bool:=eqF tW a b
inductive R (α:Type) where
 | ok (a:α)|exc (x:D)|bad
 deriving Inhabited
noncomputable def R.bind{α β:Type}(x:R α)(f:α->R β):R β:=match x with|.ok a=>f a|.exc e=>.exc e|.bad=>.bad
instance:Monad R where
 pure:=.ok
 bind:=.bind
noncomputable def R.of{α:Type}:Option α->R α
 | some a=>.ok a|none=>.bad
noncomputable def R.iff{α:Type}(c:Bool)(x:R α):R α:=if c then x else .bad
structure Vl where
 d:D
 fr:Bool:=false
 pa:Bool:=false
 al:List Nat:=[]
 deriving Inhabited
noncomputable def Vl.cl(d:D):Vl:=⟨d,false,false,[]⟩
noncomputable def Vl.sub(v:Vl)(d:D):Vl:=if noL d then .cl d else ⟨d,false,v.pa,v.al⟩
inductive Sl where
 | dead|sh (pa:Bool) (d:D)|own (pa:Bool) (ds:List D)|dct (ks:List (List (List Int)×D))
 deriving Inhabited
abbrev Sg:=List Sl
noncomputable def Sl.val(i:Nat):Sl->R Vl
 | .dead=>.bad|.sh pa d=>.ok ⟨d,false,pa&&!noL d,[]⟩|.own pa ds=>.ok ⟨.lst ds,false,pa,[i]⟩|.dct _=>.bad
noncomputable def bH(Z:Sg)(i:Nat):R Vl:=match Z[i]? with|some s=>s.val i|none=>.bad
noncomputable def Sl.freeze:Sl->Sl
 | .own pa ds=>.sh pa (.lst ds)|s=>s
noncomputable def freeze(Z:Sg):List Nat->Sg
 | []=>Z|i::is=>freeze (match Z[i]? with|some s=>Z.set i s.freeze|none=>Z) is
noncomputable def Vl.slot(v:Vl):Sl:=match v.fr,v.d with|true,.lst ds=>.own v.pa ds|_,d=>.sh v.pa d
inductive Bi where
 | len|list|tuple|min|max|abs|int|str|sum|all|any|sorted|bool|repr
 deriving DecidableEq,Inhabited
inductive Mt where
 | join|upper|lower|get|startswith|endswith|index|count|copy|isdigit|find|replace|split|strip
 deriving DecidableEq,Inhabited
inductive Cl where
 | tInt|tBool|tStr|tList|tTuple|tDict|own (c:Nat)|tValueError
 deriving DecidableEq,Inhabited
inductive T where
 | n (i:Nat)
 | t (ts:List Nat)
 deriving Inhabited
mutual
inductive E where
 | c (d:D)
 | v (i:Nat)
 | op (o:Operator) (a b:E)
 | neg (a:E)
 | nt (a:E)
 | an (a b:E)
 | orr (a b:E)
 | ife (t a b:E)
 | cmp (o:CmpOp) (a b:E)
 | cmp2 (o o':CmpOp) (a b c:E)
 | idx (a b:E)
 | sli (a:E) (lo hi:Es)
 | tup (es:Es)
 | lst (es:Es)
 | dic (ks vs:Es)
 | call (f:Nat) (es:Es)
 | bi (b:Bi) (es:Es)
 | mth (m:Mt) (o:E) (es:Es)
 | isi (a:E) (cs:List Cl)
 | attr (a:E) (f:Nat)
 | comp (k:Nat) (caps:List Nat) (t:T) (it:It) (cond:Es) (elt:E)
 | numset (a:E)   -- len(set(a))
 | tget (i:Nat) (a:E)   -- a dict of the module,.get(a)
 | lzip (a b:E)   -- list(zip(a,b))
 | dnin (a:E) (j:Nat)   -- a not in a dict of one's own
 | dget (j:Nat) (a:E)   -- the value at a key in a dict of one's own
 | dlen (j:Nat)   -- len of a dict of one's own
 | din (a:E) (j:Nat)   -- a in a dict of one's own
 | dgd (j:Nat) (a:E) (d:D)   -- x.get(a,d),x a dict of one's own
 | srtD (j:Nat)   -- sorted(list(x)),x a dict of one's own
 | sst (a:E)   -- sorted(set(a)),of such
 | rvs (a:E)   -- a[::-1]
 | sop (o:Operator) (a b:E)   -- sorted(set(a) o set(b)),tuples of tuples of numbers
inductive Es where
 | nil|cons (e:E) (es:Es)
inductive It where
 | seq (e:E)|rng (a b:E)|zip (a b:E)|enum (a:E)|rev (a:E)
end
instance:Inhabited E:=⟨.c .non⟩
inductive Arg where
 | e (a:E)|pop (i:Nat)
 deriving Inhabited
mutual
inductive S where
 | set (t:T) (e:E)
 | mov (i j:Nat)
 | setIx (i:Nat) (k e:E)
 | app (i:Nat) (e:E)
 | ext (i:Nat) (e:E)
 | pop (t:Option T) (i:Nat) (at':Option E)
 | clr (i:Nat)
 | ins (i:Nat) (k e:E)
 | rev (i:Nat)
 | appCall (i:Nat) (f:Nat) (as:List Arg)
 | ret (e:E)
 | retv (i:Nat)
 | retN
 | iff (c:E) (a b:Ss)
 | for (t:T) (it:It) (b:Ss)
 | whl (c:E) (b:Ss)
 | brk|cnt|pass
 | ex (e:E)
 | dnew (i:Nat)   -- {}
 | dput (i:Nat) (e:E)   -- i[e]=True
 | dpv (i:Nat) (k a:E)   -- i[k]=a
 | dfrom (i:Nat) (e:E)   -- dict(e),e pairs of a key and a plain value
 | rse (c:Nat) (keep:Bool) (es:Es)
 | try (b:Ss) (hs:Hs)
 | tryN (b:Ss)   -- try: b,which ends without an exception
inductive Ss where
 | nil|cons (s:S) (ss:Ss)
inductive Hs where
 | nil|cons (cs:List Cl) (n:Option Nat) (b:Ss) (hs:Hs)
end
structure Fn where
 np:Nat
 ns:Nat
 body:Ss
structure Pg where
 fns:List Fn
 above:List (List Cl)
 tabs:List (List (Str×D)):=[]
abbrev Rt:=D×Bool×Bool
abbrev Caller:=Nat->List D->R Rt
noncomputable def mZ(i j:Int):Bool:=(decide (-(2 ^ 64)<i)&&decide (i<2 ^ 64))||(decide (-(2 ^ 64)<j)&&decide (j<2 ^ 64))
noncomputable def aHa(i j:Int):Bool:=decide (0<=j)&&decide (j<=1000)&&decide (i.natAbs<2 ^ 64)
noncomputable def aAD(j:Int):Bool:=decide (0<j)&&decide (j<1073741824)
noncomputable def aJ(k:Int):Bool:=decide (-(2 ^ 62)<=k)&&decide (k<2 ^ 62)
noncomputable def Str.rep(x:Str)(k:Nat):Str:=⟨(Aj k x.cps).foldl (·++·) #[]⟩
@[simp] noncomputable def aIn (x y:Vl):R Vl:=match x.d,y.d with|.int i,.int j=>.ok (.cl (.int (i+j)))|.str a,.str b=>.iff (decide (a.length+b.length<=lim)) (.ok (.cl (.str (a++b))))|.tup a,.tup b=>.iff (decide (a.length+b.length<=lim)) (.ok ⟨.tup (a++b),false,x.pa||y.pa,x.al++y.al⟩)|.lst a,.lst b=>.iff (decide (a.length+b.length<=lim)) (.ok ⟨.lst (a++b),true,(x.pa&&!noLs a)||(y.pa&&!noLs b),(if noLs a then [] else x.al)++(if noLs b then [] else y.al)⟩)|_,_=>.bad
@[simp] noncomputable def aIo (x y:Vl):R Vl:=match x.d,y.d with|.int i,.int j=>.iff (mZ i j) (.ok (.cl (.int (i*j))))|.str a,.int k=>.iff (aJ k&&decide (a.length*k.toNat<=lim)) (.ok (.cl (.str (Str.rep a k.toNat))))|.lst a,.int k=>.iff (x.fr&&aJ k&&decide (a.length*k.toNat<=lim)&&noLs a) (.ok ⟨.lst (Aj k.toNat a).flatten,true,false,[]⟩)|.tup a,.int k=>.iff (decide (1<=k)&&aJ k&&!a.isEmpty&&decide (a.length*k.toNat<=lim)&&noLs a) (.ok (.cl (.tup (Aj k.toNat a).flatten)))|_,_=>.bad
@[simp] noncomputable def wJ (f:Int->Int->R Vl) (x y:Vl):R Vl:=match x.d,y.d with|.int i,.int j=>f i j|_,_=>.bad
noncomputable def opD(o:Operator)(x y:Vl):R Vl:=match o with|.Add=>aIn x y|.Mult=>aIo x y|.Sub=>wJ (λi j=>.ok (.cl (.int (i-j)))) x y|.FloorDiv=>wJ (λi j=>.iff (aAD j) (.ok (.cl (.int (i / j))))) x y|.Mod=>wJ (λi j=>.iff (decide (0<j)) (.ok (.cl (.int (i % j))))) x y|.Pow=>wJ (λi j=>.iff (aHa i j) (.ok (.cl (.int (i ^ j.toNat))))) x y|_=>.bad
noncomputable def aCY:D->Option Bool
 | .non=>some false|.bl b=>some b|.int i=>some (i != 0)|.str x=>if x.length<=lim then some (x.length != 0) else none|.tup ds=>some (!ds.isEmpty)|.lst ds=>some (!ds.isEmpty)|_=>none
noncomputable def fP(x:Vl):R Bool:=.of (aCY x.d)
noncomputable def lR:List D->Option (List Int)
 | []=>some []|.int a::ds=>match lR ds with|some ns=>some (a::ns)|none=>none
 | _=>none
noncomputable def ltD:D->D->Option Bool
 | .int a,.int b=>some (decide (a<b))|_,_=>none
noncomputable def leD:D->D->Option Bool
 | .int a,.int b=>some (decide (a<=b))|_,_=>none
noncomputable def isNone:D->Bool
 | .non=>true|_=>false
noncomputable def inD(x y:D):Option Bool:=match x,y with|.str a,.str b=>some (!(Jc b a 0 b.length 1).isEmpty)|_,_=>none
noncomputable def bU(o:CmpOp)(x y:D):Option Bool:=match o with
 | .Eq=>eqD x y|.NotEq=>(eqD x y).map (!·)|.Lt=>ltD x y|.Gt=>match x,y with|.int a,.int b=>some (decide (b<a))|_,_=>none
 | .LtE=>leD x y|.GtE=>match x,y with|.int a,.int b=>some (decide (b<=a))|_,_=>none
 | .Is=>match y with|.non=>some (isNone x)|_=>none
 | .IsNot=>match y with|.non=>some (!isNone x)|_=>none
 | .In=>inD x y|.NotIn=>(inD x y).map (!·)
noncomputable def ixN(n:Nat)(k:Int):Option Nat:=
 if 0<=k then (if k<n then some k.toNat else none) else (if -(n:Int)<=k then some (k+n).toNat else none)
noncomputable def cP(x y:Vl):R Vl:=match x.d,y.d with
 | .lst ds,.int k=>match ixN ds.length k with
  | some j=>match ds[j]? with|some d=>.ok (x.sub d)|none=>.bad
  | none=>.bad
 | .tup ds,.int k=>match ixN ds.length k with
  | some j=>match ds[j]? with|some d=>.ok (x.sub d)|none=>.bad
  | none=>.bad
 | .str a,.int k=>.iff (decide (a.length<=lim)) (match ixN a.length k with
  | some j=>match a.cps.toList[j]? with|some c=>.ok (.cl (.str ⟨#[c]⟩))|none=>.bad
  | none=>.bad)
 | _,_=>.bad
noncomputable def sIx(n d:Nat):Option Int->Nat
 | none=>d|some v=>if v<0 then (v+(n:Int)).toNat else min v.toNat n
noncomputable def cut{α:Type}(xs:List α)(lo hi:Option Int):List α:=(xs.drop (sIx xs.length 0 lo)).take (sIx xs.length xs.length hi-sIx xs.length 0 lo)
noncomputable def zG(x:Str)(lo hi:Option Int):Str:=⟨(cut x.cps.toList lo hi).toArray⟩
noncomputable def dM(x:Vl)(lo hi:Option Int):R Vl:=match x.d with|.lst ds=>.ok ⟨.lst (cut ds lo hi),true,x.pa&&!noLs ds,if noLs ds then [] else x.al⟩|.tup ds=>.ok ⟨.tup (cut ds lo hi),false,x.pa&&!noLs ds,if noLs ds then [] else x.al⟩|.str a=>.iff (decide (a.length<=lim)) (.ok (.cl (.str (zG a lo hi))))|_=>.bad
noncomputable def isI(cs:List Cl)(P:Pg):D->Option Bool
 | .non=>some false|.bl _=>some (cs.contains .tBool||cs.contains .tInt)|.int _=>some (cs.contains .tInt)|.str _=>some (cs.contains .tStr)|.tup _=>some (cs.contains .tTuple)|.lst _=>some (cs.contains .tList)|.dic _=>some (cs.contains .tDict)|.err c _=>match P.above[c]? with|some ab=>some (ab.any λa=>cs.contains a)|none=>none
noncomputable def aKH:List D->Int->Option Int
 | [],a=>some a|.int i::ds,a=>aKH ds (a+i)|.bl b::ds,a=>aKH ds (a+b2i b)|_,_=>none
noncomputable def tX:List D->Option (List Bool)
 | []=>some []|.bl a::ds=>match tX ds with|some bs=>some (a::bs)|none=>none
 | _=>none
noncomputable def tY:List D->Option (List (Sum Int Str))
 | []=>some []|.int a::ds=>match tY ds with|some ks=>some (.inl a::ks)|none=>none
 | .str a::ds=>match tY ds with|some ks=>some (.inr a::ks)|none=>none
 | _=>none
noncomputable def aCZ(ks:List (Sum Int Str)):List (Sum Int Str):=ks.foldl (λZ v=>if Z.any (·==v) then Z else Z++[v]) []
noncomputable def aKI(x:D):List D->Option (List D)
 | []=>some [x]|y::ys=>match ltD x y with
  | some true=>some (x::y::ys)|some false=>match aKI x ys with|some r=>some (y::r)|none=>none
  | none=>none
noncomputable def aKJ:List D->Option (List D)
 | []=>some []|d::ds=>match aKJ ds with|some r=>aKI d r|none=>none
@[simp] noncomputable def aFG (b:Bi) (x:Vl):R Vl:=match b with
 | .len=>match x.d with|.lst ds=>.ok (.cl (.int ds.length))|.tup ds=>.ok (.cl (.int ds.length))|.str a=>.iff (decide (a.length<=lim)) (.ok (.cl (.int a.length)))|_=>.bad
 | .list=>match x.d with|.lst ds=>.ok ⟨.lst ds,true,x.pa&&!noLs ds,if noLs ds then [] else x.al⟩|.tup ds=>.ok ⟨.lst ds,true,x.pa&&!noLs ds,if noLs ds then [] else x.al⟩|_=>.bad
 | .tuple=>match x.d with|.lst ds=>.ok ⟨.tup ds,false,x.pa&&!noLs ds,if noLs ds then [] else x.al⟩|.tup ds=>.ok ⟨.tup ds,false,x.pa,x.al⟩|_=>.bad
 | .int=>match x.d with|.int i=>.ok (.cl (.int i))|.bl b=>.ok (.cl (.int (b2i b)))|_=>.bad
 | .all=>match x.d with
  | .lst ds=>match tX ds with|some bs=>.ok (.cl (.bl (bs.all id)))|none=>.bad
  | _=>.bad
 | .any=>match x.d with
  | .lst ds=>match tX ds with|some bs=>.ok (.cl (.bl (bs.any id)))|none=>.bad
  | _=>.bad
 | _=>.bad
@[simp] noncomputable def aNi (b:Bi) (x y:Vl):R Vl:=match b with
 | .min=>match x.d,y.d with|.int i,.int j=>.ok (.cl (.int (if j<i then j else i)))|_,_=>.bad
 | .max=>match x.d,y.d with|.int i,.int j=>.ok (.cl (.int (if j>i then j else i)))|_,_=>.bad
 | _=>.bad
noncomputable def biD(b:Bi)(xs:List Vl):R Vl:=match xs with|[x]=>aFG b x|[x,y]=>aNi b x y|_=>.bad
noncomputable def aDa:List D->Option (List Str)
 | []=>some []|.str x::ds=>match aDa ds with|some r=>some (x::r)|none=>none
 | _=>none
noncomputable def aKK:D->D->Bool
 | .int a,.int b=>a==b|.str a,.str b=>a==b|_,_=>false
noncomputable def aKL:D->Bool
 | .int _=>true|.str _=>true|_=>false
noncomputable def aHb(k:D):List (D×D)->Option D
 | []=>none|(a,d)::r=>if aKK a k then some d else aHb k r
noncomputable def upC(n:Nat):Nat:=if 97<=n/\n<=122 then n-32 else n
noncomputable def mtD(m:Mt)(x:Vl)(ys:List Vl):R Vl:=match m,x.d,ys with
 | .join,.str a,[y]=>match y.d with
  | .lst ds=>match aDa ds with|some xs=>.iff (decide ((xs.map (·.length)).sum+xs.length*a.length<=lim)) (.ok (.cl (.str (LL a xs))))|none=>.bad
  | _=>.bad
 | .get,.dic kvs,[y]=>.iff (aKL y.d) (match aHb y.d kvs with
  | some d=>.ok (x.sub d)|none=>.ok (.cl .non))
 | .upper,.str a,[]=>.iff (a.cps.all (·<128)) (.ok (.cl (.str ⟨a.cps.map upC⟩)))|_,_,_=>.bad
noncomputable def bE(vs:List Vl):List Nat:=vs.flatMap (·.al)
noncomputable def cV(vs:List Vl):Bool:=vs.any (·.pa)
noncomputable def rY(vs:List Vl):Vl:=⟨.tup (vs.map (·.d)),false,cV vs,bE vs⟩
noncomputable def eE(vs:List Vl):Vl:=⟨.lst (vs.map (·.d)),true,cV vs,bE vs⟩
noncomputable def gO(args:List Vl)(r:Rt):Vl:=if r.2.2 then ⟨r.1,r.2.1,cV args,bE args⟩ else ⟨r.1,r.2.1,false,[]⟩
noncomputable def gD(a b:Int):List D:=(AF (b-a).toNat).map λ(k:Nat)=>.int (a+(k:Int))
noncomputable def aHc:Int->List D->List D
 | _,[]=>[]
 | k,d::ds=>.tup [.int k,d]::aHc (k+1) ds
noncomputable def gQ:List D->List D->List D
 | a::as,b::bs=>.tup [a,b]::gQ as bs|_,_=>[]
noncomputable def bK(Z:Sg)(v:Vl):T->R Sg
 | .n i=>.ok (Z.set i v.slot)|.t is=>match v.d with|.tup ds=>if ds.length=is.length then .ok ((is.zip ds).foldl (λZ p=>Z.set p.1 (v.sub p.2).slot) Z) else .bad|_=>.bad
noncomputable def dS(f:Vl->R (Option Vl)):List Vl->R (List Vl)
 | []=>.ok []|x::xs=>do
  let y<-f x
  let ys<-dS f xs
  match y with
  | some y=>.ok (y::ys)|none=>.ok ys
noncomputable def jC:D->Option (List D)
 | .lst ds=>some ds|.tup ds=>some ds|_=>none
noncomputable def items(x:Vl)(ds:List D):List Vl:=ds.map x.sub
noncomputable def oW:List D->Option (List (List Int))
 | []=>some []|.tup as::ds=>match lR as,oW ds with|some a,some r=>some (a::r)|_,_=>none
 | _=>none
noncomputable def kE:D->Option (List (List Int))
 | .tup ds=>oW ds|_=>none
noncomputable def kF(ks:List (List (List Int)×D))(k:List (List Int)×D):List (List (List Int)×D):=if k.1∈ks.map (·.1) then ks.map (λx=>if x.1=k.1 then (x.1,k.2) else x) else ks++[k]
noncomputable def gK:List D->Option (List (List (List Int)))
 | []=>some []|d::ds=>match kE d,gK ds with|some k,some ks=>some (k::ks)|_,_=>none
noncomputable def wK(k:List (List Int)):List (List (List Int))->List (List (List Int))
 | []=>[k]
 | y::ys=>if lexN k y then k::y::ys else if k=y then y::ys else y::wK k ys
noncomputable def ssN(ks:List (List (List Int))):List (List (List Int)):=ks.foldr wK []
noncomputable def aH(k:List (List Int)):D:=.tup (k.map λt=>.tup (t.map .int))
noncomputable def neN(ks:List (List (List Int))):Bool:=ks.all λk=>!k.isEmpty
noncomputable def opN(o:Operator)(ks js:List (List (List Int))):Option (List (List (List Int))):=match o with|.BitOr=>if (ssN (ks++js)).length<=700 then some (ssN (ks++js)) else none|.BitAnd=>if (ssN ks).length<=700/\(ssN js).length<=700 then some (ssN (ks.filter λk=>decide (k∈js))) else none|.Sub=>if (ssN ks).length<=700/\(ssN js).length<=700 then some (ssN (ks.filter λk=>decide (k∉js))) else none|_=>none
noncomputable def aDb:D->Bool
 | .int _|.bl _=>true|_=>false
noncomputable def aHd(ks:List (List (List Int)×D))(k:List (List Int)):Option D:=(ks.find? λx=>decide (x.1=k)).map (·.2)
noncomputable def aDc:List D->Option (List (List (List Int)×D))
 | []=>some []|.tup [k,v]::ds=>match kE k,aDb v,aDc ds with|some a,true,some r=>some ((a,v)::r)|_,_,_=>none
 | _=>none
noncomputable def fJ(k:Nat)(caps al:List Nat)(vs:List Vl):Vl:=
 if noLs (vs.map (·.d)) then ⟨.lst (vs.map (·.d)),true,false,[]⟩
 else ⟨.lst (vs.map (·.d)),true,cV vs,al++(bE vs).filterMap λj=>caps[j-k]?⟩
noncomputable def aHe(x y:Vl)(ds:List D):Vl:=if noLs ds then ⟨.lst ds,true,false,[]⟩ else ⟨.lst ds,true,x.pa||y.pa,x.al++y.al⟩
section
variable (P:Pg) (W:Caller)
mutual
noncomputable def ev(Z:Sg):E->R Vl
 | .c d=>.ok (.cl d)|.v i=>bH Z i|.op o a b=>do let x<-ev Z a;let y<-ev Z b;opD o x y
 | .neg a=>do
  let x<-ev Z a
  match x.d with
  | .int i=>.ok (.cl (.int (-i)))|_=>.bad
 | .nt a=>do let x<-ev Z a;let k<-fP x;.ok (.cl (.bl (!k)))
 | .an a b=>do
  let x<-ev Z a
  match x.d with
  | .bl true=>ev Z b|.bl false=>.ok (.cl (.bl false))|_=>.bad
 | .orr a b=>do
  let x<-ev Z a
  match x.d with
  | .bl true=>.ok (.cl (.bl true))|.bl false=>ev Z b|_=>.bad
 | .ife t a b=>do
  let x<-tst Z t
  if x then ev Z a else ev Z b
 | .cmp o a b=>do
  let x<-ev Z a
  let y<-ev Z b
  match bU o x.d y.d with
  | some k=>.ok (.cl (.bl k))|none=>.bad
 | .cmp2 o o' a b c=>do
  let x<-ev Z a
  let y<-ev Z b
  match bU o x.d y.d with
  | some true=>do
   let z<-ev Z c
   match bU o' y.d z.d with
   | some k=>.ok (.cl (.bl k))|none=>.bad
  | some false=>.ok (.cl (.bl false))|none=>.bad
 | .idx a b=>do let x<-ev Z a;let y<-ev Z b;cP x y
 | .sli a lo hi=>do
  let x<-ev Z a
  let l<-evs Z lo
  let h<-evs Z hi
  match l,h with
  | [],[]=>dM x none none|[l],[]=>match l.d with|.int l=>.iff (aJ l) (dM x (some l) none)|_=>.bad
  | [],[h]=>match h.d with|.int h=>.iff (aJ h) (dM x none (some h))|_=>.bad
  | [l],[h]=>match l.d,h.d with|.int l,.int h=>.iff (aJ l&&aJ h) (dM x (some l) (some h))|_,_=>.bad
  | _,_=>.bad
 | .tup es=>do let vs<-evs Z es;.ok (rY vs)
 | .lst es=>do let vs<-evs Z es;.ok (eE vs)
 | .dic ks vs=>do
  let ks<-evs Z ks
  let vs<-evs Z vs
  match (ks.map (λ(v:Vl)=>v.d):List D),(vs.map (λ(v:Vl)=>v.d):List D) with
  | [.int k],[.int v]=>.ok (.cl (.dic [(.int k,.int v)]))|_,_=>.bad
 | .call f es=>do
  let vs<-evs Z es
  let r<-W f (vs.map (·.d))
  .ok (gO vs r)
 | .bi b es=>do let vs<-evs Z es;biD b vs
 | .mth m o es=>do let x<-ev Z o;let ys<-evs Z es;mtD m x ys
 | .isi a cs=>do
  let x<-ev Z a
  match isI cs P x.d with
  | some k=>.ok (.cl (.bl k))|none=>.bad
 | .attr a f=>do
  let x<-ev Z a
  match x.d with
  | .err _ fs=>match fs[f]? with|some d=>.ok (x.sub d)|none=>.bad
  | _=>.bad
 | .comp k caps t it cond elt=>do
  let xs<-walk Z it
  let vs<-dS (λx=>do
   let Z1<-bK (Aj k .dead++caps.map λi=>((freeze Z xs.2)[i]?).getD .dead) x t
   let k<-tsts Z1 cond
   if k then do let y<-ev Z1 elt;.ok (some y) else .ok none) xs.1
  .iff (decide (vs.length<=lim)) (.ok (fJ k caps xs.2 vs))
 | .numset a=>do
  let x<-ev Z a
  match x.d with
  | .lst ds=>match tY ds with|some ks=>.iff (decide (ds.length<=1000)) (.ok (.cl (.int (aCZ ks).length)))|none=>.bad
  | _=>.bad
 | .tget i a=>do
  let x<-ev Z a
  match x.d,P.tabs[i]? with
  | .str k,some t=>.ok (.cl ((t.lookup k).getD .non))|_,_=>.bad
 | .lzip a b=>do
  let x<-ev Z a
  let y<-ev Z b
  match jC x.d,jC y.d with
  | some as,some bs=>.iff (decide (as.length<=lim)) (.ok (aHe x y (gQ as bs)))|_,_=>.bad
 | .dnin a j=>do
  let x<-ev Z a
  match Z[j]?,kE x.d with
  | some (.dct ks),some k=>.ok (.cl (.bl (!decide (k∈ks.map (·.1)))))|_,_=>.bad
 | .dget j a=>do
  let x<-ev Z a
  match Z[j]?,kE x.d with
  | some (.dct ks),some k=>(match aHd ks k with
   | some d=>.iff (aDb d) (.ok (.cl d))|none=>.bad)
  | _,_=>.bad
 | .din a j=>do
  let x<-ev Z a
  match Z[j]?,kE x.d with
  | some (.dct ks),some k=>.ok (.cl (.bl (decide (k∈ks.map (·.1)))))|_,_=>.bad
 | .dgd j a d=>do
  let x<-ev Z a
  match Z[j]?,kE x.d with
  | some (.dct ks),some k=>.iff (aDb d) (match aHd ks k with
   | some v=>.iff (aDb v) (.ok (.cl v))|none=>.ok (.cl d))
  | _,_=>.bad
 | .srtD j=>match Z[j]? with|some (.dct ks)=>.iff (neN (ks.map (·.1))&&decide (ks.length<=700)) (.ok ⟨.lst ((ssN (ks.map (·.1))).map aH),true,false,[]⟩)|_=>.bad
 | .rvs a=>do
  let x<-ev Z a
  match x.d with
  | .lst ds=>.ok ⟨.lst ds.reverse,true,x.pa&&!noLs ds,if noLs ds then [] else x.al⟩|_=>.bad
 | .sst a=>do
  let x<-ev Z a
  match x.d with
  | .lst as=>match gK as with|some ks=>.iff (neN ks&&decide ((ssN ks).length<=700)) (.ok ⟨.lst ((ssN ks).map aH),true,false,[]⟩)|_=>.bad
  | _=>.bad
 | .sop o a b=>do
  let x<-ev Z a
  let y<-ev Z b
  match x.d,y.d with
  | .lst as,.lst bs=>match gK as,gK bs with
   | some ks,some js=>.iff (neN ks&&neN js) (match opN o ks js with
    | some r=>.ok ⟨.lst (r.map aH),true,false,[]⟩|none=>.bad)
   | _,_=>.bad
  | _,_=>.bad
 | .dlen j=>match Z[j]? with|some (.dct ks)=>.ok (.cl (.int ks.length))|_=>.bad
noncomputable def tst(Z:Sg):E->R Bool
 | .nt a=>do let x<-tst Z a;.ok (!x)
 | .an a b=>do
  let x<-tst Z a
  if x then tst Z b else .ok false
 | .orr a b=>do
  let x<-tst Z a
  if x then .ok true else tst Z b
 | .c d=>fP (.cl d)|.v i=>do let x<-bH Z i;fP x
 | .cmp o a b=>do
  let x<-ev Z a
  let y<-ev Z b
  match bU o x.d y.d with
  | some k=>.ok k|none=>.bad
 | .cmp2 o o' a b c=>do
  let x<-ev Z a
  let y<-ev Z b
  match bU o x.d y.d with
  | some true=>do
   let z<-ev Z c
   match bU o' y.d z.d with
   | some k=>.ok k|none=>.bad
  | some false=>.ok false|none=>.bad
 | .call f es=>do
  let vs<-evs Z es
  let r<-W f (vs.map (·.d))
  fP (gO vs r)
 | .bi b es=>do let vs<-evs Z es;let x<-biD b vs;fP x
 | .mth m o es=>do let x<-ev Z o;let ys<-evs Z es;let z<-mtD m x ys;fP z
 | .idx a b=>do let x<-ev Z a;let y<-ev Z b;let z<-cP x y;fP z
 | .isi a cs=>do
  let x<-ev Z a
  match isI cs P x.d with
  | some k=>.ok k|none=>.bad
 | .din a j=>do
  let x<-ev Z a
  match Z[j]?,kE x.d with
  | some (.dct ks),some k=>.ok (decide (k∈ks.map (·.1)))|_,_=>.bad
 | .dnin a j=>do
  let x<-ev Z a
  match Z[j]?,kE x.d with
  | some (.dct ks),some k=>.ok (!decide (k∈ks.map (·.1)))|_,_=>.bad
 | _=>.bad
noncomputable def evs(Z:Sg):Es->R (List Vl)
 | .nil=>.ok []|.cons e es=>do let x<-ev Z e;let xs<-evs Z es;.ok (x::xs)
noncomputable def walk(Z:Sg):It->R (List Vl×List Nat)
 | .seq e=>do
  let x<-ev Z e
  match x.d with
  | .lst ds=>.ok (items x ds,x.al)|.tup ds=>.ok (items x ds,x.al)|.str a=>.iff (decide (a.length<=lim)) (.ok (a.cps.toList.map λn=>.cl (.str ⟨#[n]⟩),[]))|_=>.bad
 | .rng a b=>do
  let x<-ev Z a
  let y<-ev Z b
  match x.d,y.d with
  | .int i,.int j=>.iff (aJ i&&aJ j) (.ok ((gD i j).map .cl,[]))|_,_=>.bad
 | .zip a b=>do
  let x<-ev Z a
  let y<-ev Z b
  match jC x.d,jC y.d with
  | some as,some bs=>.ok (items ⟨.non,false,x.pa||y.pa,x.al++y.al⟩ (gQ as bs),x.al++y.al)|_,_=>.bad
 | .enum a=>do
  let x<-ev Z a
  match jC x.d with
  | some as=>.ok (items x (aHc 0 as),x.al)|none=>.bad
 | .rev a=>do
  let x<-ev Z a
  match jC x.d with
  | some as=>.ok (items x as.reverse,x.al)|none=>.bad
noncomputable def tsts(Z:Sg):Es->R Bool
 | .nil=>.ok true|.cons e es=>do
  let x<-tst Z e
  if x then tsts Z es else .ok false
end
inductive O where
 | next (Z:Sg)|brk (Z:Sg)|cnt (Z:Sg)|ret (v:Vl)|exc (x:D) (Z:Sg)|bad
 deriving Inhabited
noncomputable def O.from{α:Type}(Z:Sg)(x:R α)(f:α->O):O:=match x with|.ok a=>f a|.exc e=>.exc e Z|.bad=>.bad
noncomputable def O.on(o:O)(f:Sg->O):O:=match o with|.next Z=>f Z|o=>o
noncomputable def cY(f:Sg->Vl->O):List Vl->Sg->O
 | [],Z=>.next Z|x::xs,Z=>match f Z x with|.next Z'=>cY f xs Z'|.cnt Z'=>cY f xs Z'|.brk Z'=>.next Z'|o=>o
noncomputable def aDd(t:Sg->R Bool)(f:Sg->O):Nat->Sg->O
 | 0,_=>.bad|n+1,Z=>O.from Z (t Z) λk=>if k then (match f Z with
     | .next Z'=>aDd t f n Z'|.cnt Z'=>aDd t f n Z'|.brk Z'=>.next Z'|o=>o) else .next Z
noncomputable def aKM:Nat:=1000000
noncomputable def jJ(Z:Sg)(i:Nat):Option (Bool×List D):=match Z[i]? with|some (.own pa ds)=>some (pa,ds)|_=>none
noncomputable def put(Z:Sg)(i:Nat)(v:Vl)(f:List D->Option (List D)):O:=match jJ (freeze Z v.al) i with
 | some (pa,ds)=>match f ds with|some ds'=>if ds'.length<=lim then .next ((freeze Z v.al).set i (.own (pa||v.pa) ds')) else .bad|none=>.bad
 | none=>.bad
noncomputable def aHf(Z:Sg)(i:Nat)(v:Vl):O:=put Z i v λds=>some (ds++[v.d])
noncomputable def oX(v:Vl):Option (Vl×List D):=match v.fr,v.d with|true,.lst ds=>some (⟨.non,false,v.pa&&!noLs ds,if noLs ds then [] else v.al⟩,ds)|_,_=>none
noncomputable def kG(Z:Sg)(i:Nat)(k:Option Int):R (Vl×Sg):=match jJ Z i with
 | some (pa,ds)=>match (match k with|none=>ixN ds.length (-1)|some k=>ixN ds.length k) with
  | some j=>match ds[j]? with|some d=>.ok (Vl.sub ⟨.non,false,pa,[]⟩ d,Z.set i (.own pa (ds.eraseIdx j)))|none=>.bad
  | none=>.bad
 | none=>.bad
noncomputable def zH(e:Sg->E->R Vl):Sg->List Vl->List Arg->R (List Vl×Sg)
 | Z,acc,[]=>.ok (acc,Z)|Z,acc,.e a::as=>do let x<-e Z a;zH e Z (acc++[x]) as
 | Z,acc,.pop j::as=>do
  let (x,Z')<-kG Z j none
  if (bE acc).contains j then .bad else zH e Z' (acc++[x]) as
noncomputable def aAE(e:Option (R Vl)):R (Option Int):=match e with
 | none=>.ok none|some x=>do
  let v<-x
  match v.d with
  | .int k=>.iff (aJ k) (.ok (some k))|_=>.bad
mutual
noncomputable def ex(Z:Sg):S->O
 | .set t e=>O.from Z (ev P W Z e) λv=>O.from Z (bK (freeze Z v.al) v t) .next|.mov i j=>match Z[j]? with|some (.own pa ds)=>if i=j then .bad else .next ((Z.set j .dead).set i (.own pa ds))|some (.sh pa d)=>.next (Z.set i (.sh (pa&&!noL d) d))|_=>.bad
 | .setIx i k e=>O.from Z (ev P W Z e) λv=>O.from Z (ev P W Z k) λkv=>match kv.d with
  | .int k=>put Z i v λds=>match ixN ds.length k with|some j=>some (ds.set j v.d)|none=>none
  | _=>.bad
 | .app i e=>O.from Z (ev P W Z e) λv=>aHf Z i v|.ext i e=>O.from Z (ev P W Z e) λv=>match oX v with|some (v',ds')=>put Z i v' λds=>some (ds++ds')|none=>.bad
 | .pop t i k=>O.from Z (aAE (k.map λe=>ev P W Z e)) λk=>O.from Z (kG Z i k) λ(v,Z')=>match t with|none=>.next Z'|some t=>O.from Z' (bK Z' v t) .next
 | .clr i=>put Z i (.cl .non) λ_=>some []|.ins i k e=>O.from Z (ev P W Z k) λkv=>O.from Z (ev P W Z e) λv=>match kv.d with|.int k=>if 0<=k/\k<1000000 then put Z i v λds=>some (ds.take k.toNat++v.d::ds.drop k.toNat) else .bad|_=>.bad
 | .rev i=>put Z i (.cl .non) λds=>some ds.reverse|.appCall i f as=>O.from Z (zH (λZ a=>ev P W Z a) Z [] as) λ(vs,Z')=>O.from Z' (W f (vs.map (·.d))) λr=>aHf Z' i (gO vs r)|.ret e=>O.from Z (ev P W Z e) .ret|.retv i=>match Z[i]? with|some (.own pa ds)=>.ret ⟨.lst ds,true,pa,[]⟩|_=>O.from Z (bH Z i) .ret
 | .retN=>.ret (.cl .non)|.iff c a b=>O.from Z (tst P W Z c) λk=>if k then exs Z a else exs Z b|.for t it b=>O.from Z (walk P W Z it) λxs=>cY (λZ x=>O.from Z (bK Z x t) λZ'=>exs Z' b) xs.1 (freeze Z xs.2)|.whl c b=>aDd (λZ=>tst P W Z c) (λZ=>exs Z b) aKM Z|.brk=>.brk Z|.cnt=>.cnt Z|.pass=>.next Z|.ex e=>O.from Z (ev P W Z e) λ_=>.next Z|.dnew i=>.next (Z.set i (.dct []))|.dpv i e a=>O.from Z (ev P W Z a) λw=>O.from Z (ev P W Z e) λv=>match Z[i]?,kE v.d with|some (.dct ks),some k=>if ks.length<lim/\aDb w.d=true then .next (Z.set i (.dct (kF ks (k,w.d)))) else .bad|_,_=>.bad
 | .dput i e=>O.from Z (ev P W Z e) λv=>match Z[i]?,kE v.d with|some (.dct ks),some k=>if ks.length<lim then .next (Z.set i (.dct (kF ks (k,.bl true)))) else .bad|_,_=>.bad
 | .dfrom i e=>O.from Z (ev P W Z e) λv=>match v.fr,v.d with
  | true,.lst ds=>(match aDc ds with
   | some ks=>.next (Z.set i (.dct (ks.foldl kF [])))|none=>.bad)
  | _,_=>.bad
 | .rse c keep es=>O.from Z (evs P W Z es) λvs=>.exc (.err c (if keep then vs.map (·.d) else [])) Z|.tryN b=>exs Z b|.try b hs=>match exs Z b with|.exc x Z'=>hdl Z' x hs|o=>o
noncomputable def exs(Z:Sg):Ss->O
 | .nil=>.next Z|.cons s ss=>(ex Z s).on λZ'=>exs Z' ss
noncomputable def hdl(Z:Sg)(x:D):Hs->O
 | .nil=>.exc x Z|.cons cs n b hs=>match isI cs P x with
  | some true=>match n with|none=>exs Z b|some i=>match exs (Z.set i (.sh true x)) b with|.next Z'=>.next (Z'.set i .dead)|.brk Z'=>.brk (Z'.set i .dead)|.cnt Z'=>.cnt (Z'.set i .dead)|.exc x Z'=>.exc x (Z'.set i .dead)|o=>o
  | some false=>hdl Z x hs|none=>.bad
end
noncomputable def tZ(f:Nat)(ds:List D):R Rt:=match P.fns[f]? with
 | none=>.bad|some F=>if ds.length=F.np then
  match exs P W ((ds.map λd=>Sl.sh true d)++Aj (F.ns-F.np) Sl.dead) F.body with
  | .ret v=>.ok (v.d,v.fr,v.pa)|.next _=>.ok (.non,false,false)|.exc x _=>.exc x|_=>.bad
  else .bad
end
noncomputable def call(P:Pg):Nat->Caller
 | 0=>λ_ _=>.bad|n+1=>tZ P (call P n)
end Hp
namespace Hp
open PySem
structure Ct where
 N:List Str
 sc:List (Str×C1)
 fns:List Str
 cns:List (Str×D)
 cls:List Str
 fn:Bool
 tbs:List Str
noncomputable def aDe(Γ:Ct)(x:Str):Bool:=match Γ.sc.lookup x with|some .local=>true|some .cell=>true|some .free=>true|_=>false
noncomputable def wL(Γ:Ct)(x:Str):Bool:=match Γ.sc.lookup x with|some .local=>true|some .cell=>Γ.fn|_=>false
noncomputable def oY(sc names:List (Str×C1)):List (Str×C1):=names.map λ(n,k)=>if (k==.free&&sc.lookup n==some .cell) then (n,.cell) else (n,k)
noncomputable def rZ:Aw->Bool
 | .Tuple _ _ _=>true|_=>false
noncomputable def tIx:T->List Nat
 | .n i=>[i]
 | .t is=>is
noncomputable def cW(Γ:Ct)(x:Str):Bool:=match Γ.sc.lookup x with|some .globalImplicit=>true|_=>false
noncomputable def cH(x:Str):Bool:=!(x==("__debug__" : Str))&&!(x==("__classdict__" : Str))
noncomputable def cI(Γ:Ct)(i:Nat)(x:Str):Bool:=(Γ.N[i]?==some x)&&aDe Γ x&&cH x
noncomputable def bQ(Γ:Ct)(i:Nat)(x:Str):Bool:=(Γ.N[i]?==some x)&&wL Γ x&&cH x
noncomputable def eqC:D->Const->Bool
 | .non,.none=>true|.bl a,.bool b=>a==b|.int a,.int b=>a==b|.str a,.str b=>a==b|_,_=>false
noncomputable def eqK:D->D->Bool
 | .non,.non=>true|.bl a,.bl b=>a==b|.int a,.int b=>a==b|.str a,.str b=>a==b|_,_=>false
noncomputable def jO:Bi->Str
 | .len => "len" | .list => "list" | .tuple => "tuple" | .min => "min" | .max => "max" | .abs => "abs" | .int => "int" | .str => "str" | .sum => "sum" | .all => "all" | .any => "any" | .sorted => "sorted" | .bool => "bool" | .repr => "repr"
noncomputable def aDf:Bi->Bool
 | .len=>true|.list=>true|.tuple=>true
 | _=>false
noncomputable def aNj:Cl->Bool
 | .own _=>false|.tValueError=>false|_=>true
noncomputable def zI(Γ:Ct):Cl->Option Str
 | .tInt=>some "int" | .tBool=>some "bool" | .tStr=>some "str" | .tList=>some "list" | .tTuple=>some "tuple" | .tDict=>some "dict" | .tValueError=>some "ValueError"
 | .own c=>Γ.cls[c]?
noncomputable def aHg(Γ:Ct)(c:Cl):Aw->Bool
 | .Name x _=>(zI Γ c==some x)&&cW Γ x&&cH x|_=>false
noncomputable def nM(Γ:Ct):T->Aw->Bool
 | .n i,.Name x _=>bQ Γ i x|.t is,.Tuple es _ _=>is.length==es.length&&(is.zip es).all λp=>match p.2 with|.Name x _=>bQ Γ p.1 x|_=>false
 | _,_=>false
noncomputable def fQ:Aw->List Str
 | .Name x _=>[x]
 | .Tuple es _ _=>es.filterMap fun|.Name x _=>some x|_=>none
 | _=>[]
noncomputable def zJ:E->Bool
 | .c (.int i)=>i==0|_=>false
noncomputable def asC(e:Aw):Option { c:Const // ∃k p,e=.Constant c k p }:=match e with|.Constant c k p=>some ⟨c,k,p,rfl⟩|_=>none
noncomputable def asN(e:Aw):Option { x:Str // ∃p,e=.Name x p }:=match e with|.Name x p=>some ⟨x,p,rfl⟩|_=>none
noncomputable def aKN(e:Aw):Option { r:Aw×Operator×Aw // ∃p,e=.BinOp r.1 r.2.1 r.2.2 p }:=match e with|.BinOp l o r p=>some ⟨(l,o,r),p,rfl⟩|_=>none
noncomputable def aKO(e:Aw):Option { r:UnaryOp×Aw // ∃p,e=.UnaryOp r.1 r.2 p }:=match e with|.UnaryOp o x p=>some ⟨(o,x),p,rfl⟩|_=>none
noncomputable def aKP(e:Aw):Option { r:Lr×List Aw×DK // e=.BoolOp r.1 r.2.1 r.2.2 }:=match e with|.BoolOp o xs p=>some ⟨(o,xs,p),rfl⟩|_=>none
noncomputable def aNk(e:Aw):Option { r:Aw×Aw×Aw // ∃p,e=.IfExp r.1 r.2.1 r.2.2 p }:=match e with|.IfExp t a b p=>some ⟨(t,a,b),p,rfl⟩|_=>none
noncomputable def aHh(e:Aw):Option { r:Aw×List CmpOp×List Aw // ∃p,e=.Compare r.1 r.2.1 r.2.2 p }:=match e with|.Compare l os rs p=>some ⟨(l,os,rs),p,rfl⟩|_=>none
noncomputable def wM(e:Aw):Option { r:Aw×Aw // ∃p,e=.Subscript r.1 r.2 p }:=match e with|.Subscript x i p=>some ⟨(x,i),p,rfl⟩|_=>none
noncomputable def aNl(e:Aw):Option { r:Option Aw×Option Aw // ∃p,e=.Slice r.1 r.2 none p }:=match e with|.Slice l h none p=>some ⟨(l,h),p,rfl⟩|_=>none
noncomputable def aNm(e:Aw):Option { r:Unit // ∃k p p2 p3,e=.Slice none none (some (.UnaryOp .USub (.Constant (.int 1) k p) p3)) p2 }:=match e with|.Slice none none (some (.UnaryOp .USub (.Constant (.int 1) k p) p3)) p2=>some ⟨(),k,p,p2,p3,rfl⟩|_=>none
noncomputable def aKQ(e:Aw):Option { r:List Aw // ∃k p,e=.Tuple r k p }:=match e with|.Tuple xs k p=>some ⟨xs,k,p,rfl⟩|_=>none
noncomputable def aKR(e:Aw):Option { r:List Aw // ∃p,e=.List r p }:=match e with|.List xs p=>some ⟨xs,p,rfl⟩|_=>none
noncomputable def oZ(e:Aw):Option { r:Str×List Aw // ∃p1 p2,e=.Call (.Name r.1 p1) r.2 [] p2 }:=match e with|.Call (.Name x p1) xs [] p2=>some ⟨(x,xs),p1,p2,rfl⟩|_=>none
noncomputable def aNn(e:Aw):Option { r:Aw×Str×List Aw×Bool // ∃ap cp,e=.Call (.Attribute r.1 r.2.1 ap) r.2.2.1 [] cp/\(ap.endLine==cp.line)=r.2.2.2 }:=match e with|.Call (.Attribute x a ap) xs [] cp=>some ⟨(x,a,xs,ap.endLine==cp.line),ap,cp,rfl,rfl⟩|_=>none
noncomputable def aNo(e:Aw):Option { r:Aw×List Comprehension×DL // ∃p,e=.ListComp r.1 r.2.1 r.2.2 p }:=match e with|.ListComp e gs s p=>some ⟨(e,gs,s),p,rfl⟩|_=>none
noncomputable def oB{α:Type}(o:Option α)(f:α->Bool):Bool:=match o with|some a=>f a|none=>false
noncomputable def oS{α:Type}{q:α->Prop}(o:Option { a:α // q a })(f:α->Bool):Bool:=match o with|some a=>f a.1|none=>false
mutual
noncomputable def aR(Γ:Ct):E->Aw->Bool
 | .c d,e=>oS (asC e) (eqC d)||oS (asN e) λx=>cW Γ x&&cH x&&oB (Γ.cns.lookup x) (eqK d)|.v i,e=>oS (asN e) (cI Γ i)|.op o a b,e=>oS (aKN e) λp=>o==p.2.1&&aR Γ a p.1&&aR Γ b p.2.2|.neg a,e=>oS (aKO e) λp=>p.1==.USub&&aR Γ a p.2|.nt a,e=>oS (aKO e) λp=>p.1==.Not&&aR Γ a p.2|.an a b,e=>oS (aKP e) λp=>p.1==.And&&(match p.2.1 with
  | [x,y]=>aR Γ a x&&aR Γ b y|x::y::z::r=>aR Γ a x&&aR Γ b (.BoolOp .And (y::z::r) p.2.2)|_=>false)
 | .orr a b,e=>oS (aKP e) λp=>p.1==.Or&&(match p.2.1 with
  | [x,y]=>aR Γ a x&&aR Γ b y|x::y::z::r=>aR Γ a x&&aR Γ b (.BoolOp .Or (y::z::r) p.2.2)|_=>false)
 | .ife t a b,e=>oS (aNk e) λp=>aR Γ t p.1&&aR Γ a p.2.1&&aR Γ b p.2.2|.cmp o a b,e=>oS (aHh e) λp=>(match p.2.1,p.2.2 with
  | [o'],[r]=>o==o'&&aR Γ a p.1&&aR Γ b r|_,_=>false)
 | .cmp2 o1 o2 a b c,e=>oS (aHh e) λp=>(match p.2.1,p.2.2 with
  | [o1',o2'],[m,r]=>o1==o1'&&o2==o2'&&aR Γ a p.1&&aR Γ b m&&aR Γ c r|_,_=>false)
 | .dnin _ _,_=>false|.dget _ _,_=>false|.din _ _,_=>false|.dgd _ _ _,_=>false|.srtD j,e=>oS (oZ e) λp=>(match p.2 with
  | [s]=>oS (oZ s) λq=>(p.1==("sorted" : Str))&&cW Γ p.1&&(q.1==("list" : Str))&&cW Γ q.1&&(match q.2 with|[x]=>oS (asN x) (cI Γ j)|_=>false)|_=>false)
 | .rvs a,e=>oS (wM e) λp=>oS (aNm p.2) λ_=>aR Γ a p.1|.sst a,e=>oS (oZ e) λp=>(match p.2 with
  | [s]=>oS (oZ s) λq=>(p.1==("sorted" : Str))&&cW Γ p.1&&(q.1==("set" : Str))&&cW Γ q.1&&(match q.2 with|[x]=>aR Γ a x|_=>false)|_=>false)
 | .sop _ _ _,_=>false|.dlen _,_=>false|.idx a b,e=>oS (wM e) λp=>aR Γ a p.1&&aR Γ b p.2|.sli a lo hi,e=>oS (wM e) λp=>oS (aNl p.2) λq=>aR Γ a p.1&&chkO Γ lo q.1&&chkO Γ hi q.2|.tup es,e=>oS (aKQ e) λxs=>decide (xs.length<=1000)&&chkEs Γ es xs|.lst es,e=>oS (aKR e) λxs=>decide (xs.length<=1000)&&chkEs Γ es xs|.call f es,e=>oS (oZ e) λp=>(Γ.fns[f]?==some p.1)&&cW Γ p.1&&cH p.1&&chkEs Γ es p.2|.bi b es,e=>oS (oZ e) λp=>aDf b&&(jO b==p.1)&&cW Γ p.1&&cH p.1&&!p.2.isEmpty&&chkEs Γ es p.2|.mth _ _ _,_=>false|.numset _,_=>false|.tget i a,e=>oS (aNn e) λp=>oS (asN p.1) λx=>(p.2.1==("get" : Str))&&(Γ.tbs[i]?==some x)&&cW Γ x&&cH x&&p.2.2.2&&(match p.2.2.1 with|[y]=>aR Γ a y|_=>false)|.lzip _ _,_=>false|.isi a cs,e=>oS (oZ e) λp=>(match cs,p.2 with
  | [c],[x,y]=>(p.1==("isinstance" : Str))&&cW Γ p.1&&aNj c&&aR Γ a x&&aHg Γ c y|_,_=>false)
 | .comp k caps t it cond elt,e=>oS (aNo e) λp=>(match p.2.1 with
  | [⟨tg,iter,ifs,as⟩]=>
   as==0&&(fQ tg).length==k&&(caps.all λi=>decide (i<Γ.N.length))&&decide caps.Nodup&&p.2.2.kind==.function&&decide (fQ tg++caps.filterMap λi=>Γ.N[i]?).Nodup &&
   ((caps.filterMap λi=>Γ.N[i]?).all λx=>p.2.2.names.lookup x==some .free&&Γ.sc.lookup x==some .cell) &&
   (p.2.2.names.all λq=>q.2 != .cell&&(q.2 != .local||p.2.2.names.lookup q.1==some .local)&&(q.2 != .free||Γ.sc.lookup q.1==some .cell)) &&
   ((tIx t).all λi=>decide (i<k))&&decide (ifs.length<=1) &&
   nM { Γ with N:=fQ tg++caps.filterMap λi=>Γ.N[i]?,sc:=oY Γ.sc p.2.2.names,fn:=false } t tg&&chkI Γ (rZ tg) it iter &&
   chkEs { Γ with N:=fQ tg++caps.filterMap λi=>Γ.N[i]?,sc:=oY Γ.sc p.2.2.names,fn:=false } cond ifs &&
   aR { Γ with N:=fQ tg++caps.filterMap λi=>Γ.N[i]?,sc:=oY Γ.sc p.2.2.names,fn:=false } elt p.1
  | _=>false)
 | .dic _ _,_=>false|.attr _ _,_=>false
noncomputable def chkEs(Γ:Ct):Es->List Aw->Bool
 | .nil,[]=>true|.cons e es,x::xs=>aR Γ e x&&chkEs Γ es xs|_,_=>false
noncomputable def chkO(Γ:Ct):Es->Option Aw->Bool
 | .nil,none=>true|.cons e .nil,some x=>aR Γ e x|_,_=>false
noncomputable def chkI(Γ:Ct)(tt:Bool):It->Aw->Bool
 | .rng a b,e=>oS (oZ e) λp=>(p.1==("range" : Str))&&cW Γ p.1&&(match p.2 with
  | [x]=>zJ a&&aR Γ b x|[x,y]=>aR Γ a x&&aR Γ b y|_=>false)
 | .zip a b,e=>oS (oZ e) λp=>(match p.2 with
  | [x,y]=>tt&&(p.1==("zip" : Str))&&cW Γ p.1&&aR Γ a x&&aR Γ b y|_=>false)
 | .seq c,x=>aR Γ c x|.enum _,_=>false|.rev _,_=>false
end
noncomputable def gR:Aw->Bool
 | .ListComp _ _ _ _=>true|.SetComp _ _ _ _=>true|.DictComp _ _ _ _ _=>true|_=>false
noncomputable def pA:Aw->Bool
 | .Tuple _ _ _=>true|.List _ _=>true|_=>false
noncomputable def aIp:Aw->Bool
 | .Name _ _=>true|_=>false
noncomputable def kH(Γ:Ct)(i:Nat)(m:Str):Aw->Option (List Aw)
 | .Call (.Attribute (.Name x _) a ap) xs [] cp=>if (a==m)&&cI Γ i x&&(ap.endLine==cp.line) then some xs else none|_=>none
noncomputable def aNp(e:Aw):Option { r:Unit // ∃p,e=.Dict [] [] p }:=match e with|.Dict [] [] p=>some ⟨(),p,rfl⟩|_=>none
noncomputable def aBL(s:CG):Option { r:Aw×Aw // ∃p,s=.Assign [r.1] r.2 p }:=match s with|.Assign [t] v p=>some ⟨(t,v),p,rfl⟩|_=>none
noncomputable def sEx(s:CG):Option { r:Aw // ∃p,s=.Expr r p }:=match s with|.Expr v p=>some ⟨v,p,rfl⟩|_=>none
noncomputable def aIq(s:CG):Option { r:Option Aw // ∃p,s=.Return r p }:=match s with|.Return v p=>some ⟨v,p,rfl⟩|_=>none
noncomputable def sIf(s:CG):Option { r:Aw×List CG×List CG // ∃p,s=.If r.1 r.2.1 r.2.2 p }:=match s with|.If t x y p=>some ⟨(t,x,y),p,rfl⟩|_=>none
noncomputable def aNq(s:CG):Option { r:Aw×Aw×List CG // ∃p,s=.For r.1 r.2.1 r.2.2 [] p }:=match s with|.For t i b [] p=>some ⟨(t,i,b),p,rfl⟩|_=>none
noncomputable def aNr(s:CG):Option { r:Unit // ∃p,s=.Break p }:=match s with|.Break p=>some ⟨(),p,rfl⟩|_=>none
noncomputable def aNs(s:CG):Option { r:Unit // ∃p,s=.Continue p }:=match s with|.Continue p=>some ⟨(),p,rfl⟩|_=>none
noncomputable def aKS(s:CG):Option { r:Unit // ∃p,s=.Pass p }:=match s with|.Pass p=>some ⟨(),p,rfl⟩|_=>none
noncomputable def aKT(s:CG):Option { r:List CG // ∃h hs p,s=.Try r (h::hs) [] [] p }:=match s with|.Try b (h::hs) [] [] p=>some ⟨b,h,hs,p,rfl⟩|_=>none
mutual
noncomputable def fG(Γ:Ct):S->CG->Bool
 | .set t e,s=>oS (aBL s) λr=>nM Γ t r.1&&aR Γ e r.2&&(aIp r.1||!pA r.2)|.mov i j,s=>oS (aBL s) λr=>oS (asN r.1) λx=>oS (asN r.2) λy=>bQ Γ i x&&cI Γ j y|.dnew i,s=>oS (aBL s) λr=>oS (asN r.1) λx=>bQ Γ i x&&oS (aNp r.2) λ_=>true|.dpv _ _ _,_=>false|.dput i e,s=>oS (aBL s) λr=>oS (wM r.1) λu=>oS (asN u.1) λx=>cI Γ i x&&aR Γ e u.2&&aR Γ (.c (.bl true)) r.2|.dfrom _ _,_=>false|.setIx i k e,s=>oS (aBL s) λr=>oS (wM r.1) λu=>oS (asN u.1) λx=>cI Γ i x&&aR Γ k u.2&&aR Γ e r.2|.app i e,s=>oS (sEx s) λc=>(match kH Γ i "append" c with|some [a]=>aR Γ e a|_=>false)
 | .appCall _ _ _,_=>false|.ext i e,s=>oS (sEx s) λc=>(match kH Γ i "extend" c with|some [a]=>aR Γ e a|_=>false)
 | .pop t i k,s=>(match t,k with
  | none,none=>oS (sEx s) λc=>(match kH Γ i "pop" c with|some []=>true|_=>false)
  | none,some _=>false|some t,none=>oS (aBL s) λr=>nM Γ t r.1&&(match kH Γ i "pop" r.2 with|some []=>true|_=>false)|some _,some _=>false)
 | .clr _,_=>false|.rev _,_=>false|.ret e,s=>oS (aIq s) λr=>oB r (aR Γ e)|.retv i,s=>oS (aIq s) λr=>oB r λv=>oS (asN v) (cI Γ i)|.retN,s=>oS (aIq s) λr=>r.isNone|.iff c a b,s=>oS (sIf s) λr=>aR Γ c r.1&&chkSs Γ a r.2.1&&chkSs Γ b r.2.2|.for t it b,s=>oS (aNq s) λr=>nM Γ t r.1&&chkI Γ (rZ r.1) it r.2.1&&chkSs Γ b r.2.2|.whl _ _,_=>false|.brk,s=>oS (aNr s) λ_=>true|.cnt,s=>oS (aNs s) λ_=>true|.pass,s=>oS (aKS s) λ_=>true|.ex e,s=>oS (sEx s) λv=>aR Γ e v&&!gR v|.rse _ _ _,_=>true|.ins _ _ _,_=>false|.try _ _,_=>false|.tryN b,s=>oS (aKT s) λr=>chkSs Γ b r
noncomputable def chkSs(Γ:Ct):Ss->List CG->Bool
 | .nil,[]=>true|.cons s ss,x::xs=>fG Γ s x&&chkSs Γ ss xs|_,_=>false
end
end Hp
namespace Hp
open PySem PySem.Spec PyProof.Rows L2
theorem kI(n:Nat){d:Nat}(hd:d<=n):∀lo,sIx n d lo<=n
 | none=>hd|some v=>by unfold sIx;dsimp only;split <;> omega
theorem wN(lo hi:Option Int)(n:Nat):B7 lo hi 1 n=B7 (some ((sIx n 0 lo:Nat):Int)) (some ((sIx n n hi:Nat):Int)) 1 n:=by
 have q:(1:Int)>0:=by decide
 have key:∀(d:Nat) (hd:d<=n) (o:Option Int),(match o with|none=>(d:Int)|some i=>max 0 (min (if i<0 then i+(n:Int) else i) (n:Int)))=((sIx n d o:Nat):Int):=by
  intro d hd o;cases o with
  | none=>rfl|some i=>unfold sIx;dsimp only;split <;> omega
 have l:∀(m:Nat),m<=n->max (0:Int) (min (if (m:Int)<0 then (m:Int)+(n:Int) else (m:Int)) (n:Int))=(m:Int):=by intro m I;split <;> omega
 unfold B7;simp only[q,if_true];have B:=key 0 (AL _) lo;have G:=key n (Ah _) hi;have f1:=l _ (kI n (AL _) lo);have f2:=l _ (kI n (Ah _) hi);rw[f1,f2];cases lo <;> cases hi <;> simp_all
theorem rL(x:Str)(lo hi:Option Int):C7 x lo hi=zG x lo hi:=by
 have L:x.cps.toList.length=x.length:=by show _=x.cps.size;simp
 have e:C7 x lo hi=C7 x (some ((sIx x.length 0 lo:Nat):Int)) (some ((sIx x.length x.length hi:Nat):Int)):=by unfold C7;rw[wN]
 rw[e];unfold zG cut;rw[L];by_cases h:sIx x.length 0 lo<=sIx x.length x.length hi;exact StrLaws.sliceText_nat x h (kI _ (Ah _) hi);have q:sIx x.length x.length hi-sIx x.length 0 lo=0:=by omega
 have M:=kI x.length (AL _) lo;have I:=kI x.length (Ah _) hi;rw[q,C2];generalize sIx x.length 0 lo=i at *;generalize sIx x.length x.length hi=j at *;have G:B7 (some (i:Int)) (some (j:Int)) 1 x.length=[]:=by
  unfold B7;have B:(1:Int)>0:=by decide
  simp only[B,if_true];rw[if_neg (by omega),if_neg (by omega)];have a1:max (0:Int) (min (i:Int) (x.length:Int))=i:=by omega
  have l:max (0:Int) (min (j:Int) (x.length:Int))=j:=by omega
  rw[a1,l];unfold sliceRange;simp;omega
 unfold C7;rw[G];simp;intro U;omega
noncomputable def aDg:V->Option Int->Option Int->L2.Hp->VK->Prop:=λx lo hi H Q=>∃a,x=.str a/\a.length<=sizeLine/\Q (.str (zG a lo hi)) H
section
variable {X:Cx}
theorem aIr:SlR X aDg:=by
 intro pins s Z H x v vl vu lo hi sl Q I rx hs pl U h;obtain⟨a,rfl,hz,q⟩:=h;obtain⟨t,rfl⟩:=rx;have B:∀(l u:Option (Int×Lz)),l.map (·.1)=lo->u.map (·.1)=hi->s.heap.IsSlice sl l u none->Al (A6 X.prog X.w) X.A (Gf (.str a t) (.ref sl)) (EP X pins Z Q) X.xe s:=by
  intro l u e1 e2 h;refine wpAny_getItem_str_slice h rfl ?_;have e:C7 a lo hi=zG a lo hi:=rL a lo hi;unfold C7 at e;subst e1 e2;show Made.post (if ((1:Int)==1&&(B7 (l.map (·.1)) (u.map (·.1)) 1 a.length).length==a.length)=true then _ else _) _ s;split;rename_i L;rw[if_pos L] at e;exact⟨.str a,H,I,⟨t,rfl⟩,by rw[e];exact q⟩;rename_i L;rw[if_neg L] at e;have G:(zG a (l.map (·.1)) (u.map (·.1))).length<=sizeLine:=by refine AC ?_ hz;show(cut a.cps.toList _ _).toArray.size<=a.cps.size;unfold cut;rw[Af,Bc,BI,AK];omega
  refine⟨by rw[<-e] at G;exact G,.str (zG a (l.map (·.1)) (u.map (·.1))),H,I.tok _,?_,q⟩;rw[<-e];exact⟨_,rfl⟩
 refine⟨"str",_,IG.lookup,rfl,?_⟩;cases pl with
 | none=>
  cases U with
  | none=>exact B none none rfl rfl hs|int j M=>exact B none (some (j,M)) rfl rfl hs
 | int i W=>
  cases U with
  | none=>exact B (some (i,W)) none rfl rfl hs|int j M=>exact B (some (i,W)) (some (j,M)) rfl rfl hs
end
end Hp
namespace Hp
open PySem L2
abbrev Fg:=Av
noncomputable def kD:Key->D
 | .inl i=>.int i|.inr x=>.str x
mutual
noncomputable def Rep(K:Fg)(H:Hp)(ex:Addr->Prop):D->V->Prop
 | .non,v=>v=.non|.bl b,v=>v=.bl b|.int i,v=>v=.int i|.str x,v=>v=.str x|.tup ds,v=>∃a xs,v=.ref a/\SqT K H a xs/\Reps K H ex ds xs|.lst ds,v=>∃a xs,v=.ref a/\SqL K H a xs/\¬ ex a/\Reps K H ex ds xs|.dic kvs,v=>∃a ks,v=.ref a/\H a=some (.dK ks)/\RepKV K H ex kvs ks|.err _ _,_=>False
noncomputable def Reps(K:Fg)(H:Hp)(ex:Addr->Prop):List D->List V->Prop
 | [],xs=>xs=[]
 | d::ds,xs=>∃x r,xs=x::r/\Rep K H ex d x/\Reps K H ex ds r
noncomputable def RepKV(K:Fg)(H:Hp)(ex:Addr->Prop):List (D×D)->List (Key×V)->Prop
 | [],ks=>ks=[]
 | (k,d)::r,ks=>∃k' x r',ks=(k',x)::r'/\kD k'=k/\Rep K H ex d x/\RepKV K H ex r r'
end
section
variable {K:Fg} {H H':Hp} {ex ex':Addr->Prop}
theorem aL.seqT{a:Addr}{xs:List V}(e:aL H H')(h:SqT K H a xs):SqT K H' a xs:=by rcases h with(h|⟨o,h⟩)|h;exact .inl (.inl (e _ _ h));exact .inl (.inr ⟨o,e _ _ h⟩);exact .inr h
mutual
theorem Rep.imp(G:∀a xs,SqT K H a xs->SqT K H' a xs)(B:∀a xs,¬ ex a->SqL K H a xs->¬ ex' a/\SqL K H' a xs)(l:∀a ks,H a=some (.dK ks)->H' a=some (.dK ks)) :
 ∀(d:D) (v:V),Rep K H ex d v->Rep K H' ex' d v
 | .non,_,h=>h|.bl _,_,h=>h|.int _,_,h=>h|.str _,_,h=>h|.tup ds,_,h=>by obtain⟨a,xs,e,q,r⟩:=h;exact⟨a,xs,e,G a xs q,Reps.imp G B l ds xs r⟩|.lst ds,_,h=>by obtain⟨a,xs,e,q,n,r⟩:=h;obtain⟨I,L⟩:=B a xs n q;exact⟨a,xs,e,L,I,Reps.imp G B l ds xs r⟩|.dic kvs,_,h=>by obtain⟨a,ks,e,q,r⟩:=h;exact⟨a,ks,e,l a ks q,RepKV.imp G B l kvs ks r⟩|.err _ _,_,h=>h.elim
theorem Reps.imp(B:∀a xs,SqT K H a xs->SqT K H' a xs)(q:∀a xs,¬ ex a->SqL K H a xs->¬ ex' a/\SqL K H' a xs)(l:∀a ks,H a=some (.dK ks)->H' a=some (.dK ks)) :
 ∀(ds:List D) (xs:List V),Reps K H ex ds xs->Reps K H' ex' ds xs
 | [],_,h=>h|d::ds,_,h=>by obtain⟨x,r,e,G,I⟩:=h;exact⟨x,r,e,Rep.imp B q l d x G,Reps.imp B q l ds r I⟩
theorem RepKV.imp(B:∀a xs,SqT K H a xs->SqT K H' a xs)(q:∀a xs,¬ ex a->SqL K H a xs->¬ ex' a/\SqL K H' a xs)(l:∀a ks,H a=some (.dK ks)->H' a=some (.dK ks)) :
 ∀(ds:List (D×D)) (xs:List (Key×V)),RepKV K H ex ds xs->RepKV K H' ex' ds xs
 | [],_,h=>h|(k,d)::ds,_,h=>by obtain⟨M,x,r,e,G,I,L⟩:=h;exact⟨M,x,r,e,G,Rep.imp B q l d x I,RepKV.imp B q l ds r L⟩
end
theorem Rep.weak{d:D}{v:V}(h:Rep K H ex d v)(e:∀a,ex' a->ex a):Rep K H ex' d v:=Rep.imp (λ_ _ q=>q) (λa _ n q=>⟨λz=>n (e a z),q⟩) (λ_ _ q=>q) d v h
theorem Reps.weak{d:List D}{v:List V}(h:Reps K H ex d v)(e:∀a,ex' a->ex a):Reps K H ex' d v:=Reps.imp (λ_ _ q=>q) (λa _ n q=>⟨λz=>n (e a z),q⟩) (λ_ _ q=>q) d v h
theorem Rep.grow{d:D}{v:V}(h:Rep K H ex d v)(s:aL H H'):Rep K H' ex d v:=Rep.imp (λ_ _ q=>aL.seqT s q) (λ_ _ n q=>⟨n,s.seq q⟩) (λ_ _ q=>s _ _ q) d v h
theorem Reps.grow{d:List D}{v:List V}(h:Reps K H ex d v)(s:aL H H'):Reps K H' ex d v:=Reps.imp (λ_ _ q=>aL.seqT s q) (λ_ _ n q=>⟨n,s.seq q⟩) (λ_ _ q=>s _ _ q) d v h
theorem Rep.keep{d:D}{v:V}(h:Rep K H ex d v)(s:∀a o,H a=some o->(∀xs,o=.lst xs->¬ ex a)->(∀φ,o≠.ext φ)->H' a=some o):Rep K H' ex d v:=by refine Rep.imp (λa xs q=>?_) (λa xs n q=>⟨n,?_⟩) (λa ks q=>s a _ q (λxs e=>by cases e) (λ_ z=>by cases z)) d v h;rcases q with(q|⟨o,q⟩)|q;exact .inl (.inl (s _ _ q (λxs e=>by cases e) (λ_ z=>by cases z)));exact .inl (.inr ⟨o,s _ _ q (λxs e=>by cases e) (λ_ z=>by cases z)⟩);exact .inr q;rcases q with(q|⟨o,q⟩)|q;exact .inl (.inl (s _ _ q (λ_ _=>n) (λ_ z=>by cases z)));exact .inl (.inr ⟨o,s _ _ q (λxs e=>by cases e) (λ_ z=>by cases z)⟩);exact .inr q
theorem Reps.keep{d:List D}{v:List V}(h:Reps K H ex d v)(s:∀a o,H a=some o->(∀xs,o=.lst xs->¬ ex a)->(∀φ,o≠.ext φ)->H' a=some o):Reps K H' ex d v:=by refine Reps.imp (λa xs q=>?_) (λa xs n q=>⟨n,?_⟩) (λa ks q=>s a _ q (λxs e=>by cases e) (λ_ z=>by cases z)) d v h;rcases q with(q|⟨o,q⟩)|q;exact .inl (.inl (s _ _ q (λxs e=>by cases e) (λ_ z=>by cases z)));exact .inl (.inr ⟨o,s _ _ q (λxs e=>by cases e) (λ_ z=>by cases z)⟩);exact .inr q;rcases q with(q|⟨o,q⟩)|q;exact .inl (.inl (s _ _ q (λ_ _=>n) (λ_ z=>by cases z)));exact .inl (.inr ⟨o,s _ _ q (λxs e=>by cases e) (λ_ z=>by cases z)⟩);exact .inr q
mutual
theorem Rep.free:∀(d:D) (v:V),noL d=true->Rep K H ex d v->Rep K H ex' d v
 | .non,_,_,h=>h|.bl _,_,_,h=>h|.int _,_,_,h=>h|.str _,_,_,h=>h|.tup ds,_,n,h=>by obtain⟨a,xs,e,q,r⟩:=h;exact⟨a,xs,e,q,Reps.free ds xs (by simpa[noL] using n) r⟩|.lst ds,_,n,_=>by simp[noL] at n|.dic kvs,_,n,_=>by simp[noL] at n|.err _ _,_,n,_=>by simp[noL] at n
theorem Reps.free:∀(ds:List D) (xs:List V),noLs ds=true->Reps K H ex ds xs->Reps K H ex' ds xs
 | [],_,_,h=>h|d::ds,_,n,h=>by obtain⟨x,r,e,l,q⟩:=h;simp only[noLs,bA] at n;exact⟨x,r,e,Rep.free d x n.1 l,Reps.free ds r n.2 q⟩
end
theorem Reps.length:∀{ds:List D} {xs:List V},Reps K H ex ds xs->ds.length=xs.length
 | [],_,h=>by rw[show _=[] from h];rfl|d::ds,_,h=>by obtain⟨x,r,e,_,l⟩:=h;subst e;rw[lC,lC,Reps.length l]
theorem Reps.get:∀{ds:List D} {xs:List V} {j:Nat} {d:D},Reps K H ex ds xs->ds[j]? = some d->∃x,xs[j]? = some x/\Rep K H ex d x
 | [],_,_,_,_,e=>by simp at e|d::ds,_,0,_,h,e=>by obtain⟨x,r,l,B,_⟩:=h;subst l;simp at e;subst e;exact⟨x,rfl,B⟩|d::ds,_,j+1,d',h,e=>by obtain⟨x,r,l,_,G⟩:=h;subst l;obtain⟨y,I,q⟩:=Reps.get (j:=j) (d:=d') G (by simpa using e);exact⟨y,by simpa using I,q⟩
theorem Reps.get'{ds:List D}{xs:List V}{j:Nat}{x:V}(h:Reps K H ex ds xs)(e:xs[j]? = some x):∃d,ds[j]? = some d/\Rep K H ex d x:=by
 have G:=h.length;have B:j<xs.length:=(Ar.mp e).1;obtain⟨d,hd⟩:∃d,ds[j]? = some d:=⟨ds[j],Ae (by omega)⟩
 obtain⟨y,l,q⟩:=h.get hd;rw[e] at l;cases l;exact⟨d,hd,q⟩
theorem Reps.nil:Reps K H ex [] []:=rfl
theorem Reps.cons{d:D}{ds:List D}{x:V}{xs:List V}(h:Rep K H ex d x)(t:Reps K H ex ds xs):Reps K H ex (d::ds) (x::xs):=⟨x,xs,rfl,h,t⟩
theorem Reps.append:∀{ds es:List D} {xs ys:List V},Reps K H ex ds xs->Reps K H ex es ys->Reps K H ex (ds++es) (xs++ys)
 | [],_,_,_,h,t=>by rw[show _=[] from h];exact t|d::ds,_,_,_,h,t=>by obtain⟨x,r,e,l,q⟩:=h;subst e;exact⟨x,_,rfl,l,Reps.append q t⟩
theorem Reps.take:∀{ds:List D} {xs:List V} (n:Nat),Reps K H ex ds xs->Reps K H ex (ds.take n) (xs.take n)
 | _,_,0,_=>by simp[Reps]|[],_,n+1,h=>by rw[show _=[] from h];simp[Reps]|d::ds,_,n+1,h=>by obtain⟨x,r,e,l,q⟩:=h;subst e;exact⟨x,_,rfl,l,Reps.take n q⟩
theorem Reps.drop:∀{ds:List D} {xs:List V} (n:Nat),Reps K H ex ds xs->Reps K H ex (ds.drop n) (xs.drop n)
 | _,_,0,h=>h|[],_,n+1,h=>by rw[show _=[] from h];simp[Reps]|d::ds,_,n+1,h=>by obtain⟨x,r,e,q,l⟩:=h;subst e;exact Reps.drop n l
theorem Reps.set:∀{ds:List D} {xs:List V} {d:D} {x:V} (j:Nat),Reps K H ex ds xs->Rep K H ex d x->Reps K H ex (ds.set j d) (xs.set j x)
 | [],_,_,_,_,h,_=>by rw[show _=[] from h];simp[Reps]|d::ds,_,_,_,0,h,q=>by obtain⟨x,r,e,B,l⟩:=h;subst e;exact⟨_,_,rfl,q,l⟩|d::ds,_,_,_,j+1,h,q=>by obtain⟨x,r,e,B,l⟩:=h;subst e;exact⟨x,_,rfl,B,Reps.set j l q⟩
theorem Reps.eraseIdx:∀{ds:List D} {xs:List V} (j:Nat),Reps K H ex ds xs->Reps K H ex (ds.eraseIdx j) (xs.eraseIdx j)
 | [],_,_,h=>by rw[show _=[] from h];simp[Reps]|d::ds,_,0,h=>by obtain⟨x,r,e,q,l⟩:=h;subst e;exact l|d::ds,_,j+1,h=>by obtain⟨x,r,e,q,l⟩:=h;subst e;exact⟨x,_,rfl,q,Reps.eraseIdx j l⟩
theorem Reps.reverse:∀{ds:List D} {xs:List V},Reps K H ex ds xs->Reps K H ex ds.reverse xs.reverse
 | [],_,h=>by rw[show _=[] from h];simp[Reps]|d::ds,_,h=>by obtain⟨x,r,e,l,q⟩:=h;subst e;rw[DJ,DJ];exact(Reps.reverse q).append (.cons l .nil)
theorem Reps.flat:∀{ds:List D} {xs:List V},Reps K H ex ds xs->∀k:Nat,Reps K H ex (Aj k ds).flatten (Aj k xs).flatten
 | _,_,_,0=>by simp[Reps]|ds,xs,h,k+1=>by rw[B4,B4,Df,Df];exact h.append (Reps.flat h k)
end
end Hp
namespace Hp
open PySem PySem.Spec PyProof.Rows L2
theorem aMF(a b:Str):(a++b).length=a.length+b.length:=by show(a.cps++b.cps).size=_;rw[Ii];rfl
noncomputable def Kp(R:Addr->Prop)(H H':Hp):Prop:=∀a o,H a=some o->¬ R a->H' a=some o
noncomputable def RE{α:Type}:R α->(α->Prop)->Prop
 | .ok a,p=>p a|_,_=>False
theorem RE.mono{α:Type}{x:R α}{p q:α->Prop}(h:RE x p)(f:∀a,p a->q a):RE x q:=by
 cases x with
 | ok a=>exact f a h|exc e=>exact h|bad=>exact h
theorem RE.bind{α l:Type}{x:R α}{f:α->R l}{p:l->Prop}:RE (x >>= f) p=RE x λa=>RE (f a) p:=by cases x <;> rfl
theorem RE.iff{α:Type}{c:Bool}{x:R α}{p:α->Prop}(h:RE (R.iff c x) p):c=true/\RE x p:=by
 cases c with
 | true=>exact⟨rfl,h⟩|false=>exact h.elim
section
variable (K:Fg) (RT Y old:Addr->Prop)
noncomputable def exB(pa:Bool)(a:Addr):Prop:=Y a\/(pa=false/\old a)
noncomputable def Tk(H:Hp):Prop:=∀b,H b≠none->K.lookup b=none
noncomputable def dV:D->V
 | .int i=>.int i|.bl b=>.bl b|_=>.non
abbrev kV(x:NK×D):NK×V:=(x.1,dV x.2)
structure Dx (Z:Sg) (ZV:L2.St) (H:Hp):Prop where
 at':∀(i:Nat) (ks:List (NK×D)),Z[i]? = some (.dct ks)->∃a xs,ZV[i]? = some (some (.ref a))/\H a=some (dR a xs)/\RT a/\¬ old a/\xs.map pj=ks.map kV/\∀x∈xs,cE K H x.1 x.2.1
 inj:∀(i j:Nat) (ks ks':List (NK×D)) (a:Addr),Z[i]? = some (.dct ks)->Z[j]? = some (.dct ks')->ZV[i]? = some (some (.ref a))->ZV[j]? = some (some (.ref a))->i=j
noncomputable def RtO(H:Hp)(a:Addr):Prop:=(∃xs,H a=some (.lst xs))\/∃xs,H a=some (dR a xs)
structure Sx (Z:Sg) (ZV:L2.St) (H:Hp):Prop where
 sh:∀(i:Nat) (pa:Bool) (d:D),Z[i]? = some (.sh pa d)->∃v,ZV[i]? = some (some v)/\Rep K H (λa=>RT a\/exB Y old pa a) d v
 own:∀(i:Nat) (pa:Bool) (ds:List D),Z[i]? = some (.own pa ds)->∃a xs,ZV[i]? = some (some (.ref a))/\H a=some (.lst xs)/\RT a/\¬ old a/\Reps K H (λa=>RT a\/exB Y old pa a) ds xs
 trk:∀a,RT a\/Y a\/old a->H a≠none
 yo:∀a,Y a->old a
 tk:Tk K H
 rt:∀a,RT a->RtO H a
 inj:∀(i j:Nat) (pa pa':Bool) (ds ds':List D) (a:Addr),Z[i]? = some (.own pa ds)->Z[j]? = some (.own pa' ds')->ZV[i]? = some (some (.ref a))->ZV[j]? = some (some (.ref a))->i=j
 len:Z.length=ZV.length
 dx:Dx K RT old Z ZV H
noncomputable def alR(Z:Sg)(ZV:L2.St)(al:List Nat)(a:Addr):Prop:=∃j∈al,(∃pa ds,Z[j]? = some (.own pa ds))/\ZV[j]? = some (some (.ref a))
noncomputable def exV(Z:Sg)(ZV:L2.St)(pa:Bool)(al:List Nat)(a:Addr):Prop:=(RT a/\¬ alR Z ZV al a)\/exB Y old pa a
noncomputable def Rv(Z:Sg)(ZV:L2.St)(H:Hp)(v:Vl)(u:V):Prop:=Rep K H (exV RT Y old Z ZV v.pa v.al) v.d u
noncomputable def Ro(Z:Sg)(ZV:L2.St)(H H':Hp)(v:Vl)(u:V):Prop:=
 aL H H'/\(if v.fr=true then ∃a xs ds,u=.ref a/\v.d=.lst ds/\H a=none/\H' a=some (.lst xs)/\Reps K H' (λb=>b=a\/exV RT Y old Z ZV v.pa v.al b) ds xs
  else Rv K RT Y old Z ZV H' v u)
noncomputable def Rvs(Z:Sg)(ZV:L2.St)(H:Hp):List Vl->List V->Prop
 | [],us=>us=[]
 | v::vs,us=>∃u r,us=u::r/\Rv K RT Y old Z ZV H v u/\Rvs Z ZV H vs r
end
section
variable {K:Fg} {RT Y old:Addr->Prop} {Z:Sg} {ZV:L2.St} {H H' H1 H2:Hp} {v:Vl} {u:V}
theorem cE.imp(q:∀b ks,SqT K H b ks->SqT K H' b ks){k:NK}{b:Addr}(h:cE K H k b):cE K H' k b:=by
 obtain⟨bs,l,B⟩:=h;refine⟨bs,q _ _ l,?_⟩;clear l
 induction B with
 | nil=>exact .nil|cons h t G=>exact .cons (q _ _ h) G
theorem Dx.imp{l:Addr->Prop}{Z':Sg}{q:L2.St}(L:Dx K RT old Z ZV H)(m:Nat->Nat)(hs:∀j ks,Z'[j]? = some (.dct ks)->Z[m j]? = some (.dct ks)/\q[j]? = ZV[m j]?)(hm:∀i j ks ks',Z'[i]? = some (.dct ks)->Z'[j]? = some (.dct ks')->m i=m j->i=j)
 (hh:∀a xs,H a=some (dR a xs)->RT a->¬ old a->H' a=some (dR a xs)/\l a) (hr:∀b ks,SqT K H b ks->SqT K H' b ks):Dx K l old Z' q H' where
 at':=λi ks e=>by obtain⟨B,G⟩:=hs i ks e;obtain⟨a,xs,h1,h2,h3,I,h5,h6⟩:=L.at' (m i) ks B;obtain⟨g1,g2⟩:=hh a xs h2 h3 I;exact⟨a,xs,by rw[G];exact h1,g1,g2,I,h5,λx hx=>cE.imp hr (h6 x hx)⟩
 inj:=λi j ks ks' a M U v1 v2=>by obtain⟨B,G⟩:=hs i ks M;obtain⟨W,e4⟩:=hs j ks' U;exact hm i j ks ks' M U (L.inj (m i) (m j) ks ks' a B W (by rw[<-G];exact v1) (by rw[<-e4];exact v2))
theorem RtO.grow{a:Addr}(h:RtO H a)(s:aL H H'):RtO H' a:=h.imp (λ⟨xs,e⟩=>⟨xs,s _ _ e⟩) λ⟨xs,e⟩=>⟨xs,s _ _ e⟩
theorem Sx.grow(S:Sx K RT Y old Z ZV H)(s:aL H H')(t:Tk K H'):Sx K RT Y old Z ZV H' where
 sh:=λi pa d e=>let ⟨v,h1,h2⟩:=S.sh i pa d e;⟨v,h1,h2.grow s⟩
 own:=λi pa ds e=>let ⟨a,xs,h1,h2,h3,h4,h5⟩:=S.own i pa ds e;⟨a,xs,h1,s _ _ h2,h3,h4,h5.grow s⟩
 trk:=λa h z=>S.trk a h (s.free z)
 yo:=S.yo
 tk:=t
 rt:=λa h=>(S.rt a h).grow s
 inj:=S.inj
 len:=S.len
 dx:=S.dx.imp id (λ_ _ e=>⟨e,rfl⟩) (λ_ _ _ _ _ _ e=>e) (λa xs e z _=>⟨s _ _ e,z⟩) λ_ _ r=>aL.seqT s r
theorem exV.trk(S:Sx K RT Y old Z ZV H){pa:Bool}{al:List Nat}{a:Addr}(h:exV RT Y old Z ZV pa al a):H a≠none:=by
 rcases h with⟨h,_⟩|h|⟨_,h⟩
 exact S.trk a (.inl h);exact S.trk a (.inr (.inl h));exact S.trk a (.inr (.inr h))
theorem Ro.rv(S:Sx K RT Y old Z ZV H)(h:Ro K RT Y old Z ZV H H' v u):Rv K RT Y old Z ZV H' v u:=by obtain⟨s,h⟩:=h;by_cases l:v.fr=true;rw[if_pos l] at h;obtain⟨a,xs,ds,q,B,G,I,r⟩:=h;unfold Rv;rw[B];exact⟨a,xs,q,SqL.of I,λz=>exV.trk S z G,r.weak λb z=>.inr z⟩;rw[if_neg l] at h;exact h
theorem Rv.grow(h:Rv K RT Y old Z ZV H v u)(s:aL H H'):Rv K RT Y old Z ZV H' v u:=Rep.grow h s
theorem Rvs.grow:∀{vs:List Vl} {us:List V},Rvs K RT Y old Z ZV H vs us->aL H H'->Rvs K RT Y old Z ZV H' vs us
 | [],_,h,_=>h|v::vs,_,h,s=>by obtain⟨u,r,e,l,q⟩:=h;exact⟨u,r,e,l.grow s,Rvs.grow q s⟩
theorem Ro.plain(s:aL H H')(l:v.fr=false)(h:Rv K RT Y old Z ZV H' v u):Ro K RT Y old Z ZV H H' v u:=⟨s,by rw[if_neg (by rw[l];decide)];exact h⟩
theorem Ro.from(h:Ro K RT Y old Z ZV H1 H' v u)(s:aL H H1):Ro K RT Y old Z ZV H H' v u:=by obtain⟨L,h⟩:=h;refine⟨s.trans L,?_⟩;by_cases l:v.fr=true;rw[if_pos l] at h ⊢;obtain⟨a,xs,ds,q,B,G,I,r⟩:=h;exact⟨a,xs,ds,q,B,s.free G,I,r⟩;rw[if_neg l] at h ⊢;exact h
theorem Ro.cl{d:D}(s:aL H H')(h:Rep K H' (exV RT Y old Z ZV false []) d u):Ro K RT Y old Z ZV H H' (.cl d) u:=Ro.plain s rfl h
theorem Rv.sub{d:D}{x:V}{ds:List D}{xs:List V}{j:Nat}(h:Rep K H (exV RT Y old Z ZV v.pa v.al) d x):Rv K RT Y old Z ZV H (v.sub d) x:=by unfold Rv Vl.sub;by_cases l:noL d=true;rw[if_pos l];exact Rep.free d x l h;rw[if_neg l];exact h
theorem alR.mono{al l:List Nat}{a:Addr}(h:alR Z ZV al a)(s:∀j∈al,j∈l):alR Z ZV l a:=by obtain⟨j,B,q⟩:=h;exact⟨j,s j B,q⟩
theorem exV.mono{pa pa':Bool}{al l:List Nat}{a:Addr}(h:exV RT Y old Z ZV pa' l a)(G:pa=true->pa'=true)(s:∀j∈al,j∈l):exV RT Y old Z ZV pa al a:=by
 rcases h with⟨q,B⟩|h|⟨q,B⟩
 exact .inl ⟨q,λz=>B (z.mono s)⟩;exact .inr (.inl h);refine .inr (.inr ⟨?_,B⟩);cases pa with
 | false=>rfl|true=>rw[G rfl] at q;cases q
theorem Rvs.length:∀{vs:List Vl} {us:List V},Rvs K RT Y old Z ZV H vs us->vs.length=us.length
 | [],_,h=>by rw[show _=[] from h];rfl|v::vs,_,h=>by obtain⟨u,r,e,_,l⟩:=h;subst e;rw[lC,lC,Rvs.length l]
theorem nA{vs:List Vl}{v:Vl}(h:v∈vs):∀j∈v.al,j∈bE vs:=λj l=>Be.mpr ⟨v,h,l⟩
theorem wP{vs:List Vl}{v:Vl}(h:v∈vs)(l:v.pa=true):cV vs=true:=IN.mpr ⟨v,h,l⟩
theorem Rvs.reps:∀{vs:List Vl} {us:List V} {pa:Bool} {al:List Nat},Rvs K RT Y old Z ZV H vs us->(∀v∈vs,(v.pa=true->pa=true)/\∀j∈v.al,j∈al) ->
 Reps K H (exV RT Y old Z ZV pa al) (vs.map (·.d)) us
 | [],_,_,_,h,_=>h|v::vs,_,_,_,h,q=>by obtain⟨u,r,e,B,G⟩:=h;have l:=q v Ak;exact⟨u,r,e,Rep.weak B λa z=>z.mono l.1 l.2,Rvs.reps G λw I=>q w (Ag _ I)⟩
theorem Rvs.all{vs:List Vl}{us:List V}(h:Rvs K RT Y old Z ZV H vs us):Reps K H (exV RT Y old Z ZV (cV vs) (bE vs)) (vs.map (·.d)) us:=
 h.reps λv l=>⟨λz=>wP l z,nA l⟩
theorem Ro.fresh{p:Addr}{xs:List V}{ds:List D}(l:H p=none)(G:Tk K (upd H p (.lst xs)))(hd:v.d=.lst ds)(B:v.fr=true)(S:Sx K RT Y old Z ZV H)(r:Reps K H (exV RT Y old Z ZV v.pa v.al) ds xs) :
 Ro K RT Y old Z ZV H (upd H p (.lst xs)) v (.ref p):=by
 have s:aL H (upd H p (.lst xs)):=λb o q=>by rw[aM (bB q l)];exact q
 refine⟨s,?_⟩;rw[if_pos B];refine⟨p,xs,ds,rfl,hd,l,bP,?_⟩;refine Reps.imp (λ_ _ q=>aL.seqT s q) (λa ys n q=>⟨λz=>?_,s.seq q⟩) (λ_ _ q=>s _ _ q) ds xs r;rcases z with z|z;subst z;rcases q with(q|⟨o,q⟩)|⟨o,I,L,q,_⟩
 rw[l] at q;cases q;rw[l] at q;cases q;have z:=G a (by rw[bP];simp);rw[q] at z;cases z;exact n z
theorem aL.new{p:Addr}{o:HO}(l:H p=none):aL H (upd H p o):=λb u q=>by rw[aM (bB q l)];exact q
theorem Ro.tup{p:Addr}{xs:List V}{ds:List D}(l:H p=none)(hd:v.d=.tup ds)(q:v.fr=false)(r:Reps K H (exV RT Y old Z ZV v.pa v.al) ds xs) :
 Ro K RT Y old Z ZV H (upd H p (.tup xs)) v (.ref p):=by refine Ro.plain (aL.new l) q ?_;unfold Rv;rw[hd];exact⟨p,xs,rfl,SqT.of bP,r.grow (aL.new l)⟩
end
section
variable (X:Cx) (P:Pg) (W:Caller) (RT Y old:Addr->Prop)
noncomputable def wE(Z:Sg)(c:E):TE:=λZV H Q=>Sx X.K RT Y old Z ZV H/\RE (ev P W Z c) λv=>∀u H',Tk X.K H'->Ro X.K RT Y old Z ZV H H' v u->Q u H'
noncomputable def wT(Z:Sg)(c:E):TT:=λZV H Q=>Sx X.K RT Y old Z ZV H/\RE (tst P W Z c) λk=>∀H',Tk X.K H'->aL H H'->Q k H'
noncomputable def wA(Z:Sg)(cs:Es):TA:=λZV H Q=>Sx X.K RT Y old Z ZV H/\RE (evs P W Z cs) λvs=>∀us H',Tk X.K H'->aL H H'->Rvs X.K RT Y old Z ZV H' vs us->Q us H'
end
section
variable {X:Cx} {P:Pg} {W:Caller} {RT Y old:Addr->Prop} {Z:Sg} {pos:DK}
theorem _root_.L2.Inv.tk{pins:List (Addr×Obj)}{ZV:L2.St}{H:Hp}{s:Ac}(I:Inv X pins ZV H s):Tk X.K H:=λb l=>by
 cases q:X.K.lookup b with
 | none=>rfl|some o=>exact absurd (I.bs b o (I.ok.mod.kin b o q)).2 l
theorem _root_.L2.PE.imp{e:Aw}{t t':TE}(h:PE X e t)(f:∀ZV H Q,Tk X.K H->t' ZV H Q->t ZV H λv H'=>Tk X.K H'->Q v H'):PE X e t':=λpins s ZV H Q I B=>thn (h pins s ZV H _ I (f ZV H Q I.tk B)) λu G ⟨v,H',l,r,q⟩=>⟨v,H',l,r,q l.tk⟩
theorem _root_.L2.PT.imp{e:Aw}{t t':TT}(h:PT X e t)(f:∀ZV H Q,Tk X.K H->t' ZV H Q->t ZV H λv H'=>Tk X.K H'->Q v H'):PT X e t':=λpins s ZV H Q I B=>thn (h pins s ZV H _ I (f ZV H Q I.tk B)) λk G ⟨H',l,q⟩=>⟨H',l,q l.tk⟩
theorem _root_.L2.PA.imp{es:List Aw}{t t':TA}(h:PA X es t)(f:∀ZV H Q,Tk X.K H->t' ZV H Q->t ZV H λv H'=>Tk X.K H'->Q v H'):PA X es t':=λpos pins s ZV H Q I B=>thn (h pos pins s ZV H _ I (f ZV H Q I.tk B)) λu G ⟨v,H',l,r,q⟩=>⟨v,H',l,r,q l.tk⟩
theorem wE.two{a b:E}{ZV:L2.St}{H:Hp}{p:Vl->Vl->Prop}{Q:V->V->Hp->Prop}(S:Sx X.K RT Y old Z ZV H)(h:RE (ev P W Z a) λx=>RE (ev P W Z b) λy=>p x y)
 (f:∀x y q B l,p x y->Tk X.K l->aL H l->Sx X.K RT Y old Z ZV l->Rv X.K RT Y old Z ZV l x q->Rv X.K RT Y old Z ZV l y B->Q q B l) :
 wE X P W RT Y old Z a ZV H λq H1=>wE X P W RT Y old Z b ZV H1 λB l=>Q q B l:=by refine⟨S,h.mono λx hx q H1 M G=>⟨S.grow G.1 M,hx.mono λy hy B l U I=>?_⟩⟩;have L:=S.grow G.1 M;exact f x y q B l hy U (G.1.trans I.1) (L.grow I.1 U) ((G.rv S).grow I.1) (I.rv L)
theorem Ro.val{d:D}{u:V}{ZV:L2.St}{H H':Hp}(s:aL H H')(h:∀ex,Rep X.K H' ex d u):Ro X.K RT Y old Z ZV H H' (.cl d) u:=Ro.cl s (h _)
theorem s_c {d : D} {c : Const} {k : Nat} (h : eqC d c = true) : PE X (.Constant c k pos) (wE X P W RT Y old Z (.c d)) := by
 have key : ∀ {v : V}, (∀ (H : Hp) ex, Rep X.K H ex d v) -> PE X (.Constant c k pos) (tC v) -> PE X (.Constant c k pos) (wE X P W RT Y old Z (.c d)) := λ B l =>l.imp λ ZV H Q t ⟨S, q⟩ t' => q _ H t' (Ro.val (aL.refl H) (B H));cases d with
 | non => cases c with|none => exact key (λ _ _ => rfl) aHH|_ => cases h
 | bl b => cases c with
  | bool b' => have e : b = b' := by simpa [eqC] using h
               subst e; exact key (λ _ _ => rfl) aKe
  | _ => cases h
 | int b => cases c with
  | int b' => have e : b = b' := by simpa [eqC] using h
              subst e; exact key (λ _ _ => rfl) aCt
  | _ => cases h
 | str b => cases c with
  | str b' => have e : b = b' := by simpa [eqC] using h
              subst e; exact key (λ _ _ => rfl) aHI
  | _ => cases h
 | _ => cases c <;> cases h
theorem s_v{i:Nat}{x:Str}(U:X.N[i]? = some x)(hv:Vis X.env.scope x)(hd:(x==("__debug__" : Str))=false)(G:(x==("__classdict__" : Str))=false) :
 PE X (.Name x pos) (wE X P W RT Y old Z (.v i)):=by
 refine(tG U hv hd G).imp λZV H Q t ⟨S,q⟩=>?_;have q:RE (bH Z i) _:=q;unfold bH at q;cases e:Z[i]? with
 | none=>rw[e] at q;exact q.elim|some sl=>
  rw[e] at q;cases sl with
  | dead=>exact q.elim|dct _=>exact q.elim|sh pa d=>
   obtain⟨v,l,B⟩:=S.sh i pa d e;refine⟨v,l,λt'=>q v H t' (Ro.plain (aL.refl H) rfl ?_)⟩;unfold Rv;by_cases L:noL d=true;exact Rep.free d v L B;refine Rep.weak B λa z=>?_;rcases z with⟨z,_⟩|z|⟨z,z'⟩
   exact .inl z;exact .inr (.inl z);have:pa=false:=by simpa[L] using z
   exact .inr (.inr ⟨this,z'⟩)
  | own pa ds=>
   obtain⟨a,xs,l,B,h3,I,M⟩:=S.own i pa ds e;refine⟨.ref a,l,λt'=>q _ H t' (Ro.plain (aL.refl H) rfl ?_)⟩;unfold Rv;refine⟨a,xs,rfl,SqL.of B,λz=>?_,M.weak λb z=>?_⟩;rcases z with⟨_,z⟩|z|⟨_,z⟩
   exact z ⟨i,by simp,⟨pa,ds,e⟩,l⟩;exact I (S.yo a z);exact I z;rcases z with⟨z,_⟩|z;exact .inl z;exact .inr z
end
noncomputable def sA(prog:A0)(w:AN)(K:Fg)(a:Addr)(t:List (Str×D)):Prop:=(a==CP)=false/\∃vs:List (Key×Value),(∀h:Heap,K.In h->h.DictOf (fI prog w) a vs) /\
 ∀k:Str,(t.lookup k=none/\Gn vs (BZ k:Key)=none)\/∃d u v,t.lookup k=some d/\Gn vs (BZ k:Key)=some u/\bG v u/\∀(H:Hp) (ex:Addr->Prop),Rep K H ex d v
section
variable {X:Cx}
theorem aFH{a:Addr}{t:List (Str×D)}{x:Str}{p ap W:DK}{e:Aw}{te:TE}(T:sA X.prog X.w X.K a t)(hg:Gl X x)(hm:X.mg x=some (.ref a))(hd:(x==("__debug__" : Str))=false)(he:PE X e te)(l:(ap.endLine==W.line)=true)
 (hs:Bg [e] X.env=[(false,DM e X.env)]) :
 PE X (.Call (.Attribute (.Name x p) "get" ap) [e] [] W) (λZ H Q=>te Z H λu H1=>∃k,u=.str k/\∀v,(∀(H:Hp) (ex:Addr->Prop),Rep X.K H ex ((t.lookup k).getD .non) v)->Q v H1):=by
 intro pins s Z H Q I h;obtain⟨L,vs,dict,look⟩:=T;refine Gi rfl (by rw[hs];rfl) l rfl (thn (aAu (v:=.ref a) hg hm rfl hd pins s Z H (λv H1=>v=.ref a/\H1=H) I ⟨rfl,rfl⟩) λv s1 ⟨y,H1,I1,r1,e1,e2⟩=>?_);subst e1 e2;obtain rfl:v=A9 a:=r1;have dd:=dict s1.heap I1.kIn;refine⟨"dict", "dict.get",PySem.F.plainAttrs_dict,G8,PySem.F.type_dict_get,dd.typeIs,λb q=>?_,?_⟩;cases q;obtain⟨ob,_,_,h1,h2,_⟩:=dd;exact⟨ob,h1,h2.2.1⟩
 . have hA:=(iK he lL hs) W pins s1 Z H1 (λus M=>match us with|[u]=>(∃k,u=.str k/\∀v,(∀(H:Hp) (ex:Addr->Prop),Rep X.K H ex ((t.lookup k).getD .non) v)->Q v M)|_=>False) I1 h;rw[hs] at hA ⊢;refine E2 rfl (GL ?_);refine thn hA λus s2 ⟨xs,M,U,r2,B⟩=>?_
   match xs,r2,B with
   | [y],.cons ry .nil,B=>
    obtain⟨k,ey,B⟩:=B;subst ey;obtain⟨tk,rfl⟩:=ry;have G:=dict s2.heap U.kIn;refine call_meetsIn G8 G.typeIs PySem.F.entry_dict_get (PySem.F.args_dict_get_2 _ _) (meets_dict_get (fI X.prog X.w) a (k:=(BZ k:Key)) (rO k tk) L) ⟨_,G.mapOf,?_⟩;rcases look k with⟨l1,l2⟩|⟨d,u,v,l1,l2,rv,rep⟩
    rw[l2];refine⟨.non,M,U.tok _,rfl,B .non λH ex=>?_⟩;rw[l1];rfl;rw[l2];refine⟨v,M,U.tok _,rv,B v λH ex=>?_⟩;rw[l1];exact rep H ex
end
section
variable {X:Cx} {RT Y old:Addr->Prop} {Z:Sg} {ZV:L2.St} {H:Hp} {s:Ac} {pins:List (Addr×Obj)} {Q:VK} {ux uy:V} {vx vy:Value} {x y:Vl}
theorem _root_.L2.EP.tk{u:Value}{B:Ac}(h:EP X pins ZV (λv H'=>Tk X.K H'->Q v H') u B):EP X pins ZV Q u B:=by obtain⟨v,H',l,r,q⟩:=h;exact⟨v,H',l,r,q (Inv.tk l)⟩
abbrev Wn(X:Cx)(RT Y old:Addr->Prop)(Z:Sg)(ZV:L2.St)(H:Hp)(Q:VK)(v:Vl):Prop:=∀u H',Tk X.K H'->Ro X.K RT Y old Z ZV H H' v u->Q u H'
theorem Wn.val{d:D}{u:V}(w:Wn X RT Y old Z ZV H Q (.cl d))(t:Tk X.K H)(h:∀ex,Rep X.K H ex d u):Q u H:=w u H t (Ro.cl (aL.refl H) (h _))
theorem Rv.int{i:Int}{u:V}(h:Rv X.K RT Y old Z ZV H x u)(e:x.d=.int i):u=.int i:=by unfold Rv at h;rw[e] at h;exact h
theorem Rv.str{i:Str}{u:V}(h:Rv X.K RT Y old Z ZV H x u)(e:x.d=.str i):u=.str i:=by unfold Rv at h;rw[e] at h;exact h
theorem Rv.bl{i:Bool}{u:V}(h:Rv X.K RT Y old Z ZV H x u)(e:x.d=.bl i):u=.bl i:=by unfold Rv at h;rw[e] at h;exact h
theorem Rv.non{u:V}(h:Rv X.K RT Y old Z ZV H x u)(e:x.d=.non):u=.non:=by unfold Rv at h;rw[e] at h;exact h
theorem Rv.tup{ds:List D}{u:V}(h:Rv X.K RT Y old Z ZV H x u)(e:x.d=.tup ds):∃a xs,u=.ref a/\SqT X.K H a xs/\Reps X.K H (exV RT Y old Z ZV x.pa x.al) ds xs:=by unfold Rv at h;rw[e] at h;exact h
theorem Rv.lst{ds:List D}{u:V}(h:Rv X.K RT Y old Z ZV H x u)(e:x.d=.lst ds):∃a xs,u=.ref a/\SqL X.K H a xs/\¬ exV RT Y old Z ZV x.pa x.al a/\Reps X.K H (exV RT Y old Z ZV x.pa x.al) ds xs:=by unfold Rv at h;rw[e] at h;exact h
theorem aIs:lim<=sizeLine:=by unfold lim;rw[BB];decide
theorem eT{n:Nat}(h:n<=lim):n<=sizeLine:=AC h aIs
theorem fK{ds:List D}{xs:List V}{pa:Bool}{al:List Nat}{K:Fg}(r:Reps K H (exV RT Y old Z ZV pa al) ds xs) :
 Reps K H (exV RT Y old Z ZV (pa&&!noLs ds) (if noLs ds=true then [] else al)) ds xs:=by by_cases l:noLs ds=true;exact Reps.free ds xs l r;rw[if_neg l];refine r.weak λa z=>z.mono (λB=>?_) λj q=>q;rw[B];simp[l]
noncomputable def aKU(K:Fg):R2:=λx y H Q=>∃l b xs zs,x=.ref l/\y=.ref b/\SqL K H l xs/\SqL K H b zs/\xs.length+zs.length<=sizeLine/\∀p,H p=none->Q (.ref p) (upd H p (.lst (xs++zs)))
theorem aFI:OpR X (Dc .Add) (aKU X.K):=by
 intro pins s ZV H x y v u Q I rx ry h;obtain⟨l,b,xs,zs,rfl,rfl,hH,hB,hz,q⟩:=h;cases rx;cases ry;obtain⟨G,r,pl,z⟩:=I.list hH;obtain⟨B,r2,q1,z2⟩:=I.list hB;obtain⟨⟨cls,dd,data,sl⟩,ho,hc,n,hd⟩:=pl.isList;obtain⟨⟨q3,q0,W,q2⟩,U,L,n2,M⟩:=q1.isList;simp only at hc hd L M;subst hc hd L M;have e:G.toArray++B.toArray=(G++B).toArray:=by simp
 have hl:=r.length;have q4:=r2.length;refine Gc ⟨_,ho,rfl⟩ ⟨_,U,rfl⟩ noFill_list_add seq_list_add PySem.F.slot_list_add PySem.F.entry_list_add (PySem.F.args_list_add_2 _ _) (list_addW l b G.toArray B.toArray n n2 dd q0 sl q2 (by rw[Af,Af];omega)) ⟨ho,U,?_⟩;rw[e];exact⟨.ref _,_,I.lnew (t':=s.toks) (r.append r2) (by rw[lA];omega),rfl,q _ I.fresh⟩
theorem aFJ(x:Str):Str.rep x 1=x:=by unfold Str.rep;cases x;simp
theorem aBM(x:Str)(h:x.length=0)(k:Nat):Str.rep x k=x:=by
 have l:x.cps=#[]:=by unfold J6 at h;exact Array.eq_empty_of_size_eq_zero h
 have go:∀k,(Aj k x.cps).foldl (·++·) #[]=#[]:=by
  intro k;rw[l]
  induction k with
  | zero=>rfl|succ k q=>rw[B4,BS];simpa using q
 unfold Str.rep;rw[go k];cases x;simp at l;rw[l]
theorem zK(x:Str)(k:Nat):(⟨(Aj k x.cps).foldl (·++·) #[]⟩:Str).length=x.length*k:=by
 have go:∀(k:Nat) (acc:Array Nat),((Aj k x.cps).foldl (·++·) acc).size=acc.size+x.cps.size*k:=by
  intro k
  induction k with
  | zero=>intro acc;simp|succ k l=>intro acc;rw[B4,BS,l,Ii,Nat.mul_succ];omega
 show((Aj k x.cps).foldl (·++·) #[]).size=x.cps.size*k;rw[go];simp
theorem aFK:OpR X (Dc .Mult) (λx y H Q=>∃a k,x=.str a/\y=.int k/\aJ k=true/\a.length*k.toNat<=lim/\Q (.str (Str.rep a k.toNat)) H):=by
 intro pins s ZV H x y v u Q I rx ry h;obtain⟨a,k,rfl,rfl,B,M,q⟩:=h;obtain⟨t,rfl⟩:=rx;obtain⟨t',rfl⟩:=ry;unfold aJ at B;simp only[bA,Aq] at B;have h1:-(2 ^ 62:Int)<=k:=B.1;have h2:k<(2 ^ 62:Int):=B.2;have U:decide (k < -(2 ^ 63:Int))=false:=Az (by omega);have W:decide (k ≥ (2 ^ 63:Int))=false:=Az (by omega);have l:∀z:Str,z=Str.rep a k.toNat->∀tk,EP X pins ZV Q (.str z tk) { s with toks:=s.toks+1 }:=λz e tk=>by subst e;exact⟨.str _,H,I.tok _,⟨_,rfl⟩,q⟩
 refine P.mul_str (by rw[U,W];rfl) (λn1 n2 z=>?_) (λn1 n2=>?_) ?_;have k1:1<=k:=by omega
 have z1:(a.length:Int)*k<=(lim:Int):=by
  have L:((k.toNat:Nat):Int)=k:=by omega
  have:=Int.ofNat_le.mpr M;rw[EV] at this;rw[<-L]
  exact_mod_cast this
 have z2:(2 ^ 63-1:Int) / k<a.length:=z;have z3:(2 ^ 63-1:Int)<a.length*k:=Int.lt_mul_of_ediv_lt (by omega) z2;have z4:(lim:Int)=1000000:=rfl;omega;unfold Ll;have:=eT M;exact Az (by omega);split;rename_i hn;have:k.toNat=0:=by omega
 refine⟨by decide,?_⟩;exact l _ (by rw[this];rfl) _;split;rename_i hn G;have hz:Str.rep a k.toNat=a:=by rcases Bool.or_eq_true_iff.mp G with z|z;have:k=1:=eq_of_beq z;subst this;exact aFJ a;exact aBM a (eq_of_beq z) _
 exact⟨.str a,H,I,⟨_,rfl⟩,by rw[hz] at q;exact q⟩;refine⟨?_,l _ rfl _⟩;have:=eT M;rw[zK];exact this
noncomputable def aIt(K:Fg):R2:=λx y H Q=>∃a b xs ys,x=.ref a/\y=.ref b/\SqT K H a xs/\SqT K H b ys/\xs.length+ys.length<=sizeLine /\
 (xs=[]->Q (.ref b) H)/\(xs≠[]->ys=[]->Q (.ref a) H)/\(xs≠[]->ys≠[]->∀p,H p=none->Q (.ref p) (upd H p (.tup (xs++ys))))
theorem aDh:OpR X (Dc .Add) (aIt X.K):=by
 intro pins s Z H x y v u Q I rx ry h;obtain⟨a,b,xs,ys,rfl,rfl,ha,hb,hz,q0,q1,q2⟩:=h;by_cases G:xs=[]
 cases rx;cases ry;obtain⟨L,r1,p1,_⟩:=I.tuple ha;obtain⟨M,r2,p2,_⟩:=I.tuple hb;obtain⟨⟨cls,dd,data,sl⟩,ho,hc,n,hd⟩:=id p1;obtain⟨⟨q4,W,U,q3⟩,B,l,n2,q⟩:=id p2;simp only at hc hd l q;subst hc hd l q;have hi:L=[]:=r1.nil_iff.mpr G;exact Gc ⟨_,ho,rfl⟩ ⟨_,B,rfl⟩ FQ Hk E1 Er (Ej _ _)
  (tuple_addW0 a b L.toArray M.toArray n n2 dd W sl q3 (by simp[hi])) ⟨ho,B,⟨.ref b,H,I,rfl,q0 G⟩⟩
 exact aFw pins s Z H _ _ v u Q I rx ry ⟨a,b,xs,ys,rfl,rfl,ha,hb,G,hz,q1 G,q2 G⟩
theorem aDi{o:Operator}(I:Inv X pins ZV H s)(S:Sx X.K RT Y old Z ZV H)(rx:bG ux vx)(ry:bG uy vy)(M:Rv X.K RT Y old Z ZV H x ux)(U:Rv X.K RT Y old Z ZV H y uy)
 (q6:x.fr=true->∃a xs,ux=.ref a/\H a=some (.lst xs)) (h:RE (opD o x y) (Wn X RT Y old Z ZV H Q)):Al (A6 X.prog X.w) X.A (Dc o vx vy) (EP X pins ZV Q) X.xe s:=by
 have t:=Inv.tk I;have go:∀{f:Value->Value->KJ Value} {r:R2},OpR X f r->(r ux uy H λv H'=>Tk X.K H'->Q v H')->Al (A6 X.prog X.w) X.A (f vx vy) (EP X pins ZV Q) X.xe s:=λhr q=>thn (hr pins s ZV H ux uy vx vy _ I rx ry q) λu s' z=>EP.tk z;cases o with
 | Add=>have h:RE (aIn x y) (Wn X RT Y old Z ZV H Q):=h;unfold aIn at h;split at h;rename_i i j B G;exact go aHU ⟨i,j,M.int B,U.int G,λ_=>h.val t λ_=>rfl⟩;rename_i i j B G;obtain⟨c,h⟩:=h.iff;exact go yY ⟨i,j,M.str B,U.str G,eT (of_decide_eq_true c),λ_=>Wn.val h t λ_=>rfl⟩;rename_i as bs B G;obtain⟨c,h⟩:=h.iff;obtain⟨a,xs,e1,q1,W⟩:=M.tup B;obtain⟨b,ys,e2,q2,r2⟩:=U.tup G;have l1:=W.length;have l2:=r2.length;have c':=of_decide_eq_true c;have q4:Reps X.K H (exV RT Y old Z ZV (x.pa||y.pa) (x.al++y.al)) as xs:=W.weak λa z=>z.mono (λL=>by rw[L];rfl) λj hj=>AS _ hj;have q5:Reps X.K H (exV RT Y old Z ZV (x.pa||y.pa) (x.al++y.al)) bs ys:=r2.weak λa z=>z.mono (λL=>by rw[L,Ij]) λj hj=>AB _ hj;refine go aDh ⟨a,b,xs,ys,e1,e2,q1,q2,eT (by omega),λz t'=>?_,λz z' t'=>?_,λz z' p L t'=>?_⟩;subst z;have:as=[]:=Dv.mp (by simpa using l1);subst this;exact h _ _ t' (Ro.plain (aL.refl H) rfl ⟨b,ys,rfl,q2,q5⟩);subst z';have:bs=[]:=Dv.mp (by simpa using l2);subst this;exact h _ _ t' (Ro.plain (aL.refl H) rfl ⟨a,xs,rfl,q1,by rw[AV];exact q4⟩);exact h _ _ t' (Ro.tup L rfl rfl (q4.append q5));rename_i as bs B G;obtain⟨c,h⟩:=h.iff;obtain⟨a,xs,e1,q1,_,W⟩:=M.lst B;obtain⟨b,ys,e2,q2,_,r2⟩:=U.lst G;have l1:=W.length;have l2:=r2.length;have c':=of_decide_eq_true c;refine go aFI ⟨a,b,xs,ys,e1,e2,q1,q2,eT (by omega),λp L t'=>h _ _ t' (Ro.fresh L t' rfl rfl S ?_)⟩;refine Reps.append ((fK W).weak λa z=>z.mono (λL=>?_) λj hj=>AS _ hj) ((fK r2).weak λa z=>z.mono (λL=>?_) λj hj=>AB _ hj);show(_||_)=true;rw[L];rfl;show(_||_)=true;rw[L,Ij];exact h.elim|Mult=>
  have h:RE (aIo x y) (Wn X RT Y old Z ZV H Q):=h;unfold aIo at h;split at h;rename_i i j B G;obtain⟨c,h⟩:=h.iff;refine go aHW ⟨i,j,M.int B,U.int G,?_,λ_=>Wn.val h t λ_=>rfl⟩;simp only[mZ,BG,bA,Aq] at c;exact c;rename_i i j B G;obtain⟨c,h⟩:=h.iff;simp only[bA,Aq] at c;exact go aFK ⟨i,j,M.str B,U.int G,c.1,c.2,λ_=>Wn.val h t λ_=>rfl⟩;rename_i as k B G;obtain⟨c,h⟩:=h.iff;simp only[bA,Aq] at c;obtain⟨a,xs,e1,q1,_,W⟩:=M.lst B;obtain⟨a',q8,q0,q3⟩:=q6 c.1.1.1;rw[e1] at q0;cases q0;have e3:xs=q8:=I.list_inj q1 (SqL.of q3);subst e3;have l1:=W.length;have hk:=c.1.1.2;unfold aJ at hk;simp only[bA,Aq] at hk;have q9:=hk.1;have q7:=hk.2;refine go aIj ⟨a,k,xs,e1,U.int G,q3,by omega,by omega,eT (by rw[<-l1];exact c.1.2),λp L t'=>h _ _ t' (Ro.fresh L t' rfl rfl S ?_)⟩;exact Reps.flat (Reps.free as xs c.2 W) _;rename_i as k B G;obtain⟨c,h⟩:=h.iff;simp only[bA,Aq,Cb,List.isEmpty_eq_false_iff] at c;obtain⟨⟨⟨⟨c1,c2⟩,c3⟩,c4⟩,c5⟩:=c;obtain⟨a,xs,e1,q1,W⟩:=M.tup B;have l1:=W.length;unfold aJ at c2;simp only[bA,Aq] at c2;have q7:=c2.2;have r2:=Reps.flat (Reps.free (ex':=exV RT Y old Z ZV false []) as xs c5 W) k.toNat;refine go aFF ⟨a,k,xs,e1,U.int G,q1,λz=>c3 (Dv.mp (by rw[l1,z];rfl)),c1,by omega,eT (by rw[<-l1];exact c4),λz t'=>?_,λ_ p L t'=>h _ _ t' (Ro.tup L rfl rfl r2)⟩;subst z;have e:∀{α:Type} (l:List α),(Aj (1:Int).toNat l).flatten=l:=λl=>by simp
  rw[e] at h;rw[e,e] at r2;exact h _ _ t' (Ro.cl (aL.refl H) ⟨a,xs,rfl,q1,r2⟩);exact h.elim
 | Sub=>dsimp only[opD,wJ] at h;split at h;rename_i i j B G;exact go aHV ⟨i,j,M.int B,U.int G,λ_=>h.val t λ_=>rfl⟩;exact h.elim|FloorDiv=>dsimp only[opD,wJ] at h;split at h;rename_i i j B G;obtain⟨c,h⟩:=h.iff;refine go aFm ⟨i,j,M.int B,U.int G,?_,λ_=>Wn.val h t λ_=>rfl⟩;simp only[aAD,bA,Aq] at c;exact c;exact h.elim|Mod=>dsimp only[opD,wJ] at h;split at h;rename_i i j B G;obtain⟨c,h⟩:=h.iff;exact go aHX ⟨i,j,M.int B,U.int G,of_decide_eq_true c,λ_=>Wn.val h t λ_=>rfl⟩;exact h.elim|Pow=>dsimp only[opD,wJ] at h;split at h;rename_i i j B G;obtain⟨c,h⟩:=h.iff;refine go aHY ⟨i,j,M.int B,U.int G,?_,λ_=>Wn.val h t λ_=>rfl⟩;simp only[aHa,bA,Aq] at c;exact⟨c.1.1,by omega,c.2⟩;exact h.elim|_=>exact h.elim
end
end Hp
namespace Hp
open PySem PySem.Spec PyProof.Rows L2 PySem.SeqAt
noncomputable def gU(n:Nat)(ds es:List D)(j:Nat):Bool:=match ds[j]?,es[j]? with|some x,some y=>(eqF n x y).getD false|_,_=>false
theorem aAF:∀{n:Nat} {ds es:List D} {k:Bool},eP n ds es=some k->∀{j:Nat} {x y:D},ds[j]? = some x->es[j]? = some y->∃b,eqF n x y=some b
 | n,[],es,k,h,j,x,y,e1,e2=>by simp at e1|n,d::ds,[],k,h,j,x,y,e1,e2=>by simp at e2|n,d::ds,e::es,k,h,j,x,y,e1,e2=>by
  rw[eP] at h;cases l:eqF n d e with
  | none=>rw[l] at h;simp at h|some b=>
   cases q:eP n ds es with
   | none=>rw[l,q] at h;simp at h|some B=>
    cases j with
    | zero=>simp at e1 e2;subst e1 e2;exact⟨b,l⟩|succ j=>exact aAF q (by simpa using e1) (by simpa using e2)
theorem pB:∀{n:Nat} {ds es:List D} {k:Bool},eP n ds es=some k->k=((AF (min ds.length es.length)).all (gU n ds es)&&ds.length==es.length)
 | n,[],[],k,h=>by simp[eP] at h;simp[<-h]|n,[],e::es,k,h=>by simp[eP] at h;simp[<-h]|n,d::ds,[],k,h=>by simp[eP] at h;simp[<-h]|n,d::ds,e::es,k,h=>by
  rw[eP] at h;cases l:eqF n d e with
  | none=>rw[l] at h;simp at h|some b=>
   cases B:eP n ds es with
   | none=>rw[l,B] at h;simp at h|some G=>
    rw[l,B] at h;have L:(b&&G)=k:=As h;have U:=pB B;have I:gU n (d::ds) (e::es) 0=b:=by simp[gU,l]
    have q:∀j,gU n (d::ds) (e::es) (j+1)=gU n ds es j:=λj=>by simp[gU]
    have M:min (d::ds).length (e::es).length=min ds.length es.length+1:=by simp only[lC];omega
    rw[M,E5,EJ,I,Go];have:(gU n (d::ds) (e::es))∘Nat.succ=gU n ds es:=funext λj=>q j;rw[this,<-L,U];simp[Bool.and_assoc]
section
variable {X:Cx} {ZV:L2.St} {H:Hp} {s:Ac} {pins:List (Addr×Obj)}
theorem _root_.L2.Inv.lt_ne(I:L2.Inv X pins ZV H s){a:Addr}{xs ys:List V}(q:SqL X.K H a xs)(B:SqT X.K H a ys):False:=by obtain⟨G,_,pl,_⟩:=I.list q;obtain⟨l,_,pt,_⟩:=I.tuple B;exact ne_of_list_tuple pl.isList (show s.heap.IsTuple a l.toArray from pt) rfl
theorem aDj{n:Nat}{ds:List (D×D)}{e:D}{k:Bool}(h:eqF (n+1) (.dic ds) e=some k):False:=by unfold eqF at h;split at h <;> first|(cases h;done)|(rename_i l q;cases l;done)|(rename_i l;cases l;done)
mutual
theorem uA(I:L2.Inv X pins ZV H s):∀(n:Nat) (d e:D) (u:V) (k:Bool) (ex ex':Addr->Prop),Rep X.K H ex d u->Rep X.K H ex' e u->eqF n d e=some k->k=true
 | 0,d,e,u,k,_,_,_,_,h=>by simp[eqF] at h|n+1,.non,e,u,k,_,_,h1,h2,h=>by
  rw[show u=.non from h1] at h2;cases e with
  | non=>simpa[eqF] using h.symm|tup ds=>obtain⟨a,xs,z,_⟩:=h2;cases z|lst ds=>obtain⟨a,xs,z,_⟩:=h2;cases z|dic ds=>obtain⟨a,xs,z,_⟩:=h2;cases z|err _ _=>exact h2.elim|bl b=>cases(show V.non=.bl b from h2)|int b=>cases(show V.non=.int b from h2)|str b=>cases(show V.non=.str b from h2)
 | n+1,.bl b,e,u,k,_,_,h1,h2,h=>by
  rw[show u=.bl b from h1] at h2;cases e with
  | bl l=>cases(show V.bl b=.bl l from h2);simpa[eqF] using h.symm|tup ds=>obtain⟨a,xs,z,_⟩:=h2;cases z|lst ds=>obtain⟨a,xs,z,_⟩:=h2;cases z|dic ds=>obtain⟨a,xs,z,_⟩:=h2;cases z|err _ _=>exact h2.elim|non=>cases(show V.bl b=.non from h2)|int l=>cases(show V.bl b=.int l from h2)|str l=>cases(show V.bl b=.str l from h2)
 | n+1,.int b,e,u,k,_,_,h1,h2,h=>by
  rw[show u=.int b from h1] at h2;cases e with
  | int l=>cases(show V.int b=.int l from h2);simpa[eqF] using h.symm|tup ds=>obtain⟨a,xs,z,_⟩:=h2;cases z|lst ds=>obtain⟨a,xs,z,_⟩:=h2;cases z|dic ds=>obtain⟨a,xs,z,_⟩:=h2;cases z|err _ _=>exact h2.elim|non=>cases(show V.int b=.non from h2)|bl l=>cases(show V.int b=.bl l from h2)|str l=>cases(show V.int b=.str l from h2)
 | n+1,.str b,e,u,k,_,_,h1,h2,h=>by
  rw[show u=.str b from h1] at h2;cases e with
  | str l=>cases(show V.str b=.str l from h2);simpa[eqF] using h.symm|tup ds=>obtain⟨a,xs,z,_⟩:=h2;cases z|lst ds=>obtain⟨a,xs,z,_⟩:=h2;cases z|dic ds=>obtain⟨a,xs,z,_⟩:=h2;cases z|err _ _=>exact h2.elim|non=>cases(show V.str b=.non from h2)|bl l=>cases(show V.str b=.bl l from h2)|int l=>cases(show V.str b=.int l from h2)
 | n+1,.tup ds,e,u,k,ex,ex',h1,h2,h=>by
  obtain⟨a,xs,z,q,r⟩:=h1;subst z;cases e with
  | tup es=>obtain⟨L,ys,z,B,G⟩:=h2;cases z;have:xs=ys:=I.tuple_inj q B;subst this;exact eqs_same I n ds es xs k ex ex' r G (by simpa[eqF] using h)|lst es=>obtain⟨L,ys,z,B,_,G⟩:=h2;cases z;exact(I.lt_ne B q).elim|dic ds=>simp[eqF] at h|err _ _=>exact h2.elim|non=>cases(show V.ref a=.non from h2)|bl l=>cases(show V.ref a=.bl l from h2)|int l=>cases(show V.ref a=.int l from h2)|str l=>cases(show V.ref a=.str l from h2)
 | n+1,.lst ds,e,u,k,ex,ex',h1,h2,h=>by
  obtain⟨a,xs,z,q,_,r⟩:=h1;subst z;cases e with
  | lst es=>obtain⟨L,ys,z,B,_,G⟩:=h2;cases z;have:xs=ys:=I.list_inj q B;subst this;have M:ds.length=es.length:=r.length.trans G.length.symm;exact eqs_same I n ds es xs k ex ex' r G (by simpa[eqF,M] using h)|tup es=>obtain⟨L,ys,z,B,G⟩:=h2;cases z;exact(I.lt_ne q B).elim|dic ds=>simp[eqF] at h|err _ _=>exact h2.elim|non=>cases(show V.ref a=.non from h2)|bl l=>cases(show V.ref a=.bl l from h2)|int l=>cases(show V.ref a=.int l from h2)|str l=>cases(show V.ref a=.str l from h2)
 | n+1,.dic ds,e,u,k,ex,ex',h1,h2,h=>by exact(aDj h).elim|n+1,.err _ _,e,u,k,ex,ex',h1,h2,h=>h1.elim
theorem eqs_same(I:L2.Inv X pins ZV H s):∀(n:Nat) (ds es:List D) (us:List V) (k:Bool) (ex ex':Addr->Prop),Reps X.K H ex ds us->Reps X.K H ex' es us->eP n ds es=some k->k=true
 | n,[],[],us,k,_,_,h1,h2,h=>by simpa[eP] using h.symm|n,[],e::es,us,k,_,_,h1,h2,h=>by obtain⟨x,r,z,_⟩:=h2;rw[show us=[] from h1] at z;cases z|n,d::ds,[],us,k,_,_,h1,h2,h=>by obtain⟨x,r,z,_⟩:=h1;rw[show us=[] from h2] at z;cases z|n,d::ds,e::es,us,k,ex,ex',h1,h2,h=>by
  obtain⟨x,r,z,a1,b1⟩:=h1;obtain⟨x',r',B,G,M⟩:=h2;rw[z] at B;cases B;rw[eP] at h;cases l:eqF n d e with
  | none=>rw[l] at h;simp at h|some b=>
   cases q:eP n ds es with
   | none=>rw[l,q] at h;simp at h|some L=>rw[l,q] at h;have U:=uA I n d e x b ex ex' a1 G l;have W:=eqs_same I n ds es r L ex ex' b1 M q;subst U W;simpa using h.symm
end
noncomputable def Eq3(A:AQ)(s:Ac)(v z:Value)(k:Bool):Prop:=EqAt A s v z k/\RcAt A s v z k/\RcNeAt A s v z (!k)
theorem aAG{xs:List V}{us:List Value}(r:aO xs us){j:Nat}(h:j<us.toArray.size):∃x,xs[j]? = some x/\bG x us.toArray[j]:=by
 have G:=r.length;have l:j<xs.length:=by rw[Af] at h;omega
 obtain⟨u,e,q⟩:=r.get (Ae l);refine⟨xs[j],Ae l,?_⟩;have:us.toArray[j]=u:=by
  have B:us[j]? = some us.toArray[j]:=by simp[Ae (show j<us.length by simpa using h)]
  rw[B] at e;exact As e
 rw[this];exact q
theorem aBN(A:AQ):A.in1.units=A.units+1:=rfl
theorem aFL(I:L2.Inv X pins ZV H s):∀(n:Nat) (A:AQ) (d e:D) (u w:V) (v z:Value) (k:Bool) (ex ex':Addr->Prop),A.units+n<Dz->Rep X.K H ex d u->Rep X.K H ex' e w->bG u v->bG w z->eqF n d e=some k->Eq3 A s v z k:=by
 intro n
 induction n with
 | zero=>intro A d e u w v z k ex ex' _ _ _ _ _ h;simp[eqF] at h|succ n ih=>
  intro A d e u w v z k ex ex' hA h1 M r1 G h;have B:A.units<Dz:=by omega
  have items:∀{ds es:List D} {xs ys:List V} {L U:List Value} {k:Bool},Reps X.K H ex ds xs->Reps X.K H ex' es ys->aO xs L->aO ys U->eP n ds es=some k ->
   ∀j (_:j<L.toArray.size) (_:j<U.toArray.size),EqAt A.in1 s L.toArray[j] U.toArray[j] (gU n ds es j):=by
   intro ds es xs ys L U k q1 q2 v1 v2 hk j w3 w4;obtain⟨x,q9,rx⟩:=aAG v1 w3;obtain⟨y,w1,ry⟩:=aAG v2 w4;obtain⟨d',ed,rd⟩:=q1.get' q9;obtain⟨e',ee,re⟩:=q2.get' w1;obtain⟨b,hb⟩:=aAF hk ed ee;have hj:gU n ds es j=b:=by simp[gU,ed,ee,hb]
   rw[hj];exact(ih A.in1 d' e' x y _ _ b ex ex' (by rw[aBN];omega) rd re rx ry hb).1
  cases d with
  | err _ _=>exact h1.elim|dic ds=>exact(aDj h).elim|non=>
   rw[show u=.non from h1] at r1;cases r1;cases e with
   | err _ _=>exact M.elim|dic _=>simp[eqF] at h|non=>rw[show w=.non from M] at G;cases G;simp[eqF] at h;subst h;exact⟨EqAt.same _,RcAt.none_none,RcNeAt.none_none⟩|bl b=>rw[show w=.bl b from M] at G;cases G;simp[eqF] at h;subst h;exact⟨EqAt.none_bool _,RcAt.none_bool _,RcNeAt.none_bool _⟩|int b=>rw[show w=.int b from M] at G;obtain⟨t,rfl⟩:=G;simp[eqF] at h;subst h;exact⟨EqAt.none_int _ _,RcAt.none_int _ _,RcNeAt.none_int _ _⟩|str b=>rw[show w=.str b from M] at G;obtain⟨t,rfl⟩:=G;simp[eqF] at h;subst h;exact⟨EqAt.none_str _ _,RcAt.none_str _ _,RcNeAt.none_str _ _⟩|tup es=>obtain⟨b,ys,rfl,q,r⟩:=M;cases G;obtain⟨L,_,p,_⟩:=I.tuple q;simp[eqF] at h;subst h;exact⟨EqAt.none_tuple (show s.heap.IsTuple b L.toArray from p) B,RcAt.none_tuple (show s.heap.IsTuple b L.toArray from p) B,RcNeAt.none_tuple (show s.heap.IsTuple b L.toArray from p) B⟩|lst es=>obtain⟨b,ys,rfl,q,_,r⟩:=M;cases G;obtain⟨L,_,p,_⟩:=I.list q;simp[eqF] at h;subst h;exact⟨EqAt.none_list p.isList B,RcAt.none_list p.isList B,RcNeAt.none_list p.isList B⟩
  | bl a=>
   rw[show u=.bl a from h1] at r1;cases r1;cases e with
   | err _ _=>exact M.elim|dic _=>simp[eqF] at h|non=>rw[show w=.non from M] at G;cases G;simp[eqF] at h;subst h;exact⟨EqAt.bool_none _,RcAt.bool_none _,RcNeAt.bool_none _⟩|bl b=>rw[show w=.bl b from M] at G;cases G;simp only[eqF,Dg] at h;subst h;exact⟨EqAt.bool_bool _ _,RcAt.bool_bool _ _,RcNeAt.bool_bool _ _⟩|int b=>rw[show w=.int b from M] at G;obtain⟨t,rfl⟩:=G;simp only[eqF,Dg] at h;subst h;exact⟨EqAt.bool_int _ _ _,RcAt.bool_int _ _ _,RcNeAt.bool_int _ _ _⟩|str b=>rw[show w=.str b from M] at G;obtain⟨t,rfl⟩:=G;simp[eqF] at h;subst h;exact⟨EqAt.bool_str _ _ _,RcAt.bool_str _ _ _,RcNeAt.bool_str _ _ _⟩|tup es=>obtain⟨b,ys,rfl,q,r⟩:=M;cases G;obtain⟨L,_,p,_⟩:=I.tuple q;simp[eqF] at h;subst h;exact⟨EqAt.bool_tuple _ (show s.heap.IsTuple b L.toArray from p) B,RcAt.bool_tuple _ (show s.heap.IsTuple b L.toArray from p) B,RcNeAt.bool_tuple _ (show s.heap.IsTuple b L.toArray from p) B⟩|lst es=>obtain⟨b,ys,rfl,q,_,r⟩:=M;cases G;obtain⟨L,_,p,_⟩:=I.list q;simp[eqF] at h;subst h;exact⟨EqAt.bool_list _ p.isList B,RcAt.bool_list _ p.isList B,RcNeAt.bool_list _ p.isList B⟩
  | int a=>
   rw[show u=.int a from h1] at r1;obtain⟨t1,rfl⟩:=r1;cases e with
   | err _ _=>exact M.elim|dic _=>simp[eqF] at h|non=>rw[show w=.non from M] at G;cases G;simp[eqF] at h;subst h;exact⟨EqAt.int_none _ _,RcAt.int_none _ _,RcNeAt.int_none _ _⟩|bl b=>rw[show w=.bl b from M] at G;cases G;simp only[eqF,Dg] at h;subst h;exact⟨EqAt.int_bool _ _ _,RcAt.int_bool _ _ _,RcNeAt.int_bool _ _ _⟩|int b=>rw[show w=.int b from M] at G;obtain⟨t,rfl⟩:=G;simp only[eqF,Dg] at h;subst h;exact⟨EqAt.int_int _ _ _ _,RcAt.int_int _ _ _ _,RcNeAt.int_int _ _ _ _⟩|str b=>rw[show w=.str b from M] at G;obtain⟨t,rfl⟩:=G;simp[eqF] at h;subst h;exact⟨EqAt.int_str _ _ _ _,RcAt.int_str _ _ _ _,RcNeAt.int_str _ _ _ _⟩|tup es=>obtain⟨b,ys,rfl,q,r⟩:=M;cases G;obtain⟨L,_,p,_⟩:=I.tuple q;simp[eqF] at h;subst h;exact⟨EqAt.int_tuple _ _ (show s.heap.IsTuple b L.toArray from p) B,RcAt.int_tuple _ _ (show s.heap.IsTuple b L.toArray from p) B,RcNeAt.int_tuple _ _ (show s.heap.IsTuple b L.toArray from p) B⟩|lst es=>obtain⟨b,ys,rfl,q,_,r⟩:=M;cases G;obtain⟨L,_,p,_⟩:=I.list q;simp[eqF] at h;subst h;exact⟨EqAt.int_list _ _ p.isList B,RcAt.int_list _ _ p.isList B,RcNeAt.int_list _ _ p.isList B⟩
  | str a=>
   rw[show u=.str a from h1] at r1;obtain⟨t1,rfl⟩:=r1;cases e with
   | err _ _=>exact M.elim|dic _=>simp[eqF] at h|non=>rw[show w=.non from M] at G;cases G;simp[eqF] at h;subst h;exact⟨EqAt.str_none _ _,RcAt.str_none _ _,RcNeAt.str_none _ _⟩|bl b=>rw[show w=.bl b from M] at G;cases G;simp[eqF] at h;subst h;exact⟨EqAt.str_bool _ _ _,RcAt.str_bool _ _ _,RcNeAt.str_bool _ _ _⟩|int b=>rw[show w=.int b from M] at G;obtain⟨t,rfl⟩:=G;simp[eqF] at h;subst h;exact⟨EqAt.str_int _ _ _ _,RcAt.str_int _ _ _ _,RcNeAt.str_int _ _ _ _⟩|str b=>rw[show w=.str b from M] at G;obtain⟨t,rfl⟩:=G;simp only[eqF,Dg] at h;subst h;exact⟨EqAt.str_str _ _ _ _,RcAt.str_str _ _ _ _,RcNeAt.str_str _ _ _ _⟩|tup es=>obtain⟨b,ys,rfl,q,r⟩:=M;cases G;obtain⟨L,_,p,_⟩:=I.tuple q;simp[eqF] at h;subst h;exact⟨EqAt.str_tuple _ _ (show s.heap.IsTuple b L.toArray from p) B,RcAt.str_tuple _ _ (show s.heap.IsTuple b L.toArray from p) B,RcNeAt.str_tuple _ _ (show s.heap.IsTuple b L.toArray from p) B⟩|lst es=>obtain⟨b,ys,rfl,q,_,r⟩:=M;cases G;obtain⟨L,_,p,_⟩:=I.list q;simp[eqF] at h;subst h;exact⟨EqAt.str_list _ _ p.isList B,RcAt.str_list _ _ p.isList B,RcNeAt.str_list _ _ p.isList B⟩
  | tup ds=>
   have q6:=h1;obtain⟨a,xs,rfl,q1,q3⟩:=h1;cases r1;obtain⟨q0,v1,p1,_⟩:=I.tuple q1;have l:s.heap.IsTuple a q0.toArray:=p1;cases e with
   | err _ _=>exact M.elim|dic _=>simp[eqF] at h|non=>rw[show w=.non from M] at G;cases G;simp[eqF] at h;subst h;exact⟨EqAt.tuple_none l B,RcAt.tuple_none l B,RcNeAt.tuple_none l B⟩|bl b=>rw[show w=.bl b from M] at G;cases G;simp[eqF] at h;subst h;exact⟨EqAt.tuple_bool _ l B,RcAt.tuple_bool _ l B,RcNeAt.tuple_bool _ l B⟩|int b=>rw[show w=.int b from M] at G;obtain⟨t,rfl⟩:=G;simp[eqF] at h;subst h;exact⟨EqAt.tuple_int _ _ l B,RcAt.tuple_int _ _ l B,RcNeAt.tuple_int _ _ l B⟩|str b=>rw[show w=.str b from M] at G;obtain⟨t,rfl⟩:=G;simp[eqF] at h;subst h;exact⟨EqAt.tuple_str _ _ l B,RcAt.tuple_str _ _ l B,RcNeAt.tuple_str _ _ l B⟩|tup es=>
    have q7:=M;obtain⟨b,ys,rfl,q2,W⟩:=M;cases G;obtain⟨U,v2,p2,_⟩:=I.tuple q2;have hk:eP n ds es=some k:=by simpa[eqF] using h
    have hv:=pB hk;have l1:q0.toArray.size=ds.length:=by rw[Af,<-v1.length,q3.length]
    have l2:U.toArray.size=es.length:=by rw[Af,<-v2.length,W.length]
    have rc:RcAt A s (.ref a) (.ref b) k:=by rw[hv,<-l1,<-l2];exact RcAt.tuples l (show s.heap.IsTuple b U.toArray from p2) B (items q3 W v1 v2 hk)
    have rn:RcNeAt A s (.ref a) (.ref b) (!k):=by rw[hv,<-l1,<-l2];exact RcNeAt.tuples l (show s.heap.IsTuple b U.toArray from p2) B (items q3 W v1 v2 hk)
    refine⟨?_,rc,rn⟩;by_cases q5:a=b;subst q5;have:=uA I (n+1) (.tup ds) (.tup es) (.ref a) k ex ex' q6 q7 h;subst this;exact EqAt.same _;exact EqAt.of_refs q5 rc
   | lst es=>obtain⟨b,ys,rfl,q2,_,W⟩:=M;cases G;obtain⟨U,v2,p2,_⟩:=I.list q2;simp[eqF] at h;subst h;exact⟨EqAt.tuple_list l p2.isList B,RcAt.tuple_list l p2.isList B,RcNeAt.tuple_list l p2.isList B⟩
  | lst ds=>
   have q6:=h1;obtain⟨a,xs,rfl,q1,_,q3⟩:=h1;cases r1;obtain⟨q0,v1,p1,_⟩:=I.list q1;have l:=p1.isList;cases e with
   | err _ _=>exact M.elim|dic _=>simp[eqF] at h|non=>rw[show w=.non from M] at G;cases G;simp[eqF] at h;subst h;exact⟨EqAt.list_none l B,RcAt.list_none l B,RcNeAt.list_none l B⟩|bl b=>rw[show w=.bl b from M] at G;cases G;simp[eqF] at h;subst h;exact⟨EqAt.list_bool _ l B,RcAt.list_bool _ l B,RcNeAt.list_bool _ l B⟩|int b=>rw[show w=.int b from M] at G;obtain⟨t,rfl⟩:=G;simp[eqF] at h;subst h;exact⟨EqAt.list_int _ _ l B,RcAt.list_int _ _ l B,RcNeAt.list_int _ _ l B⟩|str b=>rw[show w=.str b from M] at G;obtain⟨t,rfl⟩:=G;simp[eqF] at h;subst h;exact⟨EqAt.list_str _ _ l B,RcAt.list_str _ _ l B,RcNeAt.list_str _ _ l B⟩|lst es=>
    have q7:=M;obtain⟨b,ys,rfl,q2,_,W⟩:=M;cases G;obtain⟨U,v2,p2,_⟩:=I.list q2;have l1:q0.toArray.size=ds.length:=by rw[Af,<-v1.length,q3.length]
    have l2:U.toArray.size=es.length:=by rw[Af,<-v2.length,W.length]
    have q4:RcAt A s (.ref a) (.ref b) k/\RcNeAt A s (.ref a) (.ref b) (!k):=by
     by_cases hl:ds.length=es.length;have hk:eP n ds es=some k:=by simpa[eqF,hl] using h
     have hv:=pB hk;rw[<-hl,Nat.min_self,beq_self_eq_true,DF,<-l1] at hv;rw[hv];exact⟨RcAt.lists l p2.isList (by rw[l1,l2,hl]) B (items q3 W v1 v2 hk),RcNeAt.lists l p2.isList (by rw[l1,l2,hl]) B (items q3 W v1 v2 hk)⟩;have hk:k=false:=by simpa[eqF,hl] using h.symm
     subst hk;have hz:(q0.toArray.size != U.toArray.size)=true:=by rw[l1,l2];simpa using hl
     exact⟨RcAt.lists_lengths l p2.isList hz B,RcNeAt.lists_lengths l p2.isList hz B⟩
    refine⟨?_,q4.1,q4.2⟩;by_cases q5:a=b;subst q5;have:=uA I (n+1) (.lst ds) (.lst es) (.ref a) k ex ex' q6 q7 h;subst this;exact EqAt.same _;exact EqAt.of_refs q5 q4.1
   | tup es=>obtain⟨b,ys,rfl,q2,W⟩:=M;cases G;obtain⟨U,v2,p2,_⟩:=I.tuple q2;have q8:s.heap.IsTuple b U.toArray:=p2;simp[eqF] at h;subst h;exact⟨EqAt.list_tuple l q8 B,RcAt.list_tuple l q8 B,RcNeAt.list_tuple l q8 B⟩
end
section
variable {X:Cx} {RT Y old:Addr->Prop} {Z:Sg} {ZV:L2.St} {H:Hp} {s:Ac} {pins:List (Addr×Obj)} {Q:VK} {ux uy:V} {vx vy:Value} {x y:Vl}
theorem aBO{o:CmpOp}{k:Bool}{M:L2.St}(I:L2.Inv X pins ZV H s)(hA:X.A.units+200<Dz)(rx:bG ux vx)(ry:bG uy vy)(l:Rv X.K RT Y old Z M H x ux)(L:Rv X.K RT Y old Z M H y uy)
 (h:bU o x.d y.d=some k) (q:Q (.bl k) H):Al (A6 X.prog X.w) X.A (BX o vx vy) (EP X pins ZV Q) X.xe s:=by
 have hu:X.A.units<Dz:=by omega
 have U:EP X pins ZV Q (.bool k) s:=⟨.bl k,H,I,rfl,q⟩
 have hD:tW=120:=rfl;have go:∀{f:Value->Value->KJ Value} {r:R2},OpR X f r->r ux uy H Q->Al (A6 X.prog X.w) X.A (f vx vy) (EP X pins ZV Q) X.xe s:=λhr q=>hr pins s ZV H ux uy vx vy Q I rx ry q;have e3:∀{b:Bool},eqD x.d y.d=some b->Eq3 X.A s vx vy b:=λ{b} hb=>aFL I tW X.A x.d y.d ux uy vx vy b _ _ (by omega) l L rx ry hb;cases o with
 | Eq=>exact(e3 h).2.1 X.prog X.w X.xe _ U|NotEq=>simp only[bU,B1] at h;obtain⟨b,hb,e⟩:=h;subst e;exact(e3 hb).2.2 X.prog X.w X.xe _ U|Lt=>simp only[bU] at h;unfold ltD at h;split at h;rename_i a b B G;exact go aKs ⟨a,b,l.int B,L.int G,by show Q (.bl (decide (a<b))) H;rw[As h];exact q⟩;cases h|Gt=>simp only[bU] at h;split at h;rename_i a b B G;exact go aKu ⟨a,b,l.int B,L.int G,by show Q (.bl (decide (b<a))) H;rw[As h];exact q⟩;cases h|LtE=>simp only[bU] at h;unfold leD at h;split at h;rename_i a b B G;exact go aKt ⟨a,b,l.int B,L.int G,by show Q (.bl (decide (a<=b))) H;rw[As h];exact q⟩;cases h|GtE=>simp only[bU] at h;split at h;rename_i a b B G;exact go aKv ⟨a,b,l.int B,L.int G,by show Q (.bl (decide (b<=a))) H;rw[As h];exact q⟩;cases h|Is=>
  simp only[bU] at h;split at h;rename_i G;refine go aHZ ⟨L.non G,?_⟩;have:decide (ux=V.non)=k:=by
   rw[<-As h];unfold isNone;split;rename_i B;rw[l.non B];simp;rename_i B;refine Az λz=>?_;rw[z] at l;unfold Rv at l;cases W:x.d with
   | non=>exact B W|_=>rw[W] at l;first|(obtain⟨a,xs,z',_⟩:=l;cases z')|exact l.elim|injection l
  rw[this];exact q;cases h
 | IsNot=>
  simp only[bU] at h;split at h;rename_i G;refine go aFn ⟨L.non G,?_⟩;have:(!decide (ux=V.non))=k:=by
   rw[<-As h];unfold isNone;split;rename_i B;rw[l.non B];simp;rename_i B;rw[Az λz=>?_];rw[z] at l;unfold Rv at l;cases W:x.d with
   | non=>exact B W|_=>rw[W] at l;first|(obtain⟨a,xs,z',_⟩:=l;cases z')|exact l.elim|injection l
  rw[this];exact q;cases h
 | In=>simp only[bU] at h;unfold inD at h;split at h;rename_i a b B G;exact go aBE ⟨a,b,l.str B,L.str G,by rw[show(!(Du b a 0 b.length 1).isEmpty)=k from As h];exact q⟩;cases h|NotIn=>simp only[bU,B1] at h;obtain⟨k',h,ek⟩:=h;subst ek;unfold inD at h;split at h;rename_i a b B G;exact go tP ⟨a,b,l.str B,L.str G,by rw[show(!(Du b a 0 b.length 1).isEmpty)=k' from As h];exact q⟩;cases h
end
end Hp
namespace Hp
open PySem PySem.Spec PyProof.Rows L2
section
variable {X:Cx} {RT Y old:Addr->Prop} {Z:Sg} {ZV:L2.St} {H:Hp} {s:Ac} {pins:List (Addr×Obj)} {Q:VK} {ux uy:V} {vx vy:Value} {x y:Vl}
theorem uB(n:Nat)(k:Int):Hp.ixN n k=L2.ixN n k:=rfl
theorem Rv.ofSub{d:D}{u:V}(h:Rep X.K H (exV RT Y old Z ZV x.pa x.al) d u):Ro X.K RT Y old Z ZV H H (x.sub d) u:=by refine Ro.plain (aL.refl H) ?_ (Rv.sub (ds:=[]) (xs:=[]) (j:=0) h);unfold Vl.sub Vl.cl;split <;> rfl
theorem aBP(t:Tk X.K H)(L:Rv X.K RT Y old Z ZV H x ux)(M:Rv X.K RT Y old Z ZV H y uy)(h:RE (cP x y) (Wn X RT Y old Z ZV H Q)):rIx X.K ux uy H (λv H'=>Tk X.K H'->Q v H'):=by
 unfold cP at h;split at h;rename_i ds k B G;obtain⟨a,xs,e,q,_,r⟩:=L.lst B;cases l:Hp.ixN ds.length k with
 | none=>rw[l] at h;exact h.elim|some j=>
  rw[l] at h;cases hd:ds[j]? with
  | none=>simp only[hd] at h;exact h.elim|some d=>simp only[hd] at h;obtain⟨v,I,rv⟩:=r.get hd;refine .inl ⟨a,xs,k,v,e,M.int G,q,?_,λt'=>h v H t' (Rv.ofSub rv)⟩;unfold atI;rw[<-r.length,<-uB,l];exact I
 rename_i ds k B G;obtain⟨a,xs,e,q,r⟩:=L.tup B;cases l:Hp.ixN ds.length k with
 | none=>rw[l] at h;exact h.elim|some j=>
  rw[l] at h;cases hd:ds[j]? with
  | none=>simp only[hd] at h;exact h.elim|some d=>simp only[hd] at h;obtain⟨v,I,rv⟩:=r.get hd;refine .inr (.inl ⟨a,xs,k,v,e,M.int G,q,?_,λt'=>h v H t' (Rv.ofSub rv)⟩);unfold atI;rw[<-r.length,<-uB,l];exact I
 rename_i z k B G;obtain⟨c,h⟩:=h.iff;have U:=of_decide_eq_true c;cases l:Hp.ixN z.length k with
 | none=>rw[l] at h;exact h.elim|some j=>
  rw[l] at h;cases hd:z.cps.toList[j]? with
  | none=>simp only[hd] at h;exact h.elim|some c=>
   simp only[hd] at h;refine .inr (.inr ⟨z,k,c,L.str B,M.int G,eT U,?_,λt'=>Wn.val h t' λ_=>rfl⟩);unfold atI;have W:z.cps.toList.length=z.length:=by simp[J6]
   rw[W,<-uB,l];exact hd
 exact h.elim
theorem uC(n d:Nat)(o:Option Int):Hp.sIx n d o=HT.sIx n d o:=by cases o <;> rfl
theorem wQ{K:Fg}{ex:Addr->Prop}{ds:List D}{xs:List V}(r:Reps K H ex ds xs)(lo hi:Option Int):Reps K H ex (cut ds lo hi) (vU xs lo hi):=by unfold cut vU;rw[uC,uC,r.length];exact(r.drop _).take _
theorem jD{prog:A0}{w:AN}{A:AQ}{E:Value->Ac->Prop}{t sl:Addr}{items:Array Value}{M U:Value}{lo hi:Option Int}{Q:Value->Ac->Prop}(l:IsTup s.heap t items)(hs:s.heap.IsSliceOf sl M U .none)(pl:Ge M lo)(pu:Ge U hi)
 (L:HT.sIx items.size 0 lo=0/\HT.sIx items.size items.size hi=items.size) (h:Q (.ref t) s):Al (A6 prog w) A (Gf (.ref t) (.ref sl)) Q E s:=by
 obtain⟨os,I,G,W⟩:=id hs;have B:s.TypeIs (.ref sl) "slice" := ⟨os,I,G⟩
 unfold Gf
 try with_reducible refine Br ?_
 first|refine Aa (Ad ?_)|skip
 refine Aa (HX l.typeIs (by decide) ?_);refine Aa (Bl (name:=Dd "__getitem__") l.typeIs Bt
  (Bb Bt l.typeIs He ?_ (HA _ _)))
 show Al _ _ (DP (.ref t) >>= _) _ _ s;refine Aa (Ka l ?_);refine Aa (De B ?_);rw[if_pos (by decide)];refine Aa (HT.sliceApplied_gen hs pl pu ?_);have q:(((HT.sIx items.size 0 lo:Nat):Int)==0&&(1:Int)==1&&(HT.sIx items.size items.size hi-HT.sIx items.size 0 lo)==items.size)=true:=by rw[L.1,L.2];simp
 show Al _ _ (if (((HT.sIx items.size 0 lo:Nat):Int)==0&&(1:Int)==1&&(HT.sIx items.size items.size hi-HT.sIx items.size 0 lo)==items.size)=true then _ else _) _ _ s;rw[if_pos q];unfold JB;refine Aa (Aa (De l.typeIs (Ad ?_)));rw[if_pos (beq_self_eq_true _)];exact Aa (Cq (Ad ⟨_,rfl,Ad h⟩))
noncomputable def wR(K:Fg):V->Option Int->Option Int->Hp->VK->Prop:=λx lo hi H Q=>∃a xs,x=.ref a/\SqT K H a xs/\(HT.sIx xs.length 0 lo=0/\HT.sIx xs.length xs.length hi=xs.length)/\Q (.ref a) H
theorem aFM:SlR X (wR X.K):=by
 intro pins s Z H x v vl vu lo hi sl Q I W hs pl U h;obtain⟨a,xs,rfl,M,L,q⟩:=h;cases W;obtain⟨B,r,G,hz⟩:=I.tuple M;have l:B.toArray.size=xs.length:=by rw[Af];exact r.length.symm
 refine⟨"tuple",_,Bt.lookup,G.typeIs,?_⟩;exact jD G hs pl U (by rw[l];exact L) ⟨.ref a,H,I,rfl,q⟩
theorem aIu:SlR X (λx lo hi H Q=>aCR X.K x lo hi H Q\/aCP X.K x lo hi H Q\/wR X.K x lo hi H Q\/aDg x lo hi H Q):=aFy.or (aId.or (aFM.or aIr))
theorem aBQ{α:Type}{xs:List α}{lo hi:Option Int}(l:Hp.sIx xs.length 0 lo=0)(q:Hp.sIx xs.length xs.length hi=xs.length):cut xs lo hi=xs:=by unfold cut;rw[l,q,E6,Gp,Bn]
theorem aBR{lo hi:Option Int}(S:Sx X.K RT Y old Z ZV H)(t:Tk X.K H)(I:Rv X.K RT Y old Z ZV H x ux)(h:RE (dM x lo hi) (Wn X RT Y old Z ZV H Q)) :
 aCR X.K ux lo hi H (λv H'=>Tk X.K H'->Q v H')\/aCP X.K ux lo hi H (λv H'=>Tk X.K H'->Q v H')\/wR X.K ux lo hi H (λv H'=>Tk X.K H'->Q v H')\/aDg ux lo hi H (λv H'=>Tk X.K H'->Q v H'):=by
 unfold dM at h;split at h;rename_i ds l;obtain⟨a,xs,e,q,_,r⟩:=I.lst l;refine .inl ⟨a,xs,e,q,λp G t'=>h _ _ t' (Ro.fresh G t' rfl rfl S ?_)⟩;exact wQ (fK r) lo hi;rename_i ds l;obtain⟨a,xs,e,q,r⟩:=I.tup l;have L:=fK r;by_cases B:HT.sIx xs.length 0 lo=0/\HT.sIx xs.length xs.length hi=xs.length;refine .inr (.inr (.inl ⟨a,xs,e,q,B,λt'=>h _ _ t' (Ro.plain (aL.refl H) rfl ?_)⟩));have M:cut ds lo hi=ds:=aBQ (by rw[uC,r.length];exact B.1) (by rw[uC,r.length];exact B.2);unfold Rv;show Rep X.K H _ (.tup (cut ds lo hi)) (.ref a);rw[M];exact⟨a,xs,rfl,q,L⟩;exact .inr (.inl ⟨a,xs,e,q,B,λp G t'=>h _ _ t' (Ro.tup G rfl rfl (wQ L lo hi))⟩);rename_i a l;obtain⟨U,h⟩:=h.iff;have e:ux=.str a:=by have z:=I;unfold Rv at z;rw[l] at z;exact z
 exact .inr (.inr (.inr ⟨a,e,eT (of_decide_eq_true U),λt'=>h _ _ t' (Ro.cl (aL.refl H) rfl)⟩));exact h.elim
noncomputable def rBi(X:Cx)(b:Bi):List V->Hp->VK->Prop:=match b with|.len=>λxs H Q=>(∃p ys,xs=[.ref p]/\(SqL X.K H p ys\/SqT X.K H p ys)/\Q (.int ys.length) H)\/∃z,xs=[.str z]/\z.length<=sizeLine/\Q (.int z.length) H|.list=>λxs H Q=>∃p ys,xs=[.ref p]/\(SqL X.K H p ys\/SqT X.K H p ys)/\∀l,H l=none->Q (.ref l) (upd H l (.lst ys))|.tuple=>λxs H Q=>∃p ys,xs=[.ref p]/\((SqL X.K H p ys/\∀l,H l=none->Q (.ref l) (upd H l (.tup ys)))\/(SqT X.K H p ys/\Q (.ref p) H))|_=>λ_ _ _=>False
noncomputable def aHi:Bi->Value
 | .len=>.builtin "len" | .list=>.type "list" | .tuple=>.type "tuple" | .min=>.builtin "min" | .max=>.builtin "max" | .abs=>.builtin "abs" | .int=>.type "int" | .str=>.type "str"
 | .all=>.builtin "all" | .any=>.builtin "any" | .sum=>.builtin "sum" | .sorted=>.builtin "sorted" | .bool=>.type "bool" | .repr=>.builtin "repr"
theorem aFN(q:X.calm=true)(B:X.A.guards=some [])(G:X.A.units+200<Dz)(b:Bi)(l:aDf b=true):gP X (aHi b) (rBi X b):=by
 cases b with
 | len=>exact tQ.or tR|list=>exact tS|tuple=>exact rK|_=>cases l
theorem aDk{b:Bi}(B:aDf b=true)(S:Sx X.K RT Y old Z ZV H){vs:List Vl}{us:List V}(U:Rvs X.K RT Y old Z ZV H vs us)(h:RE (biD b vs) (Wn X RT Y old Z ZV H Q)) :
 rBi X b us H (λv H'=>Tk X.K H'->Q v H'):=by
 unfold biD at h;split at h;rename_i x;obtain⟨u,r,e,G,L⟩:=U;rw[show r=[] from L] at e;subst e;cases b with
 | len=>dsimp only[aFG] at h;split at h;rename_i ds l;obtain⟨a,xs,e,q,_,r⟩:=G.lst l;exact .inl ⟨a,xs,by rw[e],.inl q,λt'=>by rw[<-r.length];exact Wn.val h t' λ_=>rfl⟩;rename_i ds l;obtain⟨a,xs,e,q,r⟩:=G.tup l;exact .inl ⟨a,xs,by rw[e],.inr q,λt'=>by rw[<-r.length];exact Wn.val h t' λ_=>rfl⟩;rename_i z l;obtain⟨c,h⟩:=h.iff;exact .inr ⟨z,by rw[G.str l],eT (of_decide_eq_true c),λt'=>Wn.val h t' λ_=>rfl⟩;exact h.elim|list=>dsimp only[aFG] at h;split at h;rename_i ds l;obtain⟨a,xs,e,q,_,r⟩:=G.lst l;exact⟨a,xs,by rw[e],.inl q,λp I t'=>h _ _ t' (Ro.fresh I t' rfl rfl S (fK r))⟩;rename_i ds l;obtain⟨a,xs,e,q,r⟩:=G.tup l;exact⟨a,xs,by rw[e],.inr q,λp I t'=>h _ _ t' (Ro.fresh I t' rfl rfl S (fK r))⟩;exact h.elim|tuple=>dsimp only[aFG] at h;split at h;rename_i ds l;obtain⟨a,xs,e,q,_,r⟩:=G.lst l;exact⟨a,xs,by rw[e],.inl ⟨q,λp I t'=>h _ _ t' (Ro.tup I rfl rfl (fK r))⟩⟩;rename_i ds l;obtain⟨a,xs,e,q,r⟩:=G.tup l;exact⟨a,xs,by rw[e],.inr ⟨q,λt'=>h _ _ t' (Ro.plain (aL.refl H) rfl ⟨a,xs,rfl,q,r⟩)⟩⟩;exact h.elim|abs=>cases B|int=>cases B|str=>cases B|all=>cases B|repr=>cases B|bool=>cases B|sum=>cases B|any=>cases B|sorted=>cases B|min=>exact h.elim|max=>exact h.elim
 rename_i x y;obtain⟨u,r,e,G,u',W,M,hy,L⟩:=U;rw[show W=[] from L] at M;subst M e;cases b <;> first|exact h.elim|cases B
 exact h.elim
noncomputable def wU:Cl->Option Value
 | .tInt=>some (.type "int")|.tBool=>some (.type "bool")|.tStr=>some (.type "str")|.tList=>some (.type "list")|.tTuple=>some (.type "tuple")|.tDict=>some (.type "dict")
 | _=>none
noncomputable def tyD:D->Option String
 | .non=>some "NoneType" | .bl _=>some "bool" | .int _=>some "int" | .str _=>some "str" | .tup _=>some "tuple" | .lst _=>some "list" | .dic _=>some "dict" | .err _ _=>none
theorem gE(K:Fg)(P:Pg){c:Cl}{B:Value}{d:D}{k:Bool}{T:String}(l:wU c=some B)(q:tyD d=some T)(h:isI [c] P d=some k):PySem.W.kitOne K (.type T) B=some k:=by
 cases c with
 | own c=>cases l|tValueError=>cases l|tInt=>cases l;cases d <;> cases q <;> simp[isI] at h <;> subst h <;> kernel_rfl|tBool=>cases l;cases d <;> cases q <;> simp[isI] at h <;> subst h <;> kernel_rfl|tStr=>cases l;cases d <;> cases q <;> simp[isI] at h <;> subst h <;> kernel_rfl|tList=>cases l;cases d <;> cases q <;> simp[isI] at h <;> subst h <;> kernel_rfl|tTuple=>cases l;cases d <;> cases q <;> simp[isI] at h <;> subst h <;> kernel_rfl|tDict=>cases l;cases d <;> cases q <;> simp[isI] at h <;> subst h <;> kernel_rfl
theorem aBS(P:Pg){c:Cl}{cv:Value}{k:Bool}(I:L2.Inv X pins ZV H s)(G:bG ux vx)(B:Rv X.K RT Y old Z ZV H x ux)(L:wU c=some cv)(h:isI [c] P x.d=some k)(q:Q (.bl k) H) :
 Al (A6 X.prog X.w) X.A (HE (.builtin "isinstance") [vx,cv]) (EP X pins ZV Q) X.xe s:=by
 have l:∀tk,EP X pins ZV Q (.bool k) { s with toks:=tk }:=λtk=>⟨.bl k,H,I.tok tk,rfl,q⟩
 cases d:x.d with
 | non=>have e:=gE X.K P L (by rw[d];rfl) h;rw[B.non d] at G;cases G;exact Da PySem.W.kitx_none I.kIn Gk e (λz=>nomatch z) l|bl b=>have e:=gE X.K P L (by rw[d];rfl) h;rw[B.bl d] at G;cases G;exact Da PySem.W.kitx_bool I.kIn Gk e (λz=>nomatch z) l|int i=>have e:=gE X.K P L (by rw[d];rfl) h;rw[B.int d] at G;obtain⟨t,rfl⟩:=G;exact Da PySem.W.kitx_int I.kIn Gk e (λz=>nomatch z) l|str z=>have e:=gE X.K P L (by rw[d];rfl) h;rw[B.str d] at G;obtain⟨t,rfl⟩:=G;exact Da PySem.W.kitx_str I.kIn Gk e (λz=>nomatch z) l|tup ds=>have e:=gE X.K P L (by rw[d];rfl) h;obtain⟨a,xs,M,p,_⟩:=B.tup d;subst M;cases G;obtain⟨q0,_,t,_⟩:=I.tuple p;obtain⟨o,U,W,_⟩:=t;exact Da PySem.W.kitx_tuple I.kIn ⟨o,U,W⟩ e (λz=>nomatch z) l|lst ds=>have e:=gE X.K P L (by rw[d];rfl) h;obtain⟨a,xs,M,p,_⟩:=B.lst d;subst M;cases G;obtain⟨q0,_,t,_⟩:=I.list p;obtain⟨o,n,U,W,_⟩:=t;exact Da PySem.W.kitx_list I.kIn ⟨o,U,W⟩ e (λz=>nomatch z) l|dic kvs=>
  have e:=gE X.K P L (by rw[d];rfl) h;unfold Rv at B;rw[d] at B;obtain⟨a,ks,M,p,_⟩:=B;subst M;cases G;obtain⟨_,_,vs,_,o,es,ep,U,W,_⟩:=(show eD X.prog X.w H s.heap a (.dK ks) from I.hok a _ p)
  exact Da PySem.W.kitx_dict I.kIn ⟨o,U,W.1⟩ e (λz=>nomatch z) l
 | err _ _=>unfold Rv at B;rw[d] at B;exact B.elim
end
end Hp
namespace L2
open PySem PySem.Spec PyProof.Rows
noncomputable def jE(cells:List (Str×Addr)):List (Str×C1)->List (Str×Addr)->List (Str×Addr)
 | [],acc=>acc|(n,k)::r,acc=>if k==.free then jE cells r ((n,(cells.lookup n).getD 0)::acc) else jE cells r acc
theorem clos_mem{cells:List (Str×Addr)}:∀{names:List (Str×C1)} {acc:List (Str×Addr)} {p:Str×Addr},p∈jE cells names acc->p∈acc\/((p.1,Bf)∈names/\p.2=(cells.lookup p.1).getD 0)
 | [],_,_,h=>.inl h|(n,k)::r,acc,p,h=>by unfold jE at h;by_cases l:(k==Bf)=true;rw[if_pos l] at h;rcases clos_mem h with q|q;rcases Au.mp q with q|q;subst q;have:k=.free:=eq_of_beq l;subst this;exact .inr ⟨Ak,rfl⟩;exact .inl q;exact .inr ⟨Ag _ q.1,q.2⟩;rw[if_neg l] at h;rcases clos_mem h with q|q;exact .inl q;exact .inr ⟨Ag _ q.1,q.2⟩
theorem pC{cells:List (Str×Addr)}:∀{names:List (Str×C1)} {acc:List (Str×Addr)} {p:Str×Addr},p∈acc->p∈jE cells names acc
 | [],_,_,h=>h|(n,k)::r,acc,p,h=>by unfold jE;by_cases l:(k==Bf)=true;rw[if_pos l];exact pC (Ag _ h);rw[if_neg l];exact pC h
theorem kJ{cells:List (Str×Addr)}:∀{names:List (Str×C1)} {acc:List (Str×Addr)} {n:Str},(n,Bf)∈names->(n,(cells.lookup n).getD 0)∈jE cells names acc
 | [],_,_,h=>by simp at h|(m,k)::r,acc,n,h=>by unfold jE;rcases Au.mp h with q|q;cases q;rw[if_pos (by rfl:(Bf==Bf)=true)];exact pC Ak;by_cases l:(k==Bf)=true;rw[if_pos l];exact kJ q;rw[if_neg l];exact kJ q
theorem eU{α:Type}:∀{l:List (Str×α)} {x:Str} {a:α},(x,a)∈l->∃b,l.lookup x=some b
 | (y,b)::r,x,a,h=>by
  rw[FS];cases B:x==y with
  | true=>exact⟨b,rfl⟩|false=>rcases Au.mp h with q|q;cases q;simp at B;exact eU q
theorem cF{cells:List (Str×Addr)}{names:List (Str×C1)}(B:∀n,(n,Bf)∈names->∃c,cells.lookup n=some c){x:Str}{c:Addr}(h:(jE cells names []).lookup x=some c):cells.lookup x=some c:=by
 rcases clos_mem (BM h) with q|⟨G,l⟩
 simp at q;obtain⟨I,e⟩:=B x G;simp only at l;rw[e] at l;rw[e,l];rfl
theorem gL{scope:DL}{env:JX}(M:∀n,(n,Bf)∈scope.names->∃c,env.cells.lookup n=some c):closureFor scope env=pure (jE env.cells scope.names []):=by
 have go:∀(l:List (Str×C1)) (acc:List (Str×Addr)),(∀n,(n,Bf)∈l->∃c,env.cells.lookup n=some c) ->
  (forIn l acc (λ(x:Str×C1) (r:List (Str×Addr))=>(match x with|(name,kind)=>if (kind==Bf)=true then do let __do_lift<-cellOf env name;pure (D9 ((name,__do_lift)::r)) else pure (D9 r):KJ (ForInStep (List (Str×Addr))))))=(pure (jE env.cells l acc):KJ (List (Str×Addr))):=by
  intro l
  induction l with
  | nil=>intro acc _;rfl|cons p r I=>
   intro acc q;obtain⟨n,k⟩:=p;rw[G6];unfold jE;by_cases G:(k==Bf)=true;have:k=.free:=eq_of_beq G;subst this;obtain⟨c,e⟩:=q n Ak;have L:cellOf env n=pure c:=by unfold cellOf;rw[e]
   simp only[beq_self_eq_true,if_true,L];rw[e];exact I _ λm B=>q m (Ag _ B);simp only[G,if_false];exact I _ λm B=>q m (Ag _ B)
 unfold closureFor;exact(bind_pure _).trans (go scope.names [] M)
section
variable {prog:A0} {w:AN} {A:AQ} {R:GI->Ac->Prop} {s:Ac}
theorem gW{elt l U:Aw}{q3:List Aw}{scope:DL}{pos:DK}{it acc:Value}{env:JX}(I:Nat->Ac->Prop)
 (q7:∀n s,I n s->Al (A6 prog w) A (Ex it) (λr q=>match r with
  | none=>R (.ok .next) q|some v=>Al (A6 prog w) A (EQ l it v) (λ_ B=>Al (A6 prog w) A (FZ l env v) (λ_ W=>
   Al (A6 prog w) A (forIn q3 true λc r=>if r=true then do let ok<-isTrue c env (DM c env);pure (D9 ok) else pure (D9 r)) (λok G=>
    if ok=true then Al (A6 prog w) A (DM elt env) (λx q0=>
     Al (A6 prog w) A (call (.builtin "list.append") [acc,x]) (λ_ q1=>∃m,m<n/\I m q1) (λ_ _=>False) q0) (λ_ _=>False) G
    else ∃m,m<n/\I m G) (λ_ _=>False) W) (λ_ _=>False) B) (λ_ _=>False) q) (λ_ _=>False) s)
 (n:Nat) (h:I n s) :
 EH (A6 prog w) A (.compLoop (.ListComp elt [⟨l,U,q3,0⟩] scope pos) 0 it acc env) R s:=by
 refine codeAny_loop rfl I (λn s hI=>?_) n h;show Al _ A ((compTurn (.ListComp elt [⟨l,U,q3,0⟩] scope pos) 0 it acc env).onRaise (λx=>do noteFrame x env;theTreesLotGoes x)) _ _ s;refine wpAny_noted ?_;rw[compTurn_list];refine Aa (Hi (Aa (CQ (q7 n s hI) (λr q L=>?_) λ_ _ h'=>h'.elim)));cases r with
 | none=>exact Ad L|some v=>
  refine Aa (CQ L (λ_ B q2=>?_) λ_ _ h'=>h'.elim);refine Aa (CQ q2 (λ_ W q4=>Aa (CQ q4 (λok G M=>?_) λ_ _ h'=>h'.elim)) λ_ _ h'=>h'.elim);cases ok with
  | false=>exact Ad ⟨rfl,M⟩|true=>exact Aa (Aa (CQ M (λx q0 q5=>Aa (CQ q5 (λ_ q1 q6=>Ad (Ad ⟨rfl,q6⟩)) λ_ _ h'=>h'.elim)) λ_ _ h'=>h'.elim))
end
noncomputable def dN(X:Cx)(scope:DL)(N':List Str)(C:Addr)(s₀:Ac)(H₀:Hp)(ex:List Addr):Cx:=
 { X with env:=KW scope (jE X.env.cells scope.names []) C X.env,N:=N',s₀:=s₀,H₀:=H₀,outer:=X.stack,ex:=ex,fn:=λ_=>false,pn:=[],xe:=λ_ _=>False }
noncomputable def PTs(X:Cx)(ifs:List Aw)(t:TT):Prop:=
 ∀(pins:List (Addr×Obj)) (s:Ac) (Z:St) (H:Hp) (Q:Bool->Hp->Prop),Inv X pins Z H s->t Z H Q ->
  Al (A6 X.prog X.w) X.A (forIn ifs true λc r=>if r=true then do let ok<-isTrue c X.env (DM c X.env);pure (D9 ok) else pure (D9 r)) (TP X pins Z Q) X.xe s
theorem aFO{X:Cx}:PTs X [] (λ_ H Q=>Q true H):=λpins s Z H Q I h=>Ad ⟨H,I,h⟩
theorem aFP{X:Cx}{c:Aw}{t:TT}(h:PT X c t):PTs X [c] t:=λpins s Z H Q I l=>wpAny_tests_one (h pins s Z H Q I l)
structure cT (X:Cx) (scope:DL) (k:Nat) (caps:List Nat) (N':List Str):Prop where
 kind:scope.kind=.function
 nocell:∀y∈scope.names,y.2≠.cell
 loc:∀y∈scope.names,y.2=.local->scope.names.lookup y.1=some .local
 free:∀n,(n,Bf)∈scope.names->X.env.kindOf n=some .cell\/X.env.kindOf n=some .free
 len:N'.length=k+caps.length
 cap:∀j i,caps[j]? = some i->∃x,N'[k+j]? = some x/\X.N[i]? = some x/\scope.names.lookup x=some .free/\X.env.kindOf x=some .cell
 ndp:X.N.Nodup
noncomputable def jP(k:Nat)(caps:List Nat)(Z:St):St:=Aj k none++caps.map λi=>(Z[i]?).getD none
noncomputable def aDl(k:Nat)(caps:List Nat)(wi:TI)(g:TG)(tt:TT)(te:TE):TE:=λZ H Q=>wi Z H λJ H1=>
 ∃W0:Nat->Nat->List V->St->Hp->Prop,(∃m,W0 0 m [] (jP k caps Z) H1)/\∀i m ys Z1 H,W0 i m ys Z1 H ->
  (J.stop i H/\ys.length<=sizeLine/\∀p,H p=none->Q (.ref p) (upd H p (.lst ys))) \/
  (J.go i H/\ys.length<sizeLine/\∀x H',J.yld i H x H'->g x Z1 H' λZ2 H2=>tt Z2 H2 λb H3=>
   if b=true then te Z2 H3 λy H4=>∃m',m'<m/\W0 (i+1) m' (ys++[y]) Z2 H4 else ∃m',m'<m/\W0 (i+1) m' ys Z2 H3)
theorem HOk.track{P:A0}{w:AN}{H:Hp}{h:Heap}{a:Addr}{o:HO}(ok:HOk P w H h)(n:H a=none)(new:eD P w (upd H a o) h a o):HOk P w (upd H a o) h:=λb u e=>by by_cases l:b=a;subst l;rw[bP] at e;cases e;exact new;rw[aM l] at e;exact(ok b u e).stay (λ_ _ _ q=>q) (λc q=>by rw[aM (bB q n)];exact q) λc xs q=>by rw[aM (bB q n)];exact q
abbrev dH(its:List Value)(n:Nat):Obj:={ cls:=.type "list",data:=.seq its.toArray n }
section
variable {X:Cx} {scope:DL} {k:Nat} {caps:List Nat} {N':List Str} {pins:List (Addr×Obj)} {Z:St} {H:Hp} {s:Ac} {fp:List Addr}
theorem Inv.cellLt(I:Inv X pins Z H s){x:Str}{c:Addr}(e:X.env.cells.lookup x=some c):c<s.heap.objs.size:=by obtain⟨v,q⟩:=I.cell x c e;exact q.lt
theorem fL:∀{l:List (Str×C1)} {x:Str} {k:C1},l.lookup x=some k->(x,k)∈l:=λh=>BM h
theorem relabel_lookup{env:JX}:∀{names:List (Str×C1)} {x:Str} {k:C1},
 (names.map λ(n,k)=>if (k==Bf&&env.scope.kind==.function&&env.kindOf n==some .cell) then (n,NameKind.cell) else (n,k)).lookup x=some k ->
 (k=.cell/\names.lookup x=some .free/\env.kindOf x=some .cell)\/names.lookup x=some k
 | [],_,_,h=>by simp at h|(n,k')::r,x,k,h=>by
  have B:=@relabel_lookup env r x k;rw[mC] at h;by_cases l:(k'==Bf&&env.scope.kind==.function&&env.kindOf n==some .cell)=true;simp only[l,if_true,FS] at h ⊢;cases q:x==n with
  | true=>rw[q] at h;simp only at h ⊢;simp only[bA] at l;have G:k'=.free:=eq_of_beq l.1.1;have I:env.kindOf n=some .cell:=eq_of_beq l.2;have L:x=n:=eq_of_beq q;subst L;cases h;exact .inl ⟨rfl,by rw[G],I⟩|false=>rw[q] at h;exact B h
  simp only[Bool.not_eq_true] at l;simp only[l,if_false,FS,bF] at h ⊢;cases q:x==n with
  | true=>rw[q] at h;exact .inr h|false=>rw[q] at h;exact B h
theorem aNt(G:cT X scope k caps N')(I:Inv X pins Z H s)(f:∀b∈fp,kB X pins H b)(hf:∀b∈fp,b<s.heap.objs.size) :
 (dN X scope N' (s.heap.objs.size+1) { s with heap:=s.heap.push (dH [] 0) } H (s.heap.objs.size::fp)).Ok:=by
 have L:∀n,(n,Bf)∈scope.names->∃c,X.env.cells.lookup n=some c:=λn hn=>I.ok.has n (G.free n hn);have U:∀b o,s.heap.get? b=some o->(s.heap.push (dH [] 0)).get? b=some o:=λb o e=>Ab _ e;have B:∀b∈frs X.stack,∃o,s.heap.get? b=some o:=λb l=>by obtain⟨_,o,ho,_⟩:=I.stack.mem l;exact⟨o,ho⟩
 refine⟨I.ok.mod,?_,I.ok.glob,I.ok.blt,?_,λx y c W h2=>?_,λx hx=>?_,λx c h _=>?_,I.ok.hd,I.ok.frames,.inl rfl,λb l=>?_,λb o e=>?_,?_,λb o e l=>?_,λb l=>?_,?_,I.stkFree⟩;exact G.kind;show(s.heap.push (dH [] 0)).objs.size<=s.heap.objs.size+1;rw[Cc];exact Ah _;exact I.ok.inj x y c (cF L W) (cF L h2);have fr:(x,Bf)∈scope.names:=by rcases hx with q|q;rcases relabel_lookup q with⟨_,z,_⟩|z;exact fL z;exact absurd rfl (G.nocell _ (fL z));rcases relabel_lookup q with⟨z,_⟩|z;cases z;exact fL z
 obtain⟨c,e⟩:=eU (kJ (cells:=X.env.cells) (acc:=[]) fr);exact⟨c,e⟩;cases(show false=true from h);refine⟨?_,λx c e=>?_⟩;show b≠s.heap.objs.size+1;rcases Au.mp l with z|z;rw[z];exact A4 (Cs _);exact A4 (B8 (hf b z));have M:=cF L e;rcases Au.mp l with z|z;rw[z];exact A4 (I.cellLt M);exact(f b z).2.2.2.2.1 x c M;exact⟨U b o (I.bs b o e).1,(I.bs b o e).2⟩;show X.base.objs.size<=(s.heap.push (dH [] 0)).objs.size;rw[Cc];exact Ik (AC I.ok.bsz I.sz);have lt:=Am e;rcases Au.mp l with z|z;subst z;exact absurd (AH lt (AC I.ok.bsz I.sz)) (AY _);rcases(f b z).2.2.2.1 with q|q;exact I.ok.noex b o e q;exact absurd (AH lt (AC I.ok.bsz q)) (AY _);show b∉frs X.stack;intro hs;rcases Au.mp l with z|z;subst z;obtain⟨o,e⟩:=B _ hs;exact absurd (Am e) (AY _);rcases Au.mp (I.stkSub b hs) with q|q;exact(f b z).2.1 q;exact(f b z).2.2.1 q;exact I.stack.of_keeps λb o e _=>⟨o,U b o e,rfl⟩
theorem aDm(G:cT X scope k caps N'){j:Nat}{v:V}(h:(jP k caps Z)[j]? = some (some v)):∃B i,j=k+B/\caps[B]? = some i/\Z[i]? = some (some v):=by
 unfold jP at h;by_cases l:j<k;rw[A5 (by simpa using l),C5] at h;split at h <;> cases h;rw[A1 (by simpa using l),Bk,A2] at h;cases e:caps[j-k]? with
 | none=>rw[e] at h;cases h|some i=>
  rw[e] at h;have h':(Z[i]?).getD none=some v:=As h;refine⟨j-k,i,by omega,e,?_⟩;cases q:Z[i]? with
  | none=>rw[q] at h';cases h'|some z=>rw[q] at h';exact congrArg some h'
theorem aKV(G:cT X scope k caps N')(I:Inv X pins Z H s)(f:∀b∈fp,kB X pins H b)(hf:∀b∈fp,b<s.heap.objs.size){l:Heap}{tk:Nat}
 (q0:l.Ns (s.heap.objs.size+1) λ_=>none) (hk:∀b o,(s.heap.push (dH [] 0)).get? b=some o->l.get? b=some o) :
 Inv (dN X scope N' (s.heap.objs.size+1) { s with heap:=s.heap.push (dH [] 0) } H (s.heap.objs.size::fp)) [] (jP k caps Z) H { s with heap:=l,toks:=tk }:=by
 have W:∀n,(n,Bf)∈scope.names->∃c,X.env.cells.lookup n=some c:=λn hn=>I.ok.has n (G.free n hn);have ge:∀b o,s.heap.get? b=some o->l.get? b=some o:=λb o e=>hk b o (Ab _ e);have B:∀{c:Addr} {v:Option Value},s.heap.IsCell c v->l.IsCell c v:=λ{c v} ⟨o,e,d⟩=>⟨o,ge _ _ e,d⟩
 refine⟨aNt G I f hf,rfl,I.bare,Un.kept hk,⟨_,q0,λj x v e1 e2 e3=>?_⟩,λx c e=>?_,?_,λx c e=>?_,λp hp=>absurd (show p∈([]:List (Addr×Obj)) from hp) (by simp),I.hok.kept ge,?_⟩;obtain⟨j',i,ej,ec,es⟩:=aDm G e2;obtain⟨y,h1,h2,h3,h4⟩:=G.cap j' i ec;have L:N'[j]? = some x:=e1;rw[ej,h1] at L;have ey:y=x:=As L;subst ey;obtain⟨m,hn,hl⟩:=I.loc;obtain⟨u,ru,lk⟩:=hl i y v h2 es (.inr (.inl h4));rcases lk with⟨k1,_⟩|⟨_,c,U,hc⟩
 rw[h4] at k1;cases k1;refine⟨u,ru,.inr ⟨?_,c,?_,B hc⟩⟩;have M:Vis (Jv scope X.env) y:=e3;rcases M with z|z|z;rcases relabel_lookup z with⟨z,_⟩|z;cases z;rw[h3] at z;cases z;exact .inl z;exact .inr z;obtain⟨c',e⟩:=eU (kJ (cells:=X.env.cells) (acc:=[]) (fL h3));have e':=cF W e;rw[U] at e';cases e';exact e;obtain⟨v,q⟩:=I.cell x c (cF W e);exact⟨v,B q⟩;exact I.hok.fresh (GO _);exact I.freeC x c (cF W e);show(jP k caps Z).length=N'.length;unfold jP;rw[lA,Bk,lM,G.len]
theorem wV{tg U elt:Aw}{q4:List Aw}{pos:DK}{g:TG}{tt:TT}{te:TE}{it:Addr}{tn:Nat->Heap->Prop}{J:It}{RR:Value->Addr->GI->Ac->Prop}{E:Value->Ac->Prop}{Q:VK}
 (CS:cT X scope k caps N') (hc:X.calm=true) (I:Inv X pins Z H s) (T:yT X.prog X.w X.K tg J fp it tn) (st:tn 0 s.heap) (f:∀b∈fp,kB X pins H b)
 (x2:∀C s₀ H₀ ex,PG (dN X scope N' C s₀ H₀ ex) tg g/\PTs (dN X scope N' C s₀ H₀ ex) q4 tt/\PE (dN X scope N' C s₀ H₀ ex) elt te)
 (hw:∃W0:Nat->Nat->List V->St->Hp->Prop,(∃m,W0 0 m [] (jP k caps Z) H)/\∀i m ys Z1 H,W0 i m ys Z1 H ->
  (J.stop i H/\ys.length<=sizeLine/\∀p,H p=none->Q (.ref p) (upd H p (.lst ys))) \/
  (J.go i H/\ys.length<sizeLine/\∀x H',J.yld i H x H'->g x Z1 H' λZ2 H2=>tt Z2 H2 λb H3=>
   if b=true then te Z2 H3 λy H4=>∃m',m'<m/\W0 (i+1) m' (ys++[y]) Z2 H4 else ∃m',m'<m/\W0 (i+1) m' ys Z2 H3))
 (hR:∀D C s' H' m,Inv X pins Z H' s'->s'.heap.Ns C m->s.heap.objs.size<C->(∀(Z':St) (q1:Ac) (h':Heap),Inv X pins Z' H' q1->CF C q1.heap h'->Inv X pins Z' H' { q1 with heap:=h' })->Q (.ref D) H'->RR (.ref D) C (.ok .next) s') :
 Al (A6 X.prog X.w) X.A (L5 []) (λacc z3=>Al (A6 X.prog X.w) X.A (newFunctionEnv scope X.env.globals (jE X.env.cells scope.names []) [] X.env.qual none .none (some X.env)) (λq5 z4=>
  EH (A6 X.prog X.w) X.A (.compStart (.ListComp elt [⟨tg,U,q4,0⟩] scope pos) 0 (.ref it) acc { q5 with scope:=Jv scope X.env }) (RR acc q5.locals) z4) E z3) E s:=by
 obtain⟨W0,⟨m0,w0⟩,z5⟩:=hw;have hf:∀b∈fp,b<s.heap.objs.size:=λb B=>by obtain⟨o,e,_⟩:=T.obj 0 _ st b B;exact Am e
 refine Bd (wpAny_newFunctionEnv CS.nocell (by intro y hy;simp at hy) (λG q2 q3=>?_) CS.kind);have hsz:(s.heap.push (dH [] 0)).objs.size=s.heap.objs.size+1:=Cc _ _;have x4:G.Ns (s.heap.objs.size+1) λ_=>none:=by have:=q2;rw[show({ s with heap:=s.heap.push (dH [] 0) }:Ac).heap.objs.size=s.heap.objs.size+1 from hsz] at this;exact this
 have hk:∀b o,(s.heap.push (dH [] 0)).get? b=some o->G.get? b=some o:=λb o e=>q3.extBut b o (A4 (by have:=Am e;rw[hsz] at this;show b<(s.heap.push (dH [] 0)).objs.size;rw[hsz];exact this)) (Ab _ e);have I0:=aKV (N':=N') CS I f hf (tk:=s.toks+([]:List (Str×Value)).length) x4 hk;have v1:∀{b:Addr},b<s.heap.objs.size->b≠s.heap.objs.size+1:=λ{b} B=>A4 (B8 B);have w9:H s.heap.objs.size=none:=I.fresh;have hh:∀n,(n,Bf)∈scope.names->∃c,X.env.cells.lookup n=some c:=λn hn=>I.ok.has n (CS.free n hn);have z9:G.get? s.heap.objs.size=some (dH [] 0):=hk _ _ (Ao _ rfl);have z2:∀b∈frs X.stack,b<s.heap.objs.size:=λb B=>by obtain⟨_,o,ho,_⟩:=I.stack.mem B;exact Am ho
 have q9:∀(pl:List (Addr×Obj)),(∀p∈pl,p.1=s.heap.objs.size)->∀{H':Hp},(∀b∈fp,H' b=none)->∀b∈fp,kB (dN X scope N' (s.heap.objs.size+1) { s with heap:=s.heap.push (dH [] 0) } H (s.heap.objs.size::fp)) pl H' b:=by
  intro pl x6 H' hn b B;refine⟨hn b B,v1 (hf b B),λz=>?_,.inl (Ag _ B),λx c e=>(f b B).2.2.2.2.1 x c (cF hh e),λp M z=>?_⟩;rcases Au.mp (I.stkSub b z) with q|q;exact(f b B).2.1 q;exact(f b B).2.2.1 q;have x5:p∈pl:=by simpa[dN] using M
  rw[x6 p x5] at z;exact absurd (hf b B) (by rw[<-z];exact AY _)
 have W:∀{Z':St} {H':Hp} {s':Ac} {l:List Value} {n:Nat} {pl:List (Addr×Obj)},Inv (dN X scope N' (s.heap.objs.size+1) { s with heap:=s.heap.push (dH [] 0) } H (s.heap.objs.size::fp)) pl Z' H' s' ->
  s'.heap.get? s.heap.objs.size=some (dH l n)->H' s.heap.objs.size=none->Inv (dN X scope N' (s.heap.objs.size+1) { s with heap:=s.heap.push (dH [] 0) } H (s.heap.objs.size::fp)) [(s.heap.objs.size,dH l n)] Z' H' s':=by
  intro Z' H' s' l n pl J e nn;refine J.pins_of λp M=>?_;have:p=(s.heap.objs.size,dH l n):=by simpa using M
  subst this;refine⟨e,nn,A4 (Cs _),λz=>absurd (z2 _ z) (AY _),λv z=>by cases z⟩
 have start:EH (A6 X.prog X.w) X.A (.compLoop (.ListComp elt [⟨tg,U,q4,0⟩] scope pos) 0 (.ref it) (.ref s.heap.objs.size) (KW scope (jE X.env.cells scope.names []) (s.heap.objs.size+1) X.env))
  (RR (.ref s.heap.objs.size) (s.heap.objs.size+1)) { s with heap:=G,toks:=s.toks+([]:List (Str×Value)).length }:=by
  refine gW (λn s'=>∃i ys l cnt Z1 H',Inv (dN X scope N' (s.heap.objs.size+1) { s with heap:=s.heap.push (dH [] 0) } H (s.heap.objs.size::fp)) [(s.heap.objs.size,dH l cnt)] Z1 H' s' /\
   tn i s'.heap/\(∀b∈fp,H' b=none)/\aO ys l/\W0 i n ys Z1 H') ?_ m0 ⟨0,[],[],0,_,H,W I0 z9 w9,T.keep _ _ _ st λb _ o e=>hk b o (Ab _ e),λb B=>(f b B).1,.nil,w0⟩
  rintro n s3 ⟨i,ys,l,cnt,Z1,H3,I3,z1,w6,q0,w3⟩;obtain⟨v2,v3,_⟩:=I3.pin (s.heap.objs.size,dH l cnt) (by simp[dN]);have w1:∀p∈[(s.heap.objs.size,dH l cnt)],p.1=s.heap.objs.size:=λp M=>by
   have:p=(s.heap.objs.size,dH l cnt):=by simpa using M
   rw[this]
  rcases z5 i n ys Z1 H3 w3 with⟨stop,hz,qn⟩|⟨go,hz,step⟩
  refine thn (T.done (dN X scope N' (s.heap.objs.size+1) { s with heap:=s.heap.push (dH [] 0) } H (s.heap.objs.size::fp)) rfl rfl rfl hc i _ s3 _ H3 _ I3 (q9 _ w1 w6) z1 stop) λr s4 ⟨hr,I4⟩=>?_;subst hr;obtain⟨x0,z0,_⟩:=I4.pin (s.heap.objs.size,dH l cnt) (by simp[dN]);have u4:=I4.base;have nb:∀{b:Addr} {o:Obj},s.heap.get? b=some o->b∉fp->b∉s.heap.objs.size::fp:=λ{b o} e B z=>by rcases Au.mp z with z|z;exact absurd (Am e) (by rw[z];exact AY _);exact B z
  have v0:∀{b:Addr} {o:Obj},s.heap.get? b=some o->b≠s.heap.objs.size:=λ{b o} e=>A4 (Am e);have w5:∀{b:Addr} {o:HO},H b=some o->b≠s.heap.objs.size:=λ{b o} e=>bB e w9;have u:Un (frs X.stack) fp H (upd H3 s.heap.objs.size (.lst ys)) s.heap s4.heap:={
   keep:=λb o e nn B hx=>u4.keep b o (Ab _ e) nn B (nb e hx)
   slot:=λb o e nn B hx=>u4.slot b o (Ab _ e) nn B (nb e hx)
   free:=λb o e nn hx=>by rw[aM (v0 e)];exact u4.free b o (Ab _ e) nn (nb e hx)
   there:=λb o e hx=>u4.there b o (Ab _ e) (nb e hx)
   tups:=λb xs e=>by rw[aM (w5 e)];exact u4.tups b xs e
   frzs:=λb o u e=>by rw[aM (w5 e)];exact u4.frzs b o u e
   tbls:=λb ps e=>by rw[aM (w5 e)];exact u4.tbls b ps e }
  have hl:=q0.length;have hok:HOk X.prog X.w (upd H3 s.heap.objs.size (.lst ys)) s4.heap:=HOk.track I4.hok z0 ⟨hz,l,cnt,q0,x0⟩;have I5:Inv X pins Z (upd H3 s.heap.objs.size (.lst ys)) s4:=I.call' I4.os u hok I4.bare λb B=>⟨(f b B).2.2.2.1,(f b B).2.1,(f b B).2.2.2.2.1,(f b B).2.2.2.2.2⟩
  obtain⟨m4,x3,_⟩:=I4.loc;refine hR s.heap.objs.size (s.heap.objs.size+1) s4 _ m4 I5 x3 (Cs _) (λZ' q1 h' I6 x7=>?_) (qn _ z0);have:=I6.turned (t':=q1.toks) (h':=h') (it:=s.heap.objs.size+1) (λb o B e=>x7.extBut b o B e) (by rw[aM (CH (Cs _))];exact I4.free)
   (CH (B8 I.lt)) (.inr (Ik I.sz)) (λx c e=>A4 (B8 (I.cellLt e))) λp M z=>?_
  exact this;have:=Am (I.pin p M).1;rw[z] at this;exact absurd this (Gm.mpr (GO _));refine thn (T.item (dN X scope N' (s.heap.objs.size+1) { s with heap:=s.heap.push (dH [] 0) } H (s.heap.objs.size::fp)) rfl rfl rfl hc i _ s3 _ H3 _ I3 (q9 _ w1 w6) z1 go) λr s4 ⟨u,hr,h4⟩=>?_;subst hr;refine thn h4 λ_ s5 ⟨x,H5,I5,r5,y5,w4,z8⟩=>?_;obtain⟨hg,ht,he⟩:=x2 (s.heap.objs.size+1) { s with heap:=s.heap.push (dH [] 0) } H (s.heap.objs.size::fp);have z7:=I5.pinned (q9 _ w1 z8) (T.obj _ _ w4);have keep:∀{Z7:St} {H7:Hp} {s7:Ac},Inv (dN X scope N' (s.heap.objs.size+1) { s with heap:=s.heap.push (dH [] 0) } H (s.heap.objs.size::fp)) ([(s.heap.objs.size,dH l cnt)]++oJ fp s5.heap) Z7 H7 s7 ->
   tn (i+1) s7.heap/\(∀b∈fp,H7 b=none)/\s7.heap.get? s.heap.objs.size=some (dH l cnt)/\H7 s.heap.objs.size=none:=by intro Z7 H7 s7 I7;obtain⟨x1,x9,_⟩:=I7.pin (s.heap.objs.size,dH l cnt) (by simp[dN]);refine⟨T.keep _ _ _ w4 λb B o e=>(I7.pin (b,o) (AB _ (AB _ (gC B e)))).1,λb B=>?_,x1,x9⟩;obtain⟨o,e,d⟩:=T.obj _ _ w4 b B;exact(I7.pin (b,o) (AB _ (AB _ (gC B e)))).2.1
  refine thn (hg _ s5 _ H5 x u _ z7 r5 (step x H5 y5)) λ_ s6 ⟨Z6,H6,I6,q6⟩=>?_;refine thn (ht _ s6 Z6 H6 _ I6 q6) λb s7 ⟨H7,I7,q7⟩=>?_;cases b with
  | false=>rw[if_neg bN] at q7 ⊢;obtain⟨m',hm,w7⟩:=q7;obtain⟨t7,f7,d7,n7⟩:=keep I7;exact⟨m',hm,i+1,ys,l,cnt,Z6,H7,W I7 d7 n7,t7,f7,q0,w7⟩|true=>
   rw[if_pos rfl] at q7 ⊢;refine thn (he _ s7 Z6 H7 _ I7 q7) λyv s8 ⟨y,H8,I8,r8,q8⟩=>?_;obtain⟨m',hm,w8⟩:=q8;obtain⟨t8,f8,d8,n8⟩:=keep I8;have hl:=q0.length;have x8:l.toArray.size<=sizeLine:=by rw[Af];omega
   refine DR HD ⟨_,d8,rfl⟩ Hf (GM _ _) (HZ s.heap.objs.size l.toArray cnt yv x8) ⟨d8,?_⟩;have q:=II d8 (λa=>a.push yv);have e':l.toArray.push yv=(l++[yv]).toArray:=by simp
   rw[e'] at q;have I9:=(I8.unpinned (pins:=[(s.heap.objs.size,dH l cnt)])).pins_of (pins':=[]) (λp M=>absurd M (by simp));have z6:=I9.turned (t':=s8.toks) (it:=s.heap.objs.size) (h':=s8.heap.update s.heap.objs.size (BD λa=>a.push yv)) (λb o B e=>(D6 s8.heap _ (DI B)).trans e) n8
    (A4 (Cs _)) (.inl Ak) (λx c e=>A4 (I.cellLt (cF hh e))) (λp M=>absurd (show p∈([]:List (Addr×Obj)) from by simpa[dN] using M) (by simp))
   refine⟨m',hm,i+1,ys++[y],l++[yv],_,Z6,H8,W z6 q n8,?_,f8,q0.append (.cons r8 .nil),w8⟩;refine T.keep _ _ _ t8 λb B o e=>(D6 s8.heap _ ?_).trans e;intro z;exact absurd (hf b B) (by rw[<-z];exact AY _)
 have L:∀C,C=s.heap.objs.size+1->EH (A6 X.prog X.w) X.A (.compLoop (.ListComp elt [⟨tg,U,q4,0⟩] scope pos) 0 (.ref it) (.ref s.heap.objs.size) (KW scope (jE X.env.cells scope.names []) C X.env))
  (RR (.ref s.heap.objs.size) C) { s with heap:=G,toks:=s.toks+([]:List (Str×Value)).length }:=by rintro C rfl;exact start
 exact codeAny_compStart_list (L _ hsz) (T.self X.A 0 _ _ _ (T.keep _ _ _ st λb _ o e=>hk b o (Ab _ e)) (L _ hsz))
end
section
variable {X:Cx} {scope:DL} {k:Nat} {caps:List Nat} {N':List Str} {tg iter elt:Aw} {ifs:List Aw} {pos:DK} {wi:TI} {g:TG} {tt:TT} {te:TE}
theorem aAH(B:cT X scope k caps N')(hc:X.calm=true)(hi:PI X tg iter wi)
 (G:∀C s₀ H₀ ex,PG (dN X scope N' C s₀ H₀ ex) tg g/\PTs (dN X scope N' C s₀ H₀ ex) ifs tt/\PE (dN X scope N' C s₀ H₀ ex) elt te) (hs:∀x,C4 iter X.env x=pure x) :
 PE X (.ListComp elt [⟨tg,iter,ifs,0⟩] scope pos) (aDl k caps wi g tt te):=by intro pins s Z H Q I h;rw[eval_ListComp];refine FJ (use:=none) rfl hs (gL λn L=>I.ok.has n (B.free n L)) B.kind B.loc (thn (hi pins s Z H _ I h) λxv s1 h1=>thn h1 λq0 s2 h2=>?_);obtain⟨it,fp,tn,J,H2,e,W,T,U,f2,hw⟩:=h2;subst e;exact wV (RR:=λacc C=>compPost (A6 X.prog X.w) X.A X.xe none (EP X pins Z Q) acc C) (Q:=Q) B hc W T U f2 G hw λD C s' H' m J L _ l q=>⟨m,L,λh' M=>⟨.ref D,H',l Z s' h' J M,rfl,q⟩⟩
theorem zL{i:Nat}{x:Str}{l B:DK}(G:cT X scope k caps N')(hc:X.calm=true)(hi:PI X tg iter wi)
 (M:∀C s₀ H₀ ex,PG (dN X scope N' C s₀ H₀ ex) tg g/\PTs (dN X scope N' C s₀ H₀ ex) ifs tt/\PE (dN X scope N' C s₀ H₀ ex) elt te) (hs:∀x,C4 iter X.env x=pure x)
 (hN:X.N.Nodup) (U:X.N[i]? = some x) (hx:Loc X.env.scope x) (hf:X.fn x=true\/X.env.scope.names.lookup x=some .local) :
 PS X (.Assign [.Name x l] (.ListComp elt [⟨tg,iter,ifs,0⟩] scope pos) B) (aFk (aDl k caps wi g tt te) (rQ i)):=by
 have hb:∃b,Kr (.ListComp elt [⟨tg,iter,ifs,0⟩] scope pos) (some (.Name x l)) B.line X.env=pure b:=⟨_,rfl⟩
 obtain⟨b,hb⟩:=hb;cases b with
 | false=>exact tK hN U hx (aAH G hc hi M hs) hb hf|true=>intro pins s Z H D I h;rw[exec_Assign_Name_used x l _ B hb];refine Aa (Hi (Aa ?_));show Al _ _ (comprehension (.ListComp elt [⟨tg,iter,ifs,0⟩] scope pos) scope X.env (firstIterPos [⟨tg,iter,ifs,0⟩] pos) (L5 []) (firstAsync [⟨tg,iter,ifs,0⟩]) (firstIter [⟨tg,iter,ifs,0⟩] X.env) (some (FZ (.Name x l) X.env)) >>= λ_=>pure ()) _ _ s;refine Aa (FJ (use:=some (FZ (.Name x l) X.env)) rfl hs (gL λn hn=>I.ok.has n (G.free n hn)) G.kind G.loc (thn (hi pins s Z H _ I h) λxv s1 h1=>thn h1 λq4 s2 h2=>?_));obtain⟨it,fp,tn,J,H2,e,I2,T,q3,f2,hw⟩:=h2;subst e;refine wV (Q:=λv H'=>D.nx (Z.set i (some v)) H') (RR:=λacc C=>compPost (A6 X.prog X.w) X.A X.xe (some (FZ (.Name x l) X.env)) (λ_ W=>Al (A6 X.prog X.w) X.A (pure ()) (λ_ W=>Al (A6 X.prog X.w) X.A (pure Flow.next) (SP X pins D) X.xe W) X.xe W) acc C) G hc I2 T q3 f2 M hw λD' C W H' m J hn lt L q=>?_;show Al _ _ (FZ (.Name x l) X.env (.ref D')) _ _ W;refine HU (rP (v:=V.ref D') J hN U hx rfl (λq2 J' q1=>?_) hf);obtain⟨a,sb,ha⟩:=q1;refine⟨m,hn.sameBut sb ?_,λh' q0=>?_⟩;rcases ha with z|z;rw[z];exact CH (E4 I2.lt lt);exact CH (E4 (I2.cellLt z) lt);exact Ad (Ad ⟨_,H',L _ q2 h' J' q0,q⟩)
end
end L2
namespace Hp
open PySem PySem.Spec PyProof.Rows L2
noncomputable def Rr(K:Fg)(H H':Hp)(Y:Addr->Prop)(r:Rt)(u:V):Prop:=
 if r.2.1=true then ∃a xs ds,u=.ref a/\r.1=.lst ds/\H a=none/\H' a=some (.lst xs)/\Reps K H' (λb=>b=a\/Y b\/(r.2.2=false/\H b≠none)) ds xs
 else Rep K H' (λb=>Y b\/(r.2.2=false/\H b≠none)) r.1 u
noncomputable def spF(K:Fg)(P:Pg)(n:Nat)(f:Nat):Sp:=λvs H Q _=>∃(ds:List D) (Y:Addr->Prop),(∀a,Y a->H a≠none)/\Reps K H Y ds vs/\RE (call P n f ds) λr=>∀u H',Tk K H'->aL H H'->Rr K H H' Y r u->Q u H'
noncomputable def bltNames:List Str:=["len", "list", "tuple", "min", "max", "abs", "int", "str", "sum", "all", "any", "sorted", "bool", "range", "zip", "enumerate", "reversed", "set", "isinstance", "dict", "repr"]
structure Md (X:Cx) (P:Pg) (Γ:Ct) (n:Nat):Prop where
 fn:∀(f:Nat) (x:Str),Γ.fns[f]? = some x->∃fa fd ps,X.mg x=some (.ref fa)/\DO X.K (.ref fa)=true/\jI X.K fd ps []/\nJ X.prog X.w X.K X.mg X.base CX0 n fa fd ps (spF X.K P n f)
 blt:∀x∈bltNames,X.mg x=none
 cns:∀(x:Str) (d:D),Γ.cns.lookup x=some d->∃u v,X.mg x=some u/\bG v u/\∀H ex,Rep X.K H ex d v
 tab:∀(i:Nat) (x:Str),Γ.tbs[i]? = some x->∃a t,X.mg x=some (.ref a)/\P.tabs[i]? = some t/\sA X.prog X.w X.K a t
structure Mc (X:Cx) (P:Pg) (Γ:Ct) (n:Nat):Prop where
 md:Md X P Γ n
 N:X.N=Γ.N
 nd:X.N.Nodup
 sc:X.env.scope.names=Γ.sc
 calm:X.calm=true
 room:jN n X.A
 xe:X.xe=λ_ _=>False
 st:∀x:Str,wL Γ x=true->X.fn x=true\/X.env.scope.names.lookup x=some .local
 fk:X.env.scope.kind=.function
section
variable {X:Cx} {P:Pg} {Γ:Ct} {n:Nat}
theorem Mc.units(M:Mc X P Γ n):X.A.units+200<Dz:=by have:=M.room.un;omega
theorem Mc.vis(M:Mc X P Γ n){x:Str}(h:aDe Γ x=true):Vis X.env.scope x:=by
 unfold aDe at h;unfold Vis;rw[M.sc];cases q:Γ.sc.lookup x with
 | none=>rw[q] at h;cases h|some k=>rw[q] at h;cases k <;> first|exact .inl rfl|exact .inr (.inl rfl)|exact .inr (.inr rfl)|cases h
theorem Mc.loc(M:Mc X P Γ n){x:Str}(h:wL Γ x=true):L2.Loc X.env.scope x:=by
 unfold wL at h;unfold L2.Loc;rw[M.sc];cases q:Γ.sc.lookup x with
 | none=>rw[q] at h;cases h|some k=>rw[q] at h;cases k <;> first|exact .inl rfl|exact .inr rfl|cases h
theorem Mc.gl(M:Mc X P Γ n){x:Str}(h:cW Γ x=true):Gl X x:=by
 unfold cW at h;unfold Gl;show X.env.scope.names.lookup x=_;rw[M.sc];cases q:Γ.sc.lookup x with
 | none=>rw[q] at h;cases h|some k=>rw[q] at h;cases k <;> first|rfl|cases h
theorem aY{x:Str}(h:cH x=true):(x==("__debug__" : Str))=false:=by unfold cH at h;simp only[bA,Cb] at h;exact h.1
theorem iO{x:Str}(h:cH x=true):(x==("__classdict__" : Str))=false:=by unfold cH at h;simp only[bA,Cb] at h;exact h.2
theorem aIv:∀{d d':D},eqK d d'=true->d=d':=by intro d d' h;cases d <;> cases d' <;> simp[eqK] at h <;> first|rfl|(subst h;rfl)
noncomputable def aV:Aw->Bool
 | .Starred _ _=>false|.Slice _ _ _ _=>false|.Set _ _ _=>false|_=>true
theorem aDn{α:Type}{o:Option α}{f:α->Bool}(h:oB o f=true):∃a,o=some a/\f a=true:=by
 cases o with
 | none=>cases h|some a=>exact⟨a,rfl,h⟩
theorem aD{α:Type}{q:α->Prop}{o:Option { a:α // q a }}{f:α->Bool}(h:oS o f=true):∃a,q a/\f a=true:=by
 cases o with
 | none=>cases h|some a=>exact⟨a.1,a.2,h⟩
theorem aP{c:E}{e:Aw}(h:aR Γ c e=true):aV e=true:=by
 cases c with
 | c d=>rcases(BG _ _).mp (show(oS (asC e) (eqC d)||oS (asN e) λx=>cW Γ x&&cH x&&oB (Γ.cns.lookup x) (eqK d))=true from h) with h|h;obtain⟨_,⟨_,_,rfl⟩,_⟩:=aD h;rfl;obtain⟨_,⟨_,rfl⟩,_⟩:=aD h;rfl
 | v i=>obtain⟨_,⟨_,rfl⟩,_⟩:=aD h;rfl|op o a b=>obtain⟨_,⟨_,rfl⟩,_⟩:=aD h;rfl|neg a=>obtain⟨_,⟨_,rfl⟩,_⟩:=aD h;rfl|nt a=>obtain⟨_,⟨_,rfl⟩,_⟩:=aD h;rfl|an a b=>obtain⟨_,rfl,_⟩:=aD h;rfl|orr a b=>obtain⟨_,rfl,_⟩:=aD h;rfl|ife t a b=>obtain⟨_,⟨_,rfl⟩,_⟩:=aD h;rfl|cmp o a b=>obtain⟨_,⟨_,rfl⟩,_⟩:=aD h;rfl|dnin _ _=>cases h|dget _ _=>cases h|dlen _=>cases h|din _ _=>cases h|dgd _ _ _=>cases h|srtD j=>obtain⟨_,⟨_,_,rfl⟩,_⟩:=aD h;rfl|rvs a=>obtain⟨_,⟨_,rfl⟩,_⟩:=aD h;rfl|sst a=>obtain⟨_,⟨_,_,rfl⟩,_⟩:=aD h;rfl|sop _ _ _=>cases h|cmp2 l q a b c=>obtain⟨_,⟨_,rfl⟩,_⟩:=aD h;rfl|idx a b=>obtain⟨_,⟨_,rfl⟩,_⟩:=aD h;rfl|sli a lo hi=>obtain⟨_,⟨_,rfl⟩,_⟩:=aD h;rfl|tup es=>obtain⟨_,⟨_,_,rfl⟩,_⟩:=aD h;rfl|lst es=>obtain⟨_,⟨_,rfl⟩,_⟩:=aD h;rfl|call f es=>obtain⟨_,⟨_,_,rfl⟩,_⟩:=aD h;rfl|bi b es=>obtain⟨_,⟨_,_,rfl⟩,_⟩:=aD h;rfl|mth _ _ _=>cases h|isi a cs=>obtain⟨_,⟨_,_,rfl⟩,_⟩:=aD h;rfl|comp k caps t it cond elt=>obtain⟨_,⟨_,rfl⟩,_⟩:=aD h;rfl|numset _=>cases h|tget i a=>obtain⟨_,⟨_,_,rfl,_⟩,_⟩:=aD h;rfl|lzip _ _=>cases h|dic ks vs=>cases h|attr _ _=>cases h
theorem aC{e:Aw}{es:List Aw}{env:JX}(h:aV e=true):Bg (e::es) env=(false,DM e env)::Bg es env:=by cases e <;> first|rfl|cases h
theorem gX:∀{cs:Es} {es:List Aw},chkEs Γ cs es=true->es.all aV=true
 | .nil,[],_=>rfl|.nil,_::_,h=>by cases h|.cons _ _,[],h=>by cases h|.cons c cs,e::es,h=>by simp only[chkEs,bA] at h;rw[EJ,aP h.1,gX h.2];rfl
theorem eZ{pos:DK}{env:JX}:∀{es:List Aw},es.all aV=true->(Ew pos (Bg es env)).any (·.1)=false
 | [],_=>rfl|e::es,h=>by rw[EJ,bA] at h;rw[aC h.1];show(false||(Ew pos (Bg es env)).any (·.1))=false;rw[eZ h.2];rfl
theorem zM{e:Aw}(h:aV e=true):aAz e:=by intro o i;cases e <;> first|rfl|cases h
theorem lT{e:Aw}{env:JX}(h:aV e=true):∀x,C4 e env x=pure x:=by intro x;cases e <;> first|rfl|cases h
theorem pD{op:CmpOp}{e:Aw}(h:aV e=true):Hj op e=false:=by cases e <;> first|rfl|cases h
variable {RT Y old:Addr->Prop} {Z:Sg} {pos:DK}
abbrev WE(X:Cx)(P:Pg)(n:Nat)(RT Y old:Addr->Prop)(Z:Sg)(c:E):TE:=wE X P (call P n) RT Y old Z c
abbrev WT(X:Cx)(P:Pg)(n:Nat)(RT Y old:Addr->Prop)(Z:Sg)(c:E):TT:=wT X P (call P n) RT Y old Z c
abbrev WA(X:Cx)(P:Pg)(n:Nat)(RT Y old:Addr->Prop)(Z:Sg)(c:Es):TA:=wA X P (call P n) RT Y old Z c
theorem RE.bind'{α l:Type}{x:R α}{f:α->R l}{p:l->Prop}(h:RE (x >>= f) p):RE x λa=>RE (f a) p:=by rwa [RE.bind] at h
theorem wE.one{a:E}{ZV:L2.St}{H:Hp}{p:Vl->Prop}{Q:V->Hp->Prop}(S:Sx X.K RT Y old Z ZV H)(h:RE (ev P (call P n) Z a) p)
 (f:∀x u H',p x->Tk X.K H'->Sx X.K RT Y old Z ZV H'->Ro X.K RT Y old Z ZV H H' x u->Q u H'):WE X P n RT Y old Z a ZV H Q:=
 ⟨S,h.mono λx l u H' t r=>f x u H' l t (S.grow r.1 t) r⟩
theorem aNu{o:Operator}{a b:E}{ea eb:Aw}(ha:PE X ea (WE X P n RT Y old Z a))(hb:PE X eb (WE X P n RT Y old Z b)):PE X (.BinOp ea o eb pos) (WE X P n RT Y old Z (.op o a b)):=by
 intro pins s ZV H Q I hw;obtain⟨S,h⟩:=hw;have h:=RE.bind' (show RE (ev P (call P n) Z a >>= λx=>ev P (call P n) Z b >>= λy=>opD o x y) _ from h);refine wpAny_BinOp (thn (ha pins s ZV H (λux H1=>WE X P n RT Y old Z b ZV H1 λuy l=>∃x y,Sx X.K RT Y old Z ZV l/\aL H l/\Rv X.K RT Y old Z ZV l x ux/\Rv X.K RT Y old Z ZV l y uy/\(x.fr=true->∃a xs,ux=.ref a/\l a=some (.lst xs))/\RE (opD o x y) (Wn X RT Y old Z ZV H Q)) I
  (wE.one S h λx u H1 L t1 W U=>wE.one W (RE.bind' L) λy u' l M t2 B q=>⟨x,y,B,U.1.trans q.1,(U.rv S).grow q.1,q.rv W,λG=>?_,M⟩)) λv s1 ⟨x',H1,I1,rx,q1⟩=>thn (hb pins s1 ZV H1 _ I1 q1) λu s2 ⟨y',l,I2,ry,q2⟩=>?_)
 have:=U.2;rw[if_pos G] at this;obtain⟨a',xs,ds,e1,_,_,e4,_⟩:=this;exact⟨a',xs,e1,q.1 _ _ e4⟩;obtain⟨x,y,B,sm,L,M,G,h⟩:=q2;exact aDi I2 B rx ry L M G (h.mono λv hv u H' t r=>hv u H' t (r.from sm))
theorem aKW{a:E}{q:Aw}(I:PE X q (WE X P n RT Y old Z a)):PE X (.UnaryOp .USub q pos) (WE X P n RT Y old Z (.neg a)):=by refine(aGV aCC I).imp λZV H Q t ⟨S,h⟩=>?_;have h:=RE.bind' (show RE (ev P (call P n) Z a >>= λx=>(match x.d with|.int i=>R.ok (Vl.cl (.int (-i)))|_=>.bad)) _ from h);refine wE.one S h λx u H1 l M L B=>?_;split at l;rename_i i G;exact⟨i,(B.rv S).int G,λt'=>l _ _ t' (Ro.cl B.1 rfl)⟩;exact l.elim
theorem aDo{H:Hp}{ZV:L2.St}{x:Vl}{u:V}{k:Bool}(l:Rv X.K RT Y old Z ZV H x u)(h:aCY x.d=some k):aFq X.K u H k:=by
 unfold aCY at h;split at h;rename_i d;rw[l.non d];exact(As h).symm;rename_i b d;rw[l.bl d];exact(As h).symm;rename_i i d;rw[l.int d];exact(As h).symm;rename_i z d;by_cases B:z.length<=lim;rw[if_pos B] at h;rw[l.str d];refine⟨eT B,?_⟩;rw[<-As h];cases G:z.length with
 | zero=>rfl|succ m=>simp;omega
 rw[if_neg B] at h;cases h;rename_i ds d;obtain⟨a,xs,e,q,r⟩:=l.tup d;rw[e];refine .inr (.inl ⟨xs,q,?_⟩);rw[<-As h];have:=r.length;cases ds <;> cases xs <;> first|rfl|(simp at this)
 rename_i ds d;obtain⟨a,xs,e,q,_,r⟩:=l.lst d;rw[e];refine .inl ⟨xs,q,?_⟩;rw[<-As h];have:=r.length;cases ds <;> cases xs <;> first|rfl|(simp at this)
 cases h
theorem RE.tru{x:Vl}{p:Bool->Prop}(h:RE (fP x) p):∃k,aCY x.d=some k/\p k:=by
 unfold fP at h;cases q:aCY x.d with
 | none=>rw[q] at h;exact h.elim|some k=>rw[q] at h;exact⟨k,rfl,h⟩
theorem aKX{a:E}{B:Aw}(ha:PE X B (WE X P n RT Y old Z a)):PE X (.UnaryOp .Not B pos) (WE X P n RT Y old Z (.nt a)):=by intro pins s ZV H Q I hw;obtain⟨S,h⟩:=hw;have h:=RE.bind' (show RE (ev P (call P n) Z a >>= λx=>fP x >>= λk=>R.ok (Vl.cl (.bl (!k)))) _ from h);refine UnaryOp_ (thn (ha pins s ZV H (λu H1=>∃k,aFq X.K u H1 k/\Q (.bl (!k)) H1) I (wE.one S h λx u H1 hx t1 S1 G=>?_)) λv s1 ⟨u,H1,M,ru,k,l,q⟩=>?_);obtain⟨k,l,hp⟩:=RE.tru (RE.bind' hx);exact⟨k,aDo (G.rv S) l,(show Wn X RT Y old Z ZV H Q (Vl.cl (.bl (!k))) from hp) _ _ t1 (Ro.cl G.1 rfl)⟩;refine not_of (thn (aCG pins s1 ZV H1 u v (λk' H'=>k'=k/\H'=H1) M ru ⟨k,l,rfl,rfl⟩) λb s2 ⟨L,U,W,e2⟩=>?_);subst W e2;exact⟨.bl (!b),L,U,rfl,q⟩
theorem sB{c:E}{e:Aw}(B:PE X e (WE X P n RT Y old Z c))(I:∀l,isTrue e X.env l=(do let v<-l;L0 e.pos;HV [v] (truthy v)))
 (G:∀p,RE (tst P (call P n) Z c) p->RE (ev P (call P n) Z c) λx=>RE (fP x) p):PT X e (WT X P n RT Y old Z c):=by refine(aCH B I).imp λZV H Q t ⟨S,h⟩=>?_;refine wE.one S (G _ h) λx u H1 U t1 W q=>?_;obtain⟨k,L,M⟩:=RE.tru U;exact⟨k,aDo (q.rv S) L,λt'=>M _ t' q.1⟩
theorem aKY{a b:E}{G I:Aw}{r:List Aw}(M:PE X G (WE X P n RT Y old Z a))(U:PE X (.BoolOp .And (I::r) pos) (WE X P n RT Y old Z b)):PE X (.BoolOp .And (G::I::r) pos) (WE X P n RT Y old Z (.an a b)):=by refine(aHM M U).imp λZV H Q t ⟨S,h⟩=>?_;have h:=RE.bind' (show RE (ev P (call P n) Z a >>= λx=>(match x.d with|.bl true=>ev P (call P n) Z b|.bl false=>R.ok (Vl.cl (.bl false))|_=>.bad)) _ from h);refine wE.one S h λx u H1 l t1 L q=>?_;split at l;rename_i B;refine⟨true,(q.rv S).bl B,?_⟩;rw[if_pos rfl];exact⟨L,l.mono λv W u H' t r=>λ_=>W u H' t (r.from q.1)⟩;rename_i B;refine⟨false,(q.rv S).bl B,?_⟩;rw[if_neg bN];exact λt'=>l _ _ t' (Ro.cl q.1 rfl);exact l.elim
theorem aHj{a b:E}{G I:Aw}{r:List Aw}(M:PE X G (WE X P n RT Y old Z a))(U:PE X (.BoolOp .Or (I::r) pos) (WE X P n RT Y old Z b)):PE X (.BoolOp .Or (G::I::r) pos) (WE X P n RT Y old Z (.orr a b)):=by refine(aKh M U).imp λZV H Q t ⟨S,h⟩=>?_;have h:=RE.bind' (show RE (ev P (call P n) Z a >>= λx=>(match x.d with|.bl true=>R.ok (Vl.cl (.bl true))|.bl false=>ev P (call P n) Z b|_=>.bad)) _ from h);refine wE.one S h λx u H1 l t1 L q=>?_;split at l;rename_i B;refine⟨true,(q.rv S).bl B,?_⟩;rw[if_pos rfl];exact λt'=>l _ _ t' (Ro.cl q.1 rfl);rename_i B;refine⟨false,(q.rv S).bl B,?_⟩;rw[if_neg bN];exact⟨L,l.mono λv W u H' t r=>λ_=>W u H' t (r.from q.1)⟩;exact l.elim
theorem aKZ{t a b:E}{I B G:Aw}(W:PT X I (WT X P n RT Y old Z t))(M:PE X B (WE X P n RT Y old Z a))(U:PE X G (WE X P n RT Y old Z b)):PE X (.IfExp I B G pos) (WE X P n RT Y old Z (.ife t a b)):=by
 refine(aCv W M U).imp λZV H Q t0 ⟨S,h⟩=>?_;have h:=RE.bind' (show RE (tst P (call P n) Z t >>= λx=>if x=true then ev P (call P n) Z a else ev P (call P n) Z b) _ from h);refine⟨S,h.mono λk l H1 L s1=>?_⟩;cases k with
 | true=>rw[if_pos rfl] at l ⊢;exact⟨S.grow s1 L,l.mono λv q u H' t r=>λ_=>q u H' t (r.from s1)⟩|false=>rw[if_neg bN] at l ⊢;exact⟨S.grow s1 L,l.mono λv q u H' t r=>λ_=>q u H' t (r.from s1)⟩
noncomputable def w2(X:Cx)(P:Pg)(n:Nat)(RT Y old:Addr->Prop)(Z:Sg)(ZV:L2.St)(H:Hp)(p:Vl->Vl->Prop)(ux uy:V)(H2:Hp):Prop:=
 ∃x y,Sx X.K RT Y old Z ZV H2/\aL H H2/\Rv X.K RT Y old Z ZV H2 x ux/\Rv X.K RT Y old Z ZV H2 y uy/\p x y
theorem iP(M:Mc X P Γ n)(o:CmpOp):OpR X (BX o) (λl B H Q=>∃(Z:Sg) (ZV:L2.St) (x y:Vl) (k:Bool),Rv X.K RT Y old Z ZV H x l/\Rv X.K RT Y old Z ZV H y B/\bU o x.d y.d=some k/\Q (.bl k) H):=by intro pins s ZV H l B v u Q I rx ry h;obtain⟨Z',G,x,y,k,U,W,L,q⟩:=h;exact aBO I M.units rx ry U W L q
theorem aLa(M:Mc X P Γ n){o:CmpOp}{a b:E}{G q:Aw}(I:PE X G (WE X P n RT Y old Z a))(L:PE X q (WE X P n RT Y old Z b))(l:aV q=true):PE X (.Compare G [o] [q] pos) (WE X P n RT Y old Z (.cmp o a b)):=by refine(aFo (iP (RT:=RT) (Y:=Y) (old:=old) M o) I L (pD l)).imp λZV H Q t ⟨S,h⟩=>?_;have h:=RE.bind' (show RE (ev P (call P n) Z a >>= λx=>ev P (call P n) Z b >>= λy=>(match bU o x.d y.d with|some k=>R.ok (Vl.cl (.bl k))|none=>.bad)) _ from h);refine wE.two S (h.mono λx B=>RE.bind' B) λx y ux uy H2 l t2 s2 S2 B W=>?_;split at l;rename_i k U;exact⟨Z,ZV,x,y,k,B,W,U,λt'=>l _ _ t' (Ro.cl s2 rfl)⟩;exact l.elim
theorem eW(M:Mc X P Γ n){o:CmpOp}{a b:E}{G q:Aw}(I:PE X G (WE X P n RT Y old Z a))(L:PE X q (WE X P n RT Y old Z b))(l:aV q=true):PT X (.Compare G [o] [q] pos) (WT X P n RT Y old Z (.cmp o a b)):=by refine(aFp (iP (RT:=RT) (Y:=Y) (old:=old) M o) I L (pD l)).imp λZV H Q t ⟨S,h⟩=>?_;have h:=RE.bind' (show RE (ev P (call P n) Z a >>= λx=>ev P (call P n) Z b >>= λy=>(match bU o x.d y.d with|some k=>R.ok k|none=>.bad)) _ from h);refine wE.two S (h.mono λx B=>RE.bind' B) λx y ux uy H2 l t2 s2 S2 B W=>?_;split at l;rename_i k U;exact⟨Z,ZV,x,y,k,B,W,U,k,rfl,λt'=>l _ t' s2⟩;exact l.elim
theorem pE{K:Fg}{H:Hp}{ex:Addr->Prop}:∀{ds:List D} {ns:List Int} {xs:List V},lR ds=some ns->Reps K H ex ds xs->xs=ns.map V.int
 | [],ns,xs,h,r=>by cases h;exact r|d::ds,ns,xs,h,r=>by
  obtain⟨x,I,e,l,B⟩:=r;subst e;cases d with
  | int i=>unfold lR at h;split at h;rename_i G q;cases h;rw[show x=.int i from l,pE q B];rfl;cases h|_=>cases h
theorem pF{K:Fg}{H:Hp}{ex:Addr->Prop}:∀{ds:List D} {k:NK} {xs:List V},oW ds=some k->Reps K H ex ds xs->∃bs:List Addr,xs=bs.map V.ref/\CO (λis c=>SqT K H c (is.map V.int)) k bs
 | [],k,xs,h,r=>by cases h;exact⟨[],r,.nil⟩|d::ds,k,xs,h,r=>by
  obtain⟨x,U,e,I,L⟩:=r;subst e;cases d with
  | tup as=>unfold oW at h;split at h;rename_i a q B G;cases h;obtain⟨bs,rfl,p⟩:=pF G L;obtain⟨c,ys,rfl,l,M⟩:=I;rw[pE B M] at l;exact⟨c::bs,rfl,.cons l p⟩;cases h|_=>cases h
theorem aDp{K:Fg}{H:Hp}{ex:Addr->Prop}{d:D}{k:NK}{u:V}(h:kE d=some k)(r:Rep K H ex d u):∃b,u=.ref b/\cE K H k b:=by
 cases d with
 | tup ds=>obtain⟨b,xs,rfl,q,r⟩:=r;obtain⟨bs,rfl,p⟩:=pF (show oW ds=some k from h) r;exact⟨b,rfl,bs,q,p⟩|_=>cases h
theorem aFQ{xs:List NE}{ks:List (NK×D)}(h:xs.map pj=ks.map kV):xs.map (·.1)=ks.map (·.1):=by have:=congrArg (List.map (·.1)) h;rw[A7,A7] at this;exact this
theorem aLb{a b:E}{G l:Aw}(I:PE X G (WE X P n RT Y old Z a))(L:PE X l (WE X P n RT Y old Z b))(q:aV l=true):PE X (.Subscript G l pos) (WE X P n RT Y old Z (.idx a b)):=by refine(aKB aIg I L (zM q)).imp λZV H Q t ⟨S,h⟩=>?_;have h:=RE.bind' (show RE (ev P (call P n) Z a >>= λx=>ev P (call P n) Z b >>= λy=>cP x y) _ from h);refine wE.two S (h.mono λx B=>RE.bind' B) λx y ux uy H2 q W s2 S2 B U=>?_;exact aBP W B U (q.mono λv M u H' t r=>M u H' t (r.from s2))
theorem aAI:PA X [] (WA X P n RT Y old Z .nil):=lL.imp λZV H Q t ⟨S,h⟩ t'=>h [] H t' (aL.refl H) rfl
theorem lU{c:E}{cs:Es}{e:Aw}{es:List Aw}(G:PE X e (WE X P n RT Y old Z c))(L:PA X es (WA X P n RT Y old Z cs))(I:aV e=true):PA X (e::es) (WA X P n RT Y old Z (.cons c cs)):=by
 refine(iK G L (aC I)).imp λZV H Q t ⟨S,h⟩=>?_;have h:=RE.bind' (show RE (ev P (call P n) Z c >>= λx=>evs P (call P n) Z cs >>= λxs=>R.ok (x::xs)) _ from h);refine wE.one S h λx u H1 U t1 B l=>⟨B,(RE.bind' U).mono λvs M us q t2 s2 W t'=>?_⟩
 exact M (u::us) q t' (l.1.trans s2) ⟨u,us,rfl,(l.rv S).grow s2,W⟩
theorem uD:∀{cs:Es} {es:List Aw} {vs:List Vl},chkEs Γ cs es=true->evs P (call P n) Z cs=.ok vs->vs.length=es.length
 | .nil,[],vs,_,h=>by cases(show R.ok []=R.ok vs from h);rfl|.nil,_::_,_,h,_=>by cases h|.cons _ _,[],_,h,_=>by cases h|.cons c cs,e::es,vs,B,h=>by
  simp only[chkEs,bA] at B;have h:(ev P (call P n) Z c >>= λx=>evs P (call P n) Z cs >>= λxs=>R.ok (x::xs))=R.ok vs:=h;cases l:ev P (call P n) Z c with
  | ok x=>
   cases q:evs P (call P n) Z cs with
   | ok xs=>rw[l] at h;have h:(evs P (call P n) Z cs >>= λxs=>R.ok (x::xs))=R.ok vs:=h;rw[q] at h;cases(show R.ok (x::xs)=R.ok vs from h);rw[lC,lC,uD B.2 q]|exc z=>rw[l] at h;have h:(evs P (call P n) Z cs >>= λxs=>R.ok (x::xs))=R.ok vs:=h;rw[q] at h;cases h|bad=>rw[l] at h;have h:(evs P (call P n) Z cs >>= λxs=>R.ok (x::xs))=R.ok vs:=h;rw[q] at h;cases h
  | exc z=>rw[l] at h;cases h|bad=>rw[l] at h;cases h
theorem RE.eq{α:Type}{x:R α}{p:α->Prop}(h:RE x p):∃a,x=.ok a/\p a:=by
 cases x with
 | ok a=>exact⟨a,rfl,h⟩|exc e=>exact h.elim|bad=>exact h.elim
theorem aLc{cs:Es}{es:List Aw}{k:Nat}(q:PA X es (WA X P n RT Y old Z cs))(B:chkEs Γ cs es=true)(M:es.length<=1000):PE X (.Tuple es k pos) (WE X P n RT Y old Z (.tup cs)):=by
 refine(aIa q).imp λZV H Q t ⟨S,h⟩=>?_;have h:=RE.bind' (show RE (evs P (call P n) Z cs >>= λvs=>R.ok (rY vs)) _ from h);obtain⟨vs,e,L⟩:=h.eq;refine⟨S,?_⟩;show RE (evs P (call P n) Z cs) _;rw[e];intro us H1 U s1 l;have G:us.length<=sizeLine:=by rw[<-l.length,uD B e,BB];omega
 exact⟨G,λp I t'=>(show Wn X RT Y old Z ZV H Q (rY vs) from L) _ _ t' ((Ro.tup I rfl rfl l.all).from s1)⟩
theorem aLd{cs:Es}{es:List Aw}(q:PA X es (WA X P n RT Y old Z cs))(B:chkEs Γ cs es=true)(U:es.length<=1000):PE X (.List es pos) (WE X P n RT Y old Z (.lst cs)):=by
 refine(aIb q).imp λZV H Q t ⟨S,h⟩=>?_;have h:=RE.bind' (show RE (evs P (call P n) Z cs >>= λvs=>R.ok (eE vs)) _ from h);obtain⟨vs,e,L⟩:=h.eq;refine⟨S,?_⟩;show RE (evs P (call P n) Z cs) _;rw[e];intro us H1 M s1 l;have G:us.length<=sizeLine:=by rw[<-l.length,uD B e,BB];omega
 exact⟨G,λp I t'=>(show Wn X RT Y old Z ZV H Q (eE vs) from L) _ _ t' ((Ro.fresh I t' rfl rfl (S.grow s1 M) l.all).from s1)⟩
theorem aFR:∀b:Bi,aDf b=true->Cw (jO b)=some (aHi b):=by intro b l;cases b <;> first|kernel_rfl|cases l
theorem jQ:∀b:Bi,jO b∈bltNames:=by intro b;cases b <;> decide +kernel
theorem lV:∀b:Bi,jO b ≠ "__name__" := by intro b;cases b <;> decide +kernel
theorem aNv(M:Mc X P Γ n){b:Bi}{cs:Es}{x:Str}{p:DK}{e:Aw}{es:List Aw}(q:aDf b=true)(hx:jO b=x)(I:cW Γ x=true)(L:cH x=true)(G:PA X (e::es) (WA X P n RT Y old Z cs))(W:(e::es).all aV=true) :
 PE X (.Call (.Name x p) (e::es) [] pos) (WE X P n RT Y old Z (.bi b cs)):=by
 subst hx;have l:aV e=true/\es.all aV=true:=by simpa using W
 have body:∀(f:PE X (.Call (.Name (jO b) p) (e::es) [] pos) (tCB (rBi X b) (WA X P n RT Y old Z cs))),PE X (.Call (.Name (jO b) p) (e::es) [] pos) (WE X P n RT Y old Z (.bi b cs)):=λf=>f.imp λZV H Q t ⟨S,h⟩=>by have h:=RE.bind' (show RE (evs P (call P n) Z cs >>= λvs=>biD b vs) _ from h);refine⟨S,h.mono λvs U us H1 t1 s1 r1=>?_⟩;exact aDk q (S.grow s1 t1) r1 (U.mono λv U u H' t r=>U u H' t (r.from s1))
 refine body ?_;have r:=aFN M.calm M.room.gd M.units b q;have B:=aFR b q;cases b with
 | len=>exact aCK r (M.gl I) (M.md.blt _ (jQ _)) B G (lV _) (aY L) (aC l.1) (eZ l.2)|list=>exact rW r (M.gl I) (M.md.blt _ (jQ _)) B G (lV _) (aY L) (aC l.1) (eZ l.2)|tuple=>exact rW r (M.gl I) (M.md.blt _ (jQ _)) B G (lV _) (aY L) (aC l.1) (eZ l.2)|_=>cases q
theorem aFS{ZV:L2.St}{H H1 H':Hp}{vs:List Vl}{r:Rt}{u:V}(B:Sx X.K RT Y old Z ZV H1)(s1:aL H H1)(W:aL H1 H')(h:Rr X.K H1 H' (λb=>H1 b≠none/\exV RT Y old Z ZV (cV vs) (bE vs) b) r u) :
 Ro X.K RT Y old Z ZV H H' (gO vs r) u:=by
 obtain⟨d,fr,pa⟩:=r;have key:∀b,exV RT Y old Z ZV (gO vs (d,fr,pa)).pa (gO vs (d,fr,pa)).al b->(H1 b≠none/\exV RT Y old Z ZV (cV vs) (bE vs) b)\/(pa=false/\H1 b≠none):=by
  intro b z;have tk:=exV.trk B z;cases pa with
  | true=>exact .inl ⟨tk,z⟩|false=>exact .inr ⟨rfl,tk⟩
 have l:(gO vs (d,fr,pa)).fr=fr:=by unfold gO;split <;> rfl
 have q:(gO vs (d,fr,pa)).d=d:=by unfold gO;split <;> rfl
 refine⟨s1.trans W,?_⟩;rw[l];unfold Rr at h;cases fr with
 | true=>rw[if_pos rfl] at h ⊢;obtain⟨a,xs,ds,G,I,L,M,U⟩:=h;exact⟨a,xs,ds,G,by rw[q];exact I,s1.free L,M,U.weak λb z=>z.elim (λz=>.inl z) λz=>.inr (key b z)⟩|false=>rw[if_neg bN] at h ⊢;unfold Rv;rw[q];exact Rep.weak h key
theorem aDq{f:Nat}{cs:Es}{ZV:L2.St}{H:Hp}{Q:VK}(S:Sx X.K RT Y old Z ZV H)(h:RE (ev P (call P n) Z (.call f cs)) (Wn X RT Y old Z ZV H Q)) :
 WA X P n RT Y old Z cs ZV H λus H1=>spF X.K P n f (us++[]) H1 (λv H'=>Tk X.K H'->Q v H') E0:=by have h:=RE.bind' (show RE (evs P (call P n) Z cs >>= λvs=>call P n f (vs.map (·.d)) >>= λr=>R.ok (gO vs r)) _ from h);refine⟨S,h.mono λvs B us H1 M s1 G=>?_⟩;have l:=S.grow s1 M;refine⟨vs.map (·.d),λb=>H1 b≠none/\exV RT Y old Z ZV (cV vs) (bE vs) b,λa z=>z.1,by rw[AV];exact G.all.weak λa z=>z.2,(RE.bind' B).mono λr q u H' t' L I _=>?_⟩;exact(show Wn X RT Y old Z ZV H Q (gO vs r) from q) u H' t' (aFS l s1 L I)
theorem aIw(M:Mc X P Γ n){f:Nat}{cs:Es}{x:Str}{p:DK}{es:List Aw}(hf:Γ.fns[f]? = some x)(L:cW Γ x=true)(U:cH x=true)(W:PA X es (WA X P n RT Y old Z cs))(hp:es.all aV=true)(hc:chkEs Γ cs es=true) :
 PE X (.Call (.Name x p) es [] pos) (WE X P n RT Y old Z (.call f cs)):=by
 obtain⟨fa,fd,ps,q,B,G,I⟩:=M.md.fn f x hf;cases es with
 | cons e es=>
  have l:aV e=true/\es.all aV=true:=by simpa using hp
  exact(aFs I M.room (M.gl L) q B G .nil aGZ W (aY U) (aC l.1) (eZ l.2)).imp λZV H Q t ⟨S,h⟩=>aDq S h
 | nil=>
  cases cs with
  | cons _ _=>cases hc|nil=>refine(aCJ I M.room (M.gl L) q B G .nil aGZ (aY U)).imp λZV H Q t ⟨S,h⟩=>?_;exact(aDq S h).2 [] H t (aL.refl H) rfl
theorem aIx(M:Mc X P Γ n){i:Nat}{a:E}{m x:Str}{p B:DK}{q:Aw}(hm:m=("get" : Str))(hx:Γ.tbs[i]? = some x)(hg:cW Γ x=true)(ho:cH x=true)(hl:(B.endLine==pos.line)=true)
 (W:PE X q (WE X P n RT Y old Z a)) (hp:aV q=true):PE X (.Call (.Attribute (.Name x p) m B) [q] [] pos) (WE X P n RT Y old Z (.tget i a)):=by
 subst hm;obtain⟨b,t,I,L,U⟩:=M.md.tab i x hx;refine(aFH U (M.gl hg) I (aY ho) W hl (aC hp)).imp λZV H Q tk ⟨S,h⟩=>?_;have h:=RE.bind' (show RE (ev P (call P n) Z a >>= λx=>(match x.d,P.tabs[i]? with|.str k,some t=>R.ok (Vl.cl ((t.lookup k).getD .non))|_,_=>.bad)) _ from h);refine wE.one S h λy u H1 l t1 S1 G=>?_;rw[L] at l;cases hd:y.d with
 | str k=>
  rw[hd] at l;have hu:u=.str k:=by have z:=G.rv S;unfold Rv at z;rw[hd] at z;exact z
  exact⟨k,hu,λv hv t'=>(show Wn X RT Y old Z ZV H Q (Vl.cl ((t.lookup k).getD .non)) from l) v H1 t' (Ro.val G.1 (hv H1))⟩
 | _=>rw[hd] at l;exact l.elim
theorem aBT{c:Cl}{l:Value}{x:Str}(q:wU c=some l)(B:zI Γ c=some x):Cw x=some l/\x∈bltNames/\x ≠ "__name__" := by cases c <;> cases q <;> cases B <;> exact⟨by kernel_rfl,by decide +kernel,by decide +kernel⟩
theorem aLe(M:Mc X P Γ n){a:E}{c:Cl}{cv:Value}{f x:Str}{pf W:DK}{B:Aw}(hf:f=("isinstance" : Str))(hg:cW Γ f=true)(hc:wU c=some cv)(hx:zI Γ c=some x)(G:cW Γ x=true)(U:cH x=true)
 (ha:PE X B (WE X P n RT Y old Z a)) (hp:aV B=true):PE X (.Call (.Name f pf) [B,.Name x W] [] pos) (WE X P n RT Y old Z (.isi a [c])):=by subst hf;intro pins s ZV H Q I hw;obtain⟨S,h⟩:=hw;have h:=RE.bind' (show RE (ev P (call P n) Z a >>= λx=>(match isI [c] P x.d with|some k=>R.ok (Vl.cl (.bl k))|none=>.bad)) _ from h);obtain⟨b1,b2,b3⟩:=aBT hc hx;refine BC (eY I (M.gl hg) (M.md.blt _ (by decide +kernel)) (show Cw "isinstance" = some (.builtin "isinstance") by kernel_rfl) ?_ (by decide +kernel) (by decide +kernel));refine Co ?_ (aC hp) rfl;rw[aC hp];show Al _ _ (Ha ((false,DM B X.env)::Ew pos (Bg [.Name x W] X.env))) _ _ s;refine D4 (thn (ha pins s ZV H (λu H1=>∃y k,Rv X.K RT Y old Z ZV H1 y u/\isI [c] P y.d=some k/\Q (.bl k) H1) I (wE.one S h λy u H1 l t1 S1 r1=>?_)) λv s1 ⟨u,H1,I1,ru,y,k,l,L,q⟩=>?_);split at l;rename_i k L;exact⟨y,k,r1.rv S,L,(show Wn X RT Y old Z ZV H Q (Vl.cl (.bl k)) from l) _ _ t1 (Ro.cl r1.1 rfl)⟩;exact l.elim;show Al _ _ (Ha ((false,DM (.Name x W) X.env)::Ew pos (Bg [] X.env))) _ _ s1;refine D4 (eY I1 (M.gl G) (M.md.blt _ b2) b1 (Ey ?_) b3 (aY U));exact aBS P I1 ru l hc L q
end
section
variable {X:Cx} {P:Pg} {Γ:Ct} {n:Nat} {RT Y old:Addr->Prop} {Z:Sg} {pos:DK}
theorem pG{o o':CmpOp}{q l:Aw}(B:aV l=true):Kt [o,o'] [q,l]=false:=pD B
theorem aIy(M:Mc X P Γ n){o o':CmpOp}{a b c:E}{ea eb B:Aw}(ha:PE X ea (WE X P n RT Y old Z a))(hb:PE X eb (WE X P n RT Y old Z b))(hc:PE X B (WE X P n RT Y old Z c))(hq:aV B=true) :
 PE X (.Compare ea [o,o'] [eb,B] pos) (WE X P n RT Y old Z (.cmp2 o o' a b c)):=by
 refine(aCE (iP (RT:=RT) (Y:=Y) (old:=old) M o) (iP (RT:=RT) (Y:=Y) (old:=old) M o') ha hb hc (pG hq)).imp λZV H Q t ⟨S,h⟩=>?_;have h:=RE.bind' (show RE (ev P (call P n) Z a >>= λx=>ev P (call P n) Z b >>= λy=>(match bU o x.d y.d with
  | some true=>ev P (call P n) Z c >>= λz=>(match bU o' y.d z.d with|some k=>R.ok (Vl.cl (.bl k))|none=>.bad)
  | some false=>R.ok (Vl.cl (.bl false))|none=>.bad)) _ from h)
 refine wE.two S (h.mono λx q=>RE.bind' q) λx y ux uy H2 l t2 s2 S2 q L=>?_;split at l;rename_i G;refine⟨Z,ZV,x,y,true,q,L,G,true,rfl,?_⟩;rw[if_pos rfl];refine wE.one S2 (RE.bind' l) λz u H3 U t3 S3 W=>?_;split at U;rename_i k' I;exact⟨Z,ZV,y,z,k',L.grow W.1,W.rv S2,I,λt'=>U _ _ t' (Ro.cl (s2.trans W.1) rfl)⟩;exact U.elim;rename_i G;refine⟨Z,ZV,x,y,false,q,L,G,false,rfl,?_⟩;rw[if_neg bN];exact λt'=>l _ _ t' (Ro.cl s2 rfl);exact l.elim
theorem aIz(M:Mc X P Γ n){o o':CmpOp}{a b c:E}{ea eb B:Aw}(ha:PE X ea (WE X P n RT Y old Z a))(hb:PE X eb (WE X P n RT Y old Z b))(hc:PE X B (WE X P n RT Y old Z c))(hq:aV B=true) :
 PT X (.Compare ea [o,o'] [eb,B] pos) (WT X P n RT Y old Z (.cmp2 o o' a b c)):=by
 refine(aCF (iP (RT:=RT) (Y:=Y) (old:=old) M o) (iP (RT:=RT) (Y:=Y) (old:=old) M o') ha hb hc (pG hq)).imp λZV H Q t ⟨S,h⟩=>?_;have h:=RE.bind' (show RE (ev P (call P n) Z a >>= λx=>ev P (call P n) Z b >>= λy=>(match bU o x.d y.d with
  | some true=>ev P (call P n) Z c >>= λz=>(match bU o' y.d z.d with|some k=>R.ok k|none=>.bad)
  | some false=>R.ok false|none=>.bad)) _ from h)
 refine wE.two S (h.mono λx q=>RE.bind' q) λx y ux uy H2 l t2 s2 S2 q L=>?_;split at l;rename_i G;refine⟨Z,ZV,x,y,true,q,L,G,true,rfl,?_⟩;rw[if_pos rfl];refine wE.one S2 (RE.bind' l) λz u H3 U t3 S3 W=>?_;split at U;rename_i k' I;exact⟨Z,ZV,y,z,k',L.grow W.1,W.rv S2,I,k',rfl,λt'=>U _ t' (s2.trans W.1)⟩;exact U.elim;rename_i G;refine⟨Z,ZV,x,y,false,q,L,G,false,rfl,?_⟩;rw[if_neg bN];exact⟨false,rfl,λt'=>l _ t' s2⟩;exact l.elim
theorem pH{a:E}{l:Aw}(q:PT X l (WT X P n RT Y old Z a)):PT X (.UnaryOp .Not l pos) (WT X P n RT Y old Z (.nt a)):=by refine(aHL q).imp λZV H Q t ⟨S,h⟩=>?_;have h:=RE.bind' (show RE (tst P (call P n) Z a >>= λx=>R.ok (!x)) _ from h);exact⟨S,h.mono λk B H1 G s1 t'=>(show ∀H',Tk X.K H'->aL H H'->Q (!k) H' from B) _ t' s1⟩
theorem aDr{e:Aw}{t t':TT}(h:PW X e t)(f:∀ZV H Q,Tk X.K H->t' ZV H Q->t ZV H λv H'=>Tk X.K H'->Q v H'):PW X e t':=λwh pins s ZV H Q I B=>thn (h wh pins s ZV H _ I (f ZV H Q I.tk B)) λk G ⟨H',l,q⟩=>⟨H',l,q l.tk⟩
theorem aLf{a b:E}{q B:Aw}{r:List Aw}(G:PT X q (WT X P n RT Y old Z a))(I:PW X (.BoolOp .And (B::r) pos) (WT X P n RT Y old Z b)):PW X (.BoolOp .And (q::B::r) pos) (WT X P n RT Y old Z (.an a b)):=by
 refine aDr (aHK G I) λZV H Q t ⟨S,h⟩=>?_;have h:=RE.bind' (show RE (tst P (call P n) Z a >>= λx=>if x=true then tst P (call P n) Z b else R.ok false) _ from h);refine⟨S,h.mono λk l H1 U s1=>?_⟩;cases k with
 | true=>rw[if_pos rfl] at l ⊢;exact⟨S.grow s1 U,l.mono λv L H' t M _=>L H' t (s1.trans M)⟩|false=>rw[if_neg bN] at l ⊢;exact λt'=>(show ∀H',Tk X.K H'->aL H H'->Q false H' from l) _ t' s1
theorem aHk{a b:E}{q B:Aw}{r:List Aw}(G:PT X q (WT X P n RT Y old Z a))(I:PW X (.BoolOp .Or (B::r) pos) (WT X P n RT Y old Z b)):PW X (.BoolOp .Or (q::B::r) pos) (WT X P n RT Y old Z (.orr a b)):=by
 refine aDr (aKf G I) λZV H Q t ⟨S,h⟩=>?_;have h:=RE.bind' (show RE (tst P (call P n) Z a >>= λx=>if x=true then R.ok true else tst P (call P n) Z b) _ from h);refine⟨S,h.mono λk l H1 U s1=>?_⟩;cases k with
 | true=>rw[if_pos rfl] at l ⊢;exact λt'=>(show ∀H',Tk X.K H'->aL H H'->Q true H' from l) _ t' s1|false=>rw[if_neg bN] at l ⊢;exact⟨S.grow s1 U,l.mono λv L H' t M _=>L H' t (s1.trans M)⟩
noncomputable def wO(X:Cx)(P:Pg)(n:Nat)(RT Y old:Addr->Prop)(Z:Sg)(cs:Es):TO:=λZV H Q=>Sx X.K RT Y old Z ZV H/\RE (evs P (call P n) Z cs) λvs=>(vs=[]/\∀H',Tk X.K H'->aL H H'->Q none H')\/∃v i,vs=[v]/\v.d=.int i/\∀H',Tk X.K H'->aL H H'->Q (some i) H'
theorem aDs{e:Option Aw}{t t':TO}(h:PO X e t)(f:∀ZV H Q,Tk X.K H->t' ZV H Q->t ZV H λv H'=>Tk X.K H'->Q v H'):PO X e t':=λpins s ZV H Q I B=>thn (h pins s ZV H _ I (f ZV H Q I.tk B)) λu G ⟨o,H',l,r,q⟩=>⟨o,H',l,r,q l.tk⟩
theorem aLg:PO X none (wO X P n RT Y old Z .nil):=aDs aFu λZV H Q t ⟨S,h⟩ t'=>by
 rcases(show([]:List Vl)=[]/\_\/_ from h) with⟨_,q⟩|⟨v,i,e,_⟩
 exact q H t' (aL.refl H);cases e
theorem aLh{c:E}{e:Aw}(B:PE X e (WE X P n RT Y old Z c)):PO X (some e) (wO X P n RT Y old Z (.cons c .nil)):=by
 refine aDs (aFv B) λZV H Q t ⟨S,h⟩=>?_;have h:=RE.bind' (show RE (ev P (call P n) Z c >>= λx=>evs P (call P n) Z .nil >>= λxs=>R.ok (x::xs)) _ from h);refine wE.one S h λx u H1 G L I l=>?_;rcases(show([x]:List Vl)=[]/\_\/∃v i,([x]:List Vl)=[v]/\_/\_ from G) with⟨e,_⟩|⟨v,i,e,hd,q⟩
 cases e;cases e;exact⟨i,(l.rv S).int hd,λt'=>q _ t' l.1⟩
theorem aLi{a:E}{lo hi:Es}{ea:Aw}{el eh:Option Aw}{p2:DK}(ha:PE X ea (WE X P n RT Y old Z a))(G:PO X el (wO X P n RT Y old Z lo))(q:PO X eh (wO X P n RT Y old Z hi)) :
 PE X (.Subscript ea (.Slice el eh none p2) pos) (WE X P n RT Y old Z (.sli a lo hi)):=by
 refine(aCO (aIu (X:=X)) ha G q).imp λZV H Q t ⟨S,h⟩=>?_;have h:=RE.bind' (show RE (ev P (call P n) Z a >>= λx=>evs P (call P n) Z lo >>= λl=>evs P (call P n) Z hi >>= λh=>(match l,h with
  | [],[]=>dM x none none|[l],[]=>(match l.d with|.int l=>R.iff (aJ l) (dM x (some l) none)|_=>.bad)
  | [],[h]=>(match h.d with|.int h=>R.iff (aJ h) (dM x none (some h))|_=>.bad)
  | [l],[h]=>(match l.d,h.d with|.int l,.int h=>R.iff (aJ l&&aJ h) (dM x (some l) (some h))|_,_=>.bad)
  | _,_=>.bad)) _ from h)
 refine wE.one S h λx u H1 hx t1 S1 r1=>?_;have hx:=RE.bind' hx;refine⟨S1,hx.mono λl G=>?_⟩;have G:=RE.bind' G;have up:∀(L:Option Int) (I:Hp),Tk X.K I->aL H1 I->(RE (evs P (call P n) Z hi) λh=>(h=[]/\RE (dM x L none) (Wn X RT Y old Z ZV H Q))\/∃v i,h=[v]/\v.d=.int i/\RE (dM x L (some i)) (Wn X RT Y old Z ZV H Q)) ->
  wO X P n RT Y old Z hi ZV I λM B=>aCR X.K u L M B (λv H'=>Tk X.K H'->Q v H')\/aCP X.K u L M B (λv H'=>Tk X.K H'->Q v H')\/wR X.K u L M B (λv H'=>Tk X.K H'->Q v H')\/aDg u L M B (λv H'=>Tk X.K H'->Q v H'):=by
  intro L I t2 s2 q;refine⟨S1.grow s2 t2,q.mono λM hq=>?_⟩;have q0:∀(U:Option Int) (B:Hp),Tk X.K B->aL I B->RE (dM x L U) (Wn X RT Y old Z ZV H Q) ->
   aCR X.K u L U B (λv H'=>Tk X.K H'->Q v H')\/aCP X.K u L U B (λv H'=>Tk X.K H'->Q v H')\/wR X.K u L U B (λv H'=>Tk X.K H'->Q v H')\/aDg u L U B (λv H'=>Tk X.K H'->Q v H'):=λU B t3 W hs=>
   aBR (S1.grow (s2.trans W) t3) t3 ((r1.rv S).grow (s2.trans W)) (hs.mono λv M u H' t r=>M u H' t (r.from (r1.1.trans (s2.trans W))))
  rcases hq with⟨e,hs⟩|⟨v,i,e,hd,hs⟩
  exact .inl ⟨e,λB t3 W=>q0 none B t3 W hs⟩;exact .inr ⟨v,i,e,hd,λB t3 W=>q0 (some i) B t3 W hs⟩
 match l,G with
 | [],G=>
  refine .inl ⟨rfl,λI t2 s2=>up none I t2 s2 (G.mono λh q=>?_)⟩
  match h,q with
  | [],q=>exact .inl ⟨rfl,q⟩|[h],q=>have q:RE (match h.d with|.int h=>R.iff (aJ h) (dM x none (some h))|_=>.bad) _:=q;split at q;rename_i i hd;exact .inr ⟨h,i,rfl,hd,q.iff.2⟩;exact q.elim|_::_::_,q=>exact q.elim
 | [l],G=>
  have hd:∃i,l.d=.int i:=by
   obtain⟨h,_,q⟩:=G.eq
   match h,q with
   | [],q=>have q:RE (match l.d with|.int l=>R.iff (aJ l) (dM x (some l) none)|_=>.bad) _:=q;split at q;rename_i i hd;exact⟨i,hd⟩;exact q.elim|[h],q=>have q:RE (match l.d,h.d with|.int l,.int h=>R.iff (aJ l&&aJ h) (dM x (some l) (some h))|_,_=>.bad) _:=q;split at q;rename_i i j hd _;exact⟨i,hd⟩;exact q.elim|_::_::_,q=>exact q.elim
  obtain⟨i,hd⟩:=hd;refine .inr ⟨l,i,rfl,hd,λI t2 s2=>up (some i) I t2 s2 (G.mono λh q=>?_)⟩
  match h,q with
  | [],q=>have q:RE (match l.d with|.int l=>R.iff (aJ l) (dM x (some l) none)|_=>.bad) _:=q;rw[hd] at q;exact .inl ⟨rfl,q.iff.2⟩|[h],q=>have q:RE (match l.d,h.d with|.int l,.int h=>R.iff (aJ l&&aJ h) (dM x (some l) (some h))|_,_=>.bad) _:=q;rw[hd] at q;split at q;rename_i i' j e1 e2;cases e1;exact .inr ⟨h,j,rfl,e2,q.iff.2⟩;exact q.elim|_::_::_,q=>exact q.elim
 | _::_::_,G=>exact(by
     obtain⟨h,_,q⟩:=G.eq
     match h,q with
     | [],q=>exact q.elim|[_],q=>exact q.elim|_::_::_,q=>exact q.elim)
end
end Hp
namespace L2
open PySem PySem.Spec PyProof.Rows
set_option maxRecDepth 100000
instance:LawfulBEq Key where
 eq_of_beq:=λ{a b} h=>by
  cases a with
  | inl x=>cases b with|inl y=>exact congrArg FY (eq_of_beq (show(x==y)=true from h))|inr y=>cases h
  | inr x=>cases b with|inl y=>cases h|inr y=>exact congrArg BZ (eq_of_beq (show(x==y)=true from h))
 rfl:=λ{a}=>by
  cases a with
  | inl x=>exact(beq_self_eq_true x:(x==x)=true)|inr x=>exact(beq_self_eq_true x:(x==x)=true)
end L2
namespace L2
open PySem PySem.Spec PyProof.Rows
section
variable {X:Cx} {pins:List (Addr×Obj)} {Z:St} {H:Hp} {s:Ac} {h':Heap}
theorem Inv.turnsNew{l:List Addr}{T:Addr}{o:HO}{t':Nat}(I:Inv X pins Z H s)(f:∀b∈l,kB X pins H b)(k:∀b o,b∉l->s.heap.get? b=some o->h'.get? b=some o)(there:∀b∈l,∃o,h'.get? b=some o)
 (W:s.heap.objs.size<=T) (new:eD X.prog X.w (upd H T o) h' T o):Inv X pins Z (upd H T o) { s with heap:=h',toks:=t' }:=by
 have L:∀b u,H b=some u->b∉l:=λb u e z=>by rw[(f b z).1] at e;cases e
 have G:H T=none:=I.hok.fresh W;have U:∀b o,s.heap.get? b=some o->b≠T:=λb o e=>A4 (AH (Am e) W);refine I.step (g':=s.gens) (d':=s.drawn) (ch:=l) (λb M=>?_) (λb o _ _ B e _=>k b o B e) (λb o _ _ B e _=>⟨o.slots,k b o B e⟩) (λb o _ e n=>by rw[aM (U b o e)];exact n)
  (λb o B e=>⟨o,k b o B e⟩) (λb xs e=>by rw[aM (bB e G)];exact e) (λb o u e=>by rw[aM (bB e G)];exact e) (λb ps e=>⟨#[],by rw[aM (bB e G),e];simp⟩) (λm hm=>?_) (λb u e=>?_) I.bare
 obtain⟨_,f1,f2,f3,f4,f5⟩:=f b M;exact⟨f3,f1,f4,f5⟩;obtain⟨o,es,ep,ho,r⟩:=hm;exact⟨o,es,ep,k _ o (λz=>(f _ z).2.1 rfl) ho,r⟩;by_cases M:b=T;subst M;rw[bP] at e;cases e;exact new;rw[aM M] at e;refine(I.hok b u e).stay (λc v B q=>k c v ?_ q) (λc q=>by rw[aM (bB q G)];exact q) λc xs q=>by rw[aM (bB q G)];exact q
 rcases B with z|z;rw[z];exact L b u e;exact L c _ z
theorem Inv.turns{l:List Addr}{t':Nat}(I:Inv X pins Z H s)(f:∀b∈l,kB X pins H b)(k:∀b o,b∉l->s.heap.get? b=some o->h'.get? b=some o):Inv X pins Z H { s with heap:=h',toks:=t' }:=by
 have G:∀b u,H b=some u->b∉l:=λb u e z=>by rw[(f b z).1] at e;cases e
 refine I.step (g':=s.gens) (d':=s.drawn) (ch:=l) (λb L=>?_) (λb o _ _ B e _=>k b o B e) (λb o _ _ B e _=>⟨o.slots,k b o B e⟩) (λb o _ e n=>n)
  (λb o B e=>⟨o,k b o B e⟩) (λb xs e=>e) (λb o u e=>e) (λb ps e=>⟨#[],by rw[e];simp⟩) (λm M=>?_) (λb u e=>?_) I.bare
 obtain⟨_,f1,f2,f3,f4,f5⟩:=f b L;exact⟨f3,f1,f4,f5⟩;obtain⟨o,es,ep,U,r⟩:=M;exact⟨o,es,ep,k _ o (λz=>(f _ z).2.1 rfl) U,r⟩;refine(I.hok b u e).stay (λc v B q=>k c v ?_ q) (λc q=>q) λc xs q=>q;rcases B with z|z;rw[z];exact G b u e;exact G c _ z
theorem Inv.newK(I:Inv X pins Z H s):X.K.lookup s.heap.objs.size=none:=by
 cases q:X.K.lookup s.heap.objs.size with
 | none=>rfl|some o=>exact absurd (Am (I.bk _ o (I.ok.mod.kin _ o q))) (AY _)
noncomputable def Sq(k:Bool)(K:Av)(H:Hp)(a:Addr)(xs:List V):Prop:=match k with|true=>SqL K H a xs|false=>SqT K H a xs
noncomputable def fR(k:Bool)(h:Heap)(a:Addr)(its:Array Value):Prop:=match k with|true=>h.IsList a its|false=>h.IsTuple a its
noncomputable def dU(k:Bool)(h:Heap)(it a:Addr)(i:Nat):Prop:=match k with|true=>h.IsListIter it a i|false=>h.IsTupleIter it a i
theorem fR.at{k:Bool}{h:Heap}{a:Addr}{l:Array Value}(q:fR k h a l)(e:∀o,h.get? a=some o->h'.get? a=some o):fR k h' a l:=by
 cases k with
 | true=>exact Heap.IsList.at q e|false=>exact Heap.IsTuple.at q e
theorem dU.at{k:Bool}{h:Heap}{a it:Addr}{i:Nat}(q:dU k h it a i)(e:∀o,h.get? it=some o->h'.get? it=some o):dU k h' it a i:=by
 cases k with
 | true=>exact Heap.IsListIter.at q e|false=>exact Heap.IsTupleIter.at q e
theorem dU.obj{k:Bool}{h:Heap}{a it:Addr}{i:Nat}(q:dU k h it a i):∃o,h.get? it=some o/\∀v,o.data≠.cell v:=by
 cases k with
 | true=>obtain⟨o,e,c,d⟩:=q;exact⟨o,e,λv z=>by rw[d] at z;cases z⟩|false=>obtain⟨o,e,c,d⟩:=q;exact⟨o,e,λv z=>by rw[d] at z;cases z⟩
theorem Inv.sq{k:Bool}{a:Addr}{xs:List V}(I:Inv X pins Z H s)(h:Sq k X.K H a xs):∃l:List Value,aO xs l/\fR k s.heap a l.toArray/\xs.length<=sizeLine:=by
 cases k with
 | true=>obtain⟨l,r,p,z⟩:=I.list h;exact⟨l,r,p.isList,z⟩|false=>obtain⟨l,r,p,z⟩:=I.tuple h;exact⟨l,r,p,z⟩
theorem Inv.sq_inj{k:Bool}{a:Addr}{xs ys:List V}(I:Inv X pins Z H s)(h:Sq k X.K H a xs)(h':Sq k X.K H a ys):xs=ys:=by
 cases k with
 | true=>exact I.list_inj h h'|false=>exact I.tuple_inj h h'
theorem Sq.there{k:Bool}{K:Av}{a:Addr}{xs:List V}(h:Sq k K H a xs):H a≠none\/∃o,K.lookup a=some o:=by
 cases k with
 | true=>
  rcases h with(h|⟨o,h⟩)|⟨o,l,n,q,_⟩
  exact .inl (by rw[h];simp);exact .inl (by rw[h];simp);exact .inr ⟨_,q⟩
 | false=>
  rcases h with(h|⟨o,h⟩)|⟨o,l,n,q,_⟩
  exact .inl (by rw[h];simp);exact .inl (by rw[h];simp);exact .inr ⟨_,q⟩
theorem Inv.sqNe{k:Bool}{a b:Addr}{xs:List V}(I:Inv X pins Z H s)(h:Sq k X.K H a xs)(f:kB X pins H b):a≠b:=by
 intro e;subst e;rcases h.there with z|⟨o,z⟩
 exact z f.1;have l:=I.ok.mod.kin a o z;rcases f.2.2.2.1 with q|q;exact I.ok.noex a o l q;exact absurd (AH (Am l) (AC I.ok.bsz q)) (AY _)
end
section
variable {prog:A0} {w:AN} {A:AQ} {E:Value->Ac->Prop} {s:Ac}
theorem kK{it l:Addr}{i:Nat}{items}{x:Value}{Q:Value->Ac->Prop}(q:s.heap.IsTupleIter it l i)
 (M:s.heap.IsTuple l items) (U:items[i]? = some x)
 (I:∀h',h'.IsTupleIter it l (i+1)->CF it s.heap h'->Q x { s with heap:=h' }) :
 Al (A6 prog w) A (AZ (.ref it)) Q E s:=by
 obtain⟨o,B,L,hd⟩:=id q;obtain⟨ol,G,_,W,hdl⟩:=M;unfold AZ;refine Aa (Bl (name:=Dd "__next__") q.typeIs CT
  (Bb CT q.typeIs Fc ?_ (EW _)))
 show Al _ _ (JC (.ref it) 0 >>= _) _ _ s;refine Aa (BO B hd (x:=.ref l) rfl ?_);show Al _ _ (if (A9 l==B5)=true then _ else _) _ _ s;rw[if_neg (show ¬ ((A9 l==B5)=true) from bN)];show Al _ _ (JC (.ref it) 1 >>= _) _ _ s;refine Aa (BO B hd (x:=.int i 0) rfl ?_);show Al _ _ (Kv (.ref l) >>= _) _ _ s;refine Aa (Bv G hdl ?_);simp only[Bx,U];refine Aa (Fo B hd (by simp) (Ad ⟨x,rfl,Ad (I _ ?_ (Ci ..))⟩));exact⟨_,DG _ B (G9 (En hd _)),(Il ..).trans L,by
  rw[En hd];simp[C0]⟩
theorem lW{it l:Addr}{i:Nat}{items}{Q:Value->Ac->Prop}(I:A.handled=none)
 (q:s.heap.IsTupleIter it l i) (M:s.heap.IsTuple l items) (U:items[i]? = none)
 (L:∀h' e,GP it s.heap h'->(∃o,h'.get? e=some o/\o.cls=.type "StopIteration")->E (.ref e) { s with heap:=h' }) :
 Al (A6 prog w) A (AZ (.ref it)) Q E s:=by
 obtain⟨o,B,W,hd⟩:=id q;obtain⟨ol,G,_,nl,hdl⟩:=M;unfold AZ;refine Aa (Bl (name:=Dd "__next__") q.typeIs CT
  (Bb CT q.typeIs Fc ?_ (EW _)))
 show Al _ _ (JC (.ref it) 0 >>= _) _ _ s;refine Aa (BO B hd (x:=.ref l) rfl ?_);show Al _ _ (if (A9 l==B5)=true then _ else _) _ _ s;rw[if_neg (show ¬ ((A9 l==B5)=true) from bN)];show Al _ _ (JC (.ref it) 1 >>= _) _ _ s;refine Aa (BO B hd (x:=.int i 0) rfl ?_);show Al _ _ (Kv (.ref l) >>= _) _ _ s;refine Aa (Bv G hdl ?_);simp only[Bx,U];refine Aa (Cq (Aa (Fo B hd (by simp) ?_)));show Al _ _ (JD (.type "StopIteration") [] >>= _) _ _ _;refine Aa ?_;simp only[JD,KY];refine Aa (Bd ?_ (by size_fits));refine Aa (m:=DU _ _) (GQ (a:=B5) (by first|rfl|(simp only[DU];rfl)) ?_);refine Bd ?_ (by size_fits);simp only[KZ];refine Aa (Hm ?_)
 first|rw[show A.in1.handled=none from I]|rw[I]
 refine Aa (Ad (Jd ?_));exact L _ _ (((Ci ..).extBut.push _).push _) ⟨_,Ao _ rfl,rfl⟩
theorem gY{k:Bool}{it l:Addr}{i:Nat}{items:Array Value}{x:Value}{Q:Value->Ac->Prop}(q:dU k s.heap it l i)(G:fR k s.heap l items)(I:items[i]? = some x)
 (B:∀h',dU k h' it l (i+1)->CF it s.heap h'->Q x { s with heap:=h' }):Al (A6 prog w) A (AZ (.ref it)) Q E s:=by
 cases k with
 | true=>exact wpAny_nextOf_list_item q G I B|false=>exact kK q G I B
theorem pI{k:Bool}{it l:Addr}{i:Nat}{items:Array Value}{Q:Value->Ac->Prop}(G:A.handled=none)(q:dU k s.heap it l i)(I:fR k s.heap l items)(L:items[i]? = none)
 (B:∀h' e,GP it s.heap h'->(∃o,h'.get? e=some o/\o.cls=.type "StopIteration")->E (.ref e) { s with heap:=h' }):Al (A6 prog w) A (AZ (.ref it)) Q E s:=by
 cases k with
 | true=>exact wpAny_nextOf_list_end G q I L B|false=>exact lW G q I L B
theorem aBU{ka kb:Bool}{z TI TO i1 i2 l1 l2:Addr}{k1 k2:Nat}{xs ys:Array Value}{x y a b:Value}{Q:Value->Ac->Prop}(D:Im z TI TO i1 i2 l1 l2)
 (hz:Fp s.heap z TI TO .none) (z5:CI s.heap TI (.ref i1) (.ref i2)) (z6:CI s.heap TO a b)
 (h1:dU ka s.heap i1 l1 k1) (h2:dU kb s.heap i2 l2 k2) (z8:fR ka s.heap l1 xs) (z9:fR kb s.heap l2 ys) (hx:xs[k1]? = some x) (hy:ys[k2]? = some y)
 (hQ:∀h',Fp h' z TI TO (C0 s.heap.objs.size)->CI h' TO x y->dU ka h' i1 l1 (k1+1)->dU kb h' i2 l2 (k2+1)->CI h' s.heap.objs.size x y->h'.objs.size=s.heap.objs.size+1 ->
  (∀c o,c≠z->c≠TO->c≠i1->c≠i2->s.heap.get? c=some o->h'.get? c=some o)->Q (.ref s.heap.objs.size) { s with heap:=h' }) :
 Al (A6 prog w) A (Cz.«zip.__next__» ⟨[.ref z],[]⟩) (λz4 s'=>∃v,z4=.done (.ret v)/\Q v s') E s:=by
 show Al _ _ (JC (.ref z) 2 >>= _) _ _ _;refine Aa (BO hz rfl (x:=.bool false) rfl ?_);show Al _ _ (JC (.ref z) 3 >>= _) _ _ _;refine Aa (BO hz rfl (x:=.ref TI) rfl ?_);refine Aa (Bv z5 rfl ?_);show Al _ _ (BR (.ref z) >>= _) _ _ _;refine Aa ?_;unfold BR;refine Aa (BO hz rfl (x:=.none) rfl (Ad ?_));simp only[if_true];refine Aa (Cq ?_);refine Aa (BO hz rfl (x:=.ref TO) rfl ?_);refine Aa (BE hz (by simp) λw9 q3 q=>?_);replace q3:Fp w9 z TI TO .ellipsis:=q3;refine Aa ?_;simp only[IP,Ji,G6,GR];refine Aa (Aa (FK ?_));show Al _ _ (AZ (.ref i1) >>= _) _ _ _;refine Aa (gY (h1.at λo e=>q.extBut _ _ D.i1z e) (z8.at λo e=>q.extBut _ _ D.l1z e) hx λz0 w1 G=>Ad ?_);have q5:CI z0 TO a b:=G.extBut _ _ D.TOi1 (q.extBut _ _ D.TOz z6);refine Aa (Bv q5 rfl ?_);refine Aa (EL q5 λz1 U I=>?_);replace U:CI z1 TO x b:=U;refine Aa (GS (Ad ?_));refine Aa (Aa (FK ?_));show Al _ _ (AZ (.ref i2) >>= _) _ _ _;refine Aa (gY (h2.at λo e=>I.extBut _ _ D.TOi2.symm (G.extBut _ _ D.i12.symm (q.extBut _ _ D.i2z e)))
  (z9.at λo e=>I.extBut _ _ D.l2TO (G.extBut _ _ D.l2i1 (q.extBut _ _ D.l2z e))) hy λz2 w4 L=>Ad ?_)
 have q6:CI z2 TO x b:=L.extBut _ _ D.TOi2 U;refine Aa (Bv q6 rfl ?_);refine Aa (EL q6 λl B M=>?_);replace B:CI l TO x y:=B;refine Aa (GS (Ad (Ad ?_)));refine Aa (Bv B rfl ?_);refine Aa (JE ?_);have hsz:l.objs.size=s.heap.objs.size:=by rw[M.1,L.1,I.1,G.1,q.1]
 have q8:Fp l z TI TO .ellipsis:=M.extBut _ _ D.TOz.symm (L.extBut _ _ D.i2z.symm (I.extBut _ _ D.TOz.symm (G.extBut _ _ D.i1z.symm q3)));have w6:∀c o,c≠z->c≠TO->c≠i1->c≠i2->s.heap.get? c=some o->l.get? c=some o:=λc o c1 c2 c3 c4 e=>M.extBut _ _ c2 (L.extBut _ _ c4 (I.extBut _ _ c2 (G.extBut _ _ c3 (q.extBut _ _ c1 e))));have w3:dU ka l i1 l1 (k1+1):=w1.at λo e=>M.extBut _ _ D.TOi1.symm (L.extBut _ _ D.i12 (I.extBut _ _ D.TOi1.symm e));have w5:dU kb l i2 l2 (k2+1):=w4.at λo e=>M.extBut _ _ D.TOi2.symm e;have q9:z<l.objs.size:=Am q8;have z7:TO<l.objs.size:=Am B;show Al _ _ (Ef (.ref z) (.ref l.objs.size) >>= _) _ _ _;refine Aa ?_;unfold Ef;have w7:Fp (l.push { cls:=.type "tuple",data:=.seq #[x,y] }) z TI TO .ellipsis:=Ab _ q8;refine Aa (BE w7 (by simp) λz3 q4 q1=>?_);replace q4:Fp z3 z TI TO (C0 l.objs.size):=q4;refine BE q4 (by simp) λq0 W q2=>?_;replace W:Fp q0 z TI TO (C0 l.objs.size):=W;have up:∀c o,c≠z->l.get? c=some o->q0.get? c=some o:=λc o c1 e=>q2.extBut _ _ c1 (q1.extBut _ _ c1 (Ab _ e));have q7:CI q0 l.objs.size x y:=q2.extBut _ _ (CH q9) (q1.extBut _ _ (CH q9) (Ao _ rfl));have w8:q0.objs.size=l.objs.size+1:=by rw[q2.1,q1.1,Cc]
 rw[hsz] at W q7 w8;refine Ad ⟨_,rfl,?_⟩;show Q (.ref l.objs.size) _;rw[hsz];exact hQ q0 W (up _ _ D.TOz B) (w3.at λo e=>up _ o D.i1z e) (w5.at λo e=>up _ o D.i2z e) q7 w8 λc o c1 c2 c3 c4 e=>up c o c1 (w6 c o c1 c2 c3 c4 e)
theorem aDt{ka kb:Bool}{z TI TO i1 i2 l1 l2:Addr}{k1 k2:Nat}{xs ys:Array Value}{a b:Value}{Q:Fin->Ac->Prop}(hh:A.handled=none)(D:Im z TI TO i1 i2 l1 l2)
 (hz:Fp s.heap z TI TO .none) (w4:CI s.heap TI (.ref i1) (.ref i2)) (w5:CI s.heap TO a b)
 (h1:dU ka s.heap i1 l1 k1) (h2:dU kb s.heap i2 l2 k2) (q6:fR ka s.heap l1 xs) (w6:fR kb s.heap l2 ys) (q5:xs[k1]? = none\/ys[k2]? = none)
 (hE:∀h' e,(∀c o,c≠z->c≠TO->c≠i1->c≠i2->s.heap.get? c=some o->h'.get? c=some o)->(∃o,h'.get? e=some o/\o.cls=.type "StopIteration")->E (.ref e) { s with heap:=h' }) :
 Al (A6 prog w) A (Cz.«zip.__next__» ⟨[.ref z],[]⟩) Q E s:=by
 show Al _ _ (JC (.ref z) 2 >>= _) _ _ _;refine Aa (BO hz rfl (x:=.bool false) rfl ?_);show Al _ _ (JC (.ref z) 3 >>= _) _ _ _;refine Aa (BO hz rfl (x:=.ref TI) rfl ?_);refine Aa (Bv w4 rfl ?_);show Al _ _ (BR (.ref z) >>= _) _ _ _;refine Aa ?_;unfold BR;refine Aa (BO hz rfl (x:=.none) rfl (Ad ?_));simp only[if_true];refine Aa (Cq ?_);refine Aa (BO hz rfl (x:=.ref TO) rfl ?_);refine Aa (BE hz (by simp) λq7 G l=>?_);replace G:Fp q7 z TI TO .ellipsis:=G;refine Aa ?_;simp only[IP,Ji,G6,GR];refine Aa (Aa (FK ?_));show Al _ _ (AZ (.ref i1) >>= _) _ _ _;cases hx:xs[k1]? with
 | none=>
  refine Aa (pI hh (h1.at λo e=>l.extBut _ _ D.i1z e) (q6.at λo e=>l.extBut _ _ D.l1z e) hx λq2 e q he=>?_);obtain⟨oe,I,M⟩:=he;have q0:Fp q2 z TI TO .ellipsis:=q _ _ D.i1z.symm G;have q4:e≠z:=λx=>by subst x;rw[q0] at I;cases I;simp at M
  refine BE q0 (by simp) λq3 _ B=>hE q3 e (λc o c1 _ c3 _ x=>B.extBut _ _ c1 (q _ _ c3 (l.extBut _ _ c1 x))) ⟨oe,B.extBut _ _ q4 I,M⟩
 | some x=>
  have hy:ys[k2]? = none:=by rcases q5 with h|h;rw[hx] at h;cases h;exact h
  refine Aa (gY (h1.at λo e=>l.extBut _ _ D.i1z e) (q6.at λo e=>l.extBut _ _ D.l1z e) hx λq2 w3 q=>Ad ?_);have L:CI q2 TO a b:=q.extBut _ _ D.TOi1 (l.extBut _ _ D.TOz w5);refine Aa (Bv L rfl ?_);refine Aa (EL L λq3 w1 B=>?_);refine Aa (GS (Ad ?_));refine Aa (Aa (FK ?_));show Al _ _ (AZ (.ref i2) >>= _) _ _ _;refine Aa (pI hh (h2.at λo e=>B.extBut _ _ D.TOi2.symm (q.extBut _ _ D.i12.symm (l.extBut _ _ D.i2z e)))
   (w6.at λo e=>B.extBut _ _ D.l2TO (q.extBut _ _ D.l2i1 (l.extBut _ _ D.l2z e))) hy λq8 e U he=>?_)
  obtain⟨oe,I,M⟩:=he;have q1:Fp q8 z TI TO .ellipsis:=U _ _ D.i2z.symm (B.extBut _ _ D.TOz.symm (q.extBut _ _ D.i1z.symm G));have q4:e≠z:=λx=>by subst x;rw[q1] at I;cases I;simp at M
  refine BE q1 (by simp) λq9 _ W=>hE q9 e (λc o c1 c2 c3 c4 x=>W.extBut _ _ c1 (U _ _ c4 (B.extBut _ _ c2 (q.extBut _ _ c3 (l.extBut _ _ c1 x))))) ⟨oe,W.extBut _ _ q4 I,M⟩
theorem nN{W kb:Bool}{z TI TO i1 i2 l q:Addr}{M U:Nat}{xs ys:Array Value}{x y a b:Value}{Q:Option Value->Ac->Prop}(D:Im z TI TO i1 i2 l q)
 (hz:Fp s.heap z TI TO .none) (B:CI s.heap TI (.ref i1) (.ref i2)) (G:CI s.heap TO a b)
 (h1:dU W s.heap i1 l M) (h2:dU kb s.heap i2 q U) (I:fR W s.heap l xs) (L:fR kb s.heap q ys) (hx:xs[M]? = some x) (hy:ys[U]? = some y)
 (hQ:∀h',Fp h' z TI TO (C0 s.heap.objs.size)->CI h' TO x y->dU W h' i1 l (M+1)->dU kb h' i2 q (U+1)->CI h' s.heap.objs.size x y->h'.objs.size=s.heap.objs.size+1 ->
  (∀c o,c≠z->c≠TO->c≠i1->c≠i2->s.heap.get? c=some o->h'.get? c=some o)->Q (some (.ref s.heap.objs.size)) { s with heap:=h' }) :
 Al (A6 prog w) A (Ex (.ref z)) Q E s:=by
 have hT:s.TypeIs (.ref z) "zip" := ⟨_,hz,rfl⟩
 unfold Ex;exact Aa (Ek (Bl (name:=Dd "__next__") hT EX
  (Bb EX hT IQ
   (aBU D hz B G h1 h2 I L hx hy λh' a1 a2 a3 a4 a5 a6 a7=>Ad (hQ h' a1 a2 a3 a4 a5 a6 a7)) (Io _))))
theorem pJ{ka kb:Bool}{z TI TO i1 i2 L M:Addr}{k1 k2:Nat}{xs ys:Array Value}{a b:Value}{Q:Option Value->Ac->Prop}(hh:A.handled=none)(D:Im z TI TO i1 i2 L M)
 (W:Fp s.heap z TI TO .none) (q:CI s.heap TI (.ref i1) (.ref i2)) (B:CI s.heap TO a b)
 (h1:dU ka s.heap i1 L k1) (h2:dU kb s.heap i2 M k2) (G:fR ka s.heap L xs) (I:fR kb s.heap M ys) (l:xs[k1]? = none\/ys[k2]? = none)
 (hQ:∀h',(∀c o,c≠z->c≠TO->c≠i1->c≠i2->s.heap.get? c=some o->h'.get? c=some o)->Q none { s with heap:=h' }):Al (A6 prog w) A (Ex (.ref z)) Q E s:=by
 have U:s.TypeIs (.ref z) "zip" := ⟨_,W,rfl⟩
 unfold Ex;refine Aa (Ek (Bl (name:=Dd "__next__") U EX
  (Bb EX U IQ (aDt hh D W q B h1 h2 G I l λh' e hk he=>?_) (Io _))))
 obtain⟨o,ho,hc⟩:=he;refine Aa (Cr (T:= "StopIteration") (b:=true) ⟨o,ho,hc⟩ GU ?_);exact Ad (hQ _ hk)
end
noncomputable def sC(k:Bool)(l:Addr):Obj:=match k with
 | true=>{ cls:=.type "list_iterator",data:=.fields #[.ref l,.int 0 0] }
 | false=>{ cls:=.type "tuple_iterator",data:=.fields #[.ref l,.int 0 0] }
abbrev zH1(k:Bool)(h:Heap)(l1:Addr):Heap:=h.push (sC k l1)
abbrev zH2(ka kb:Bool)(h:Heap)(l1 l2:Addr):Heap:=(zH1 ka h l1).push (sC kb l2)
abbrev zH3(ka kb:Bool)(h:Heap)(l1 l2:Addr):Heap:=(zH2 ka kb h l1 l2).push { cls:=.type "tuple",data:=.seq #[.ref h.objs.size,.ref (zH1 ka h l1).objs.size] }
abbrev zH4(ka kb:Bool)(h:Heap)(l1 l2:Addr):Heap:=(zH3 ka kb h l1 l2).push { cls:=.type "tuple",data:=.seq #[.none,.none] }
abbrev zH5(ka kb:Bool)(h:Heap)(l1 l2:Addr):Heap:=(zH4 ka kb h l1 l2).push { cls:=.type "zip",data:=.fields #[.none,.bool false,.bool false,.ref (zH2 ka kb h l1 l2).objs.size,.ref (zH3 ka kb h l1 l2).objs.size] }
theorem sD{prog:A0}{w:AN}{A:AQ}{E:Value->Ac->Prop}{s:Ac}{k:Bool}{l:Addr}{items:Array Value}{Q:Value->Ac->Prop}(B:fR k s.heap l items)
 (q:Q (.ref s.heap.objs.size) { s with heap:=s.heap.push (sC k l) }):Al (A6 prog w) A (H0 (.ref l)) Q E s:=by
 cases k with
 | true=>exact FB B q|false=>exact HH B q
theorem zN(q G:Bool)(l B:Addr)(xs ys:Array Value) :
 L3 (Cz.«zip.__new__» ⟨[.type "zip",.ref l,.ref B],[]⟩) (λ_ R s=>fR q s.heap l xs/\fR G s.heap B ys /\
  R (.ok (.ret (.ref (zH4 q G s.heap l B).objs.size))) { s with heap:=zH5 q G s.heap l B }):=
 .of_wp λprog w A R s h=>by
  obtain⟨W,g,d,tk,os⟩:=s;obtain⟨M,U,h⟩:=h;have q0:=sub_zip;have I:fR q (Shared.heap ⟨W,g,d,tk,os⟩) l xs:=M;have L:fR G (Shared.heap ⟨W.push (sC q l),g,d,tk,os⟩) B ys:=U.at λo e=>Ab _ e
  wp_walk using sD I,sD L
  exact⟨_,rfl,h⟩
theorem wW{k:Bool}{h:Heap}{it a:Addr}(e:h.get? it=some (sC k a)):dU k h it a 0:=by
 cases k with
 | true=>exact⟨_,e,rfl,rfl⟩|false=>exact⟨_,e,rfl,rfl⟩
theorem aBV{prog:A0}{w:AN}{A:AQ}{E:Value->Ac->Prop}{s:Ac}{B I:Bool}{q G:Addr}{xs ys:Array Value}{Q:Value->Ac->Prop}(M:fR B s.heap q xs)(U:fR I s.heap G ys)
 (h:∀h',Fp h' (s.heap.objs.size+4) (s.heap.objs.size+2) (s.heap.objs.size+3) .none->CI h' (s.heap.objs.size+2) (.ref s.heap.objs.size) (.ref (s.heap.objs.size+1)) ->
  CI h' (s.heap.objs.size+3) .none .none->dU B h' s.heap.objs.size q 0->dU I h' (s.heap.objs.size+1) G 0->h'.objs.size=s.heap.objs.size+5 ->
  (∀c o,s.heap.get? c=some o->h'.get? c=some o)->Q (.ref (s.heap.objs.size+4)) { s with heap:=h' }) :
 Al (A6 prog w) A (call (.type "zip") [.ref q,.ref G]) Q E s:=by
 refine callType_new F.called_zip (by decide) (F.typeCall_zip_2 _ _) (F.newCall_zip_2 _ _) (λobj=>F.args_object_init_3 obj _ _) F.entry_zip_new
  (zN B I q G xs ys) ⟨M,U,?_⟩
 have W:(zH1 B s.heap q).objs.size=s.heap.objs.size+1:=Cc ..;have z2:(zH2 B I s.heap q G).objs.size=s.heap.objs.size+2:=by rw[Cc,W]
 have z3:(zH3 B I s.heap q G).objs.size=s.heap.objs.size+3:=by rw[Cc,z2]
 have z4:(zH4 B I s.heap q G).objs.size=s.heap.objs.size+4:=by rw[Cc,z3]
 have z5:(zH5 B I s.heap q G).objs.size=s.heap.objs.size+5:=by rw[Cc,z4]
 have nf:∀k l,(sC k l).isFreed=false:=by intro k l;cases k <;> rfl
 have L:(zH5 B I s.heap q G).get? (zH4 B I s.heap q G).objs.size=some _:=Ao _ rfl;have g4:(zH5 B I s.heap q G).get? (zH3 B I s.heap q G).objs.size=some _:=Ab _ (Ao _ rfl);have g3:(zH5 B I s.heap q G).get? (zH2 B I s.heap q G).objs.size=some _:=Ab _ (Ab _ (Ao _ rfl));have g2:(zH5 B I s.heap q G).get? (zH1 B s.heap q).objs.size=some _:=Ab _ (Ab _ (Ab _ (Ao _ (nf _ _))));have g1:(zH5 B I s.heap q G).get? s.heap.objs.size=some _:=Ab _ (Ab _ (Ab _ (Ab _ (Ao _ (nf _ _)))));show _/\_;rw[z2,z3,z4] at L;rw[W,z2] at g3;rw[z3] at g4;rw[W] at g2;rw[z4];exact⟨⟨_,L,rfl⟩,h _ L g3 g4 (wW g1) (wW g2) z5 λc o x=>
  Ab _ (Ab _ (Ab _ (Ab _ (Ab _ x))))⟩
noncomputable def Itz(K:Av)(ka kb:Bool)(a b:Addr):It:=
 ⟨λi H=>∃xs ys x y,Sq ka K H a xs/\Sq kb K H b ys/\xs[i]? = some x/\ys[i]? = some y,
  λi H v H'=>∃p x y,v=.ref p/\H p=none/\K.lookup p=none/\H'=upd H p (.tup [x,y])/\∀xs ys,Sq ka K H a xs->Sq kb K H b ys->xs[i]? = some x/\ys[i]? = some y,
  λi H=>∃xs ys,Sq ka K H a xs/\Sq kb K H b ys/\(xs.length<=i\/ys.length<=i)⟩
structure aFT (z TI TO i1 i2:Addr):Prop where
 TIz:TI≠z
 TOz:TO≠z
 i1z:i1≠z
 i2z:i2≠z
 TITO:TI≠TO
 TIi1:TI≠i1
 TIi2:TI≠i2
 TOi1:TO≠i1
 TOi2:TO≠i2
 i12:i1≠i2
theorem aFT.apart{X:Cx}{pins:List (Addr×Obj)}{Z:St}{H:Hp}{s:Ac}{B G:Bool}{a b z TI TO i1 i2:Addr}{xs ys:List V}(F:aFT z TI TO i1 i2)(I:Inv X pins Z H s)(f:∀c∈[z,TI,TO,i1,i2],kB X pins H c)
 (l:Sq B X.K H a xs) (q:Sq G X.K H b ys):Im z TI TO i1 i2 a b:=
 ⟨F.TIz,F.TOz,F.i1z,F.i2z,F.TITO,F.TIi1,F.TIi2,F.TOi1,F.TOi2,F.i12,I.sqNe l (f z (by simp)),I.sqNe l (f TO (by simp)),I.sqNe l (f i1 (by simp)),I.sqNe l (f i2 (by simp)),
  I.sqNe q (f z (by simp)),I.sqNe q (f TO (by simp)),I.sqNe q (f i1 (by simp)),I.sqNe q (f i2 (by simp))⟩
theorem aDu{P:A0}{w:AN}{K:Av}{ka kb:Bool}{q0:List Aw}{tk:Nat}{tp:DK}{z TI TO i1 i2 a b:Addr}(F:aFT z TI TO i1 i2) :
 yT P w K (.Tuple q0 tk tp) (Itz K ka kb a b) [z,TI,TO,i1,i2] z (λi h=>Fp h z TI TO .none/\CI h TI (.ref i1) (.ref i2)/\(∃u v,CI h TO u v)/\dU ka h i1 a i/\dU kb h i2 b i) where
 mem:=by simp
 obj:=λi h st c M=>by
  obtain⟨W,B,⟨u,v,G⟩,h1,h2⟩:=st;have l:c=z\/c=TI\/c=TO\/c=i1\/c=i2:=by simpa using M
  rcases l with rfl|rfl|rfl|rfl|rfl;exact⟨_,W,λv z=>by cases(show Ja _=ID v from z)⟩;exact⟨_,B,λv z=>by cases(show KS _ _=ID v from z)⟩;exact⟨_,G,λv z=>by cases(show KS _ _=ID v from z)⟩;exact h1.obj;exact h2.obj
 keep:=λi h h' st k=>by obtain⟨W,B,⟨u,v,G⟩,h1,h2⟩:=st;exact⟨k z (by simp) _ W,k TI (by simp) _ B,⟨u,v,k TO (by simp) _ G⟩,h1.at λo e=>k i1 (by simp) o e,h2.at λo e=>k i2 (by simp) o e⟩
 item:=by
  intro X hP hw hK M i pins s Z H E I hf st hg;subst hP hw hK;obtain⟨W,B,⟨u,v,G⟩,h1,h2⟩:=st;obtain⟨xs,ys,x,y,ha,hb,hx,hy⟩:=hg;obtain⟨as,ra,pa,_⟩:=I.sq ha;obtain⟨bs,rb,pb,_⟩:=I.sq hb;obtain⟨ux,q7,rx⟩:=ra.get hx;obtain⟨uy,q8,ry⟩:=rb.get hy;have D:=F.apart I hf ha hb;refine nN D W B G h1 h2 pa pb (x:=ux) (y:=uy) (by simpa using q7) (by simpa using q8) λh' a1 a2 a3 a4 a5 a6 hk=>?_;refine⟨_,rfl,wpAny_letOwnedTupleGo_zip (s:={ s with heap:=h' }) a1 λL q3 U=>?_⟩;have q1:s.heap.objs.size≠z:=CH (Am W);have q6:∀c o,c∉[z,TI,TO,i1,i2]->s.heap.get? c=some o->L.get? c=some o:=λc o M e=>by
   have l:c≠z/\c≠TI/\c≠TO/\c≠i1/\c≠i2:=by simpa using M
   exact U.extBut _ _ l.1 (hk c o l.1 l.2.2.1 l.2.2.2.1 l.2.2.2.2 e)
  have tI:CI L TI (.ref i1) (.ref i2):=U.extBut _ _ F.TIz (hk _ _ F.TIz F.TITO F.TIi1 F.TIi2 B);have tO:CI L TO ux uy:=U.extBut _ _ F.TOz a2;have t1:dU ka L i1 a (i+1):=a3.at λo e=>U.extBut _ _ F.i1z e;have t2:dU kb L i2 b (i+1):=a4.at λo e=>U.extBut _ _ F.i2z e;have tT:CI L s.heap.objs.size ux uy:=U.extBut _ _ q1 a5;have hn:H s.heap.objs.size=none:=I.fresh;have I1:Inv X pins Z (upd H s.heap.objs.size (.tup [x,y])) { s with heap:=L }:=by
   refine I.turnsNew (t':=s.toks) hf q6 (λc M=>?_) (Ah _) ⟨by show 2<=sizeLine;rw[BB];decide,[ux,uy],.cons rx (.cons ry .nil),_,tT,rfl,_,rfl⟩;have l:c=z\/c=TI\/c=TO\/c=i1\/c=i2:=by simpa using M
   rcases l with rfl|rfl|rfl|rfl|rfl;exact⟨_,q3⟩;exact⟨_,tI⟩;exact⟨_,tO⟩;obtain⟨o,e,_⟩:=t1.obj;exact⟨o,e⟩;obtain⟨o,e,_⟩:=t2.obj;exact⟨o,e⟩
  refine⟨.ref s.heap.objs.size,_,I1,rfl,⟨_,x,y,rfl,hn,I.newK,rfl,λq9 w1 q4 q5=>?_⟩,⟨q3,tI,⟨_,_,tO⟩,t1,t2⟩,λc M=>?_⟩;rw[I.sq_inj q4 ha,I.sq_inj q5 hb];exact⟨hx,hy⟩;rw[aM (A4 ?_)];exact(hf c M).1;obtain⟨o,e,_⟩:∃o,s.heap.get? c=some o/\True:=by
   have l:c=z\/c=TI\/c=TO\/c=i1\/c=i2:=by simpa using M
   rcases l with rfl|rfl|rfl|rfl|rfl;exact⟨_,W,trivial⟩;exact⟨_,B,trivial⟩;exact⟨_,G,trivial⟩;obtain⟨o,e,_⟩:=h1.obj;exact⟨o,e,trivial⟩;obtain⟨o,e,_⟩:=h2.obj;exact⟨o,e,trivial⟩
  exact Am e
 done:=by
  intro X hP hw hK M i pins s Z H E I hf st hg;subst hP hw hK;obtain⟨W,B,⟨u,v,G⟩,h1,h2⟩:=st;obtain⟨xs,ys,ha,hb,q2⟩:=hg;obtain⟨as,ra,pa,_⟩:=I.sq ha;obtain⟨bs,rb,pb,_⟩:=I.sq hb;have la:=ra.length;have lb:=rb.length;refine pJ (I.ok.hd M) (F.apart I hf ha hb) W B G h1 h2 pa pb ?_ λh' hk=>⟨rfl,I.turns (t':=s.toks) hf λc o M e=>?_⟩
  rcases q2 with q|q;exact .inl (by simp;omega);exact .inr (by simp;omega);have l:c≠z/\c≠TI/\c≠TO/\c≠i1/\c≠i2:=by simpa using M
  exact hk c o l.1 l.2.2.1 l.2.2.2.1 l.2.2.2.2 e
 self:=λ_ _ _ _ _ st h=>IR st.1 h
noncomputable def aNw(K:Av)(ta:TA):TI:=λZ H R=>ta Z H λvs H1=>∃(ka kb:Bool) (a b:Addr) (xs ys:List V),vs=[.ref a,.ref b]/\Sq ka K H1 a xs/\Sq kb K H1 b ys/\R (Itz K ka kb a b) H1
theorem aDv:Cw "zip" = some (.type "zip"):=by kernel_rfl
theorem aDw(n:Nat):aFT (n+4) (n+2) (n+3) n (n+1) where
 TIz:=by simp
 TOz:=by simp
 i1z:=by simp
 i2z:=by simp
 TITO:=by simp
 TIi1:=by simp
 TIi2:=by simp
 TOi1:=by simp
 TOi2:=by simp
 i12:=by simp
theorem aIA{X:Cx}{a b:Aw}{ta:TA}{p pos:DK}{B:List Aw}{tk:Nat}{tp:DK}(hg:Gl X "zip")(hm:X.mg "zip" = none)(ha:PA X [a,b] ta)(hs:Bg [a,b] X.env=[(false,DM a X.env),(false,DM b X.env)])(L:Bg [b] X.env=[(false,DM b X.env)]) :
 PI X (.Tuple B tk tp) (.Call (.Name "zip" p) [a,b] [] pos) (aNw X.K ta):=by
 intro pins s Z H R I h;refine Call_ (eY I hg hm aDv (B6 (thn (ha pos pins s Z H _ I h) λus s1 ⟨vs,H1,l,r1,q1⟩=>?_) (by rw[hs,L]) (by rw[L];rfl)));obtain⟨ka,kb,a1,b1,xs,ys,e,q1,q2,q⟩:=q1;subst e;cases r1 with
 | cons r rr=>
  cases rr with
  | cons r' rr=>
   cases rr;cases r;cases r';obtain⟨as,ra,pa,_⟩:=l.sq q1;obtain⟨bs,rb,pb,_⟩:=l.sq q2;refine aBV pa pb λh' hz M U h1 h2 hsz hk=>IR (s:={ s1 with heap:=h' }) hz ?_;refine⟨s1.heap.objs.size+4,_,_,_,H1,rfl,l.kept (t':=s1.toks) hk,aDu (aDw _),⟨hz,M,⟨_,_,U⟩,h1,h2⟩,λc hc=>?_,q⟩;have W:c=s1.heap.objs.size+4\/c=s1.heap.objs.size+2\/c=s1.heap.objs.size+3\/c=s1.heap.objs.size\/c=s1.heap.objs.size+1:=by simpa using hc
   have G:s1.heap.objs.size<=c:=by rcases W with rfl|rfl|rfl|rfl|rfl <;> omega
   exact l.fpOk G (l.hok.fresh G)
noncomputable def Its(x:Str):It:=⟨λi _=>i<x.cps.size,λi H v H'=>H'=H/\∃c,x.cps[i]? = some c/\v=.str ⟨#[c]⟩,λi _=>x.cps.size<=i⟩
theorem wX{P:A0}{w:AN}{K:Av}{tg:Aw}{it:Addr}{x:Str}{t:Lz}{ty:String}(hn:["enumerate", "zip", "dict_itemiterator", "dict_reverseitemiterator", "odict_iterator", "itertools.zip_longest", "itertools.pairwise"].contains ty=false)
 (W0:∀A':AQ,A'.handled=none->Walks P w A' it [it] [it] x.cps.size (SignAt x) (λi h=>h.IsStrIter it ty x t i))
 (S:∀(A:AQ) (i:Nat) (s:Ac) (Q:Value->Ac->Prop) (E:Value->Ac->Prop),s.heap.IsStrIter it ty x t i->Q (.ref it) s->Al (A6 P w) A (H0 (.ref it)) Q E s):yT P w K tg (Its x) [it] it (λi h=>i<=x.cps.size/\h.IsStrIter it ty x t i) where
 mem:=by simp
 obj:=λi h st b l=>by
  have e:b=it:=by simpa using l
  subst e;obtain⟨_,o,e,c,d⟩:=st;exact⟨o,e,λv z=>by rw[d] at z;cases z⟩
 keep:=λi h h' st k=>by obtain⟨hi,o,e,c,d⟩:=st;exact⟨hi,o,k it (by simp) o e,c,d⟩
 item:=by intro X L W G M i pins s Z H E I q st B;subst L W G;obtain⟨f0,f1,f2,f3,f4,f5⟩:=q it (by simp);refine(W0 X.A (I.ok.hd M)).item i s _ _ B st.2 λv h' tk hv st' kk=>?_;obtain⟨c,u,U,rfl⟩:=hv;have I1:Inv X pins Z H { s with heap:=h',toks:=tk }:=I.turned (λb o l e=>kk b o (by simpa using l) e) f0 f1 f3 f4 f5;obtain⟨o,e,oc,od⟩:=id st';exact⟨_,rfl,oH (s:={ s with heap:=h',toks:=tk }) e oc od hn ⟨.str ⟨#[c]⟩,H,I1,⟨u,rfl⟩,⟨rfl,c,U,rfl⟩,⟨B,st'⟩,λb l=>(q b l).1⟩⟩
 done:=by intro X L W G M i pins s Z H E I q st B;subst L W G;obtain⟨f0,f1,f2,f3,f4,f5⟩:=q it (by simp);have e:i=x.cps.size:=Jj st.1 B;subst e;exact(W0 X.A (I.ok.hd M)).done s _ _ st.2 λh' tk eb=>⟨rfl,I.turned (λb o l e=>eb b o (by simpa using l) e) f0 f1 f3 f4 f5⟩
 self:=λA i s Q E st h=>S A i s Q E st.2 h
theorem aIB{X:Cx}{tg l:Aw}{tl:TE}(hl:PE X l tl):PI X tg l (λZ H R=>tl Z H λx H1=>(∃a,x=.ref a/\(((∃xs,SqL X.K H1 a xs)/\R (Itl X.K a) H1)\/((∃xs,SqT X.K H1 a xs)/\R (Itt X.K a) H1)))\/∃z,x=.str z/\R (Its z) H1):=by
 intro pins s Z H R I h;refine thn (hl pins s Z H _ I h) λv s1 ⟨x,H1,B,r1,q1⟩=>?_;rcases q1 with⟨a,e,q⟩|⟨z,e,q⟩
 subst e;cases r1;rcases q with⟨⟨xs,U⟩,q⟩|⟨⟨xs,U⟩,q⟩
 obtain⟨L,rv,p,hz⟩:=B.list U;refine FB p.isList ?_;refine⟨s1.heap.objs.size,[s1.heap.objs.size],_,_,H1,rfl,B.kept (t':=s1.toks) λb o e=>Ab _ e,aBA a _,⟨_,Ao _ rfl,rfl,rfl⟩,λb G=>?_,q⟩;have e:b=s1.heap.objs.size:=by simpa using G
 subst e;exact B.fpOk (Ah _) (B.hok.fresh (Ah _));obtain⟨L,rv,p,hz⟩:=B.tuple U;refine HH (show s1.heap.IsTuple a L.toArray from p) ?_;refine⟨s1.heap.objs.size,[s1.heap.objs.size],_,_,H1,rfl,B.kept (t':=s1.toks) λb o e=>Ab _ e,yU a _,⟨_,Ao _ rfl,rfl,rfl⟩,λb G=>?_,q⟩;have e:b=s1.heap.objs.size:=by simpa using G
 subst e;exact B.fpOk (Ah _) (B.hok.fresh (Ah _));subst e;obtain⟨t,rfl⟩:=r1;cases W:z.cps.all (·<128) with
 | false=>
  refine wpAny_pyIter_wide W ⟨s1.heap.objs.size,[s1.heap.objs.size],_,_,H1,rfl,B.kept (t':=s1.toks) λb o e=>Ab _ e,wX (ty:= "str_iterator") (x:=z) (t:=t) (by decide) (λA' M=>Walks.strWide M _ z t) (λA i s Q E st h=>wpAny_pyIter_striter_wide st h),⟨AL _,_,Ao _ rfl,rfl,rfl⟩,λb G=>?_,q⟩;have e:b=s1.heap.objs.size:=by simpa using G
  subst e;exact B.fpOk (Ah _) (B.hok.fresh (Ah _))
 | true=>
  refine wpAny_pyIter_ascii W ⟨s1.heap.objs.size,[s1.heap.objs.size],_,_,H1,rfl,B.kept (t':=s1.toks) λb o e=>Ab _ e,wX (ty:= "str_ascii_iterator") (x:=z) (t:=t) (by decide) (λA' M=>Walks.strAscii M _ z t) (λA i s Q E st h=>wpAny_pyIter_striter_ascii st h),⟨AL _,_,Ao _ rfl,rfl,rfl⟩,λb G=>?_,q⟩;have e:b=s1.heap.objs.size:=by simpa using G
  subst e;exact B.fpOk (Ah _) (B.hok.fresh (Ah _))
end L2
namespace Hp
open PySem PySem.Spec PyProof.Rows L2
theorem Kp.refl(R:Addr->Prop)(H:Hp):Kp R H H:=λ_ _ h _=>h
theorem Kp.same{R:Addr->Prop}{H H':Hp}(s:aL H H'):Kp R H H':=λa o h _=>s a o h
section
variable {K:Fg} {RT Y old R:Addr->Prop} {Z:Sg} {ZV:L2.St} {H H':Hp}
theorem Kp.seqL(k:Kp R H H'){a:Addr}{xs:List V}(n:¬ R a)(h:SqL K H a xs):SqL K H' a xs:=by rcases h with(h|⟨o,h⟩)|h;exact .inl (.inl (k _ _ h n));exact .inl (.inr ⟨o,k _ _ h n⟩);exact .inr h
theorem Kp.seqT(k:Kp R H H')(B:∀a,R a->RtO H a){a:Addr}{xs:List V}(h:SqT K H a xs):SqT K H' a xs:=by
 have q:∀{o:HO},H a=some o->(∀ys,o≠.lst ys)->(∀φ,o≠.ext φ)->¬ R a:=λ{o} e G I z=>by
  rcases B a z with⟨ys,l⟩|⟨ys,l⟩
  rw[e] at l;cases l;exact G _ rfl;rw[e] at l;cases l;exact I _ rfl
 rcases h with(h|⟨o,h⟩)|h;exact .inl (.inl (k _ _ h (q h (λ_ z=>by cases z) λ_ z=>by cases z)));exact .inl (.inr ⟨o,k _ _ h (q h (λ_ z=>by cases z) λ_ z=>by cases z)⟩);exact .inr h
theorem Reps.kp{ex:Addr->Prop}{ds:List D}{xs:List V}(r:Reps K H ex ds xs)(k:Kp R H H')(q:∀a,R a->RtO H a)(I:∀a,R a->ex a):Reps K H' ex ds xs:=
 r.keep λa o e B G=>k a o e λz=>by
  rcases q a z with⟨ys,l⟩|⟨ys,l⟩
  rw[e] at l;cases l;exact B ys rfl (I a z);rw[e] at l;cases l;exact G _ rfl
theorem Rep.kp{ex:Addr->Prop}{d:D}{x:V}(r:Rep K H ex d x)(k:Kp R H H')(q:∀a,R a->RtO H a)(I:∀a,R a->ex a):Rep K H' ex d x:=
 r.keep λa o e B G=>k a o e λz=>by
  rcases q a z with⟨ys,l⟩|⟨ys,l⟩
  rw[e] at l;cases l;exact B ys rfl (I a z);rw[e] at l;cases l;exact G _ rfl
noncomputable def rtF(RT:Addr->Prop)(Z:Sg)(ZV:L2.St)(al:List Nat)(a:Addr):Prop:=RT a/\¬ alR Z ZV al a
theorem fA:∀(al:List Nat) (Z:Sg) (i:Nat),(freeze Z al)[i]? = (Z[i]?).map λs=>if i∈al then s.freeze else s
 | [],Z,i=>by cases q:Z[i]? <;> simp[freeze,q]|j::al,Z,i=>by
  rw[freeze,fA al];cases B:Z[j]? with
  | none=>
   simp only;cases q:Z[i]? with
   | none=>rfl|some s=>
    have G:i≠j:=λe=>by subst e;rw[q] at B;cases B
    simp[G]
  | some L=>simp only;by_cases l:i=j;subst l;have I:i<Z.length:=(Ar.mp B).1;rw[AU I,B];simp only[DA,Au,true_or,if_true];split;cases L <;> rfl;rfl;rw[Ap (DI l)];simp[l]
theorem pK:∀(al:List Nat) (Z:Sg),(freeze Z al).length=Z.length
 | [],Z=>rfl|j::al,Z=>by rw[freeze,pK al];split;rw[AM];rfl
theorem freeze_sh{al:List Nat}{i:Nat}{pa:Bool}{d:D}(h:(freeze Z al)[i]? = some (.sh pa d)):Z[i]? = some (.sh pa d)\/∃ds,i∈al/\Z[i]? = some (.own pa ds)/\d=.lst ds:=by
 rw[fA] at h;cases q:Z[i]? with
 | none=>rw[q] at h;cases h|some s=>
  rw[q] at h;have h:(if i∈al then s.freeze else s)=.sh pa d:=As h;split at h;rename_i hi;cases s with
  | dead=>cases h|sh pa' d'=>cases h;exact .inl rfl|own pa' ds'=>cases h;exact .inr ⟨ds',hi,rfl,rfl⟩|dct _=>cases h
  exact .inl (by rw[h])
theorem fB{al:List Nat}{i:Nat}{pa:Bool}{ds:List D}(h:(freeze Z al)[i]? = some (.own pa ds)):Z[i]? = some (.own pa ds)/\i∉al:=by
 rw[fA] at h;cases q:Z[i]? with
 | none=>rw[q] at h;cases h|some s=>rw[q] at h;have h:(if i∈al then s.freeze else s)=.own pa ds:=As h;split at h;cases s <;> cases h;rename_i hi;exact⟨by rw[h],hi⟩
theorem zP{al:List Nat}{i:Nat}{ds:List (NK×D)}(h:(freeze Z al)[i]? = some (.dct ds)):Z[i]? = some (.dct ds):=by
 rw[fA] at h;cases q:Z[i]? with
 | none=>rw[q] at h;cases h|some s=>
  rw[q] at h;have h:(if i∈al then s.freeze else s)=.dct ds:=As h;split at h;cases s with
  | dct d=>exact congrArg some h|_=>cases h
  rw[h]
theorem Sx.frz(S:Sx K RT Y old Z ZV H)(al:List Nat):Sx K (rtF RT Z ZV al) Y old (freeze Z al) ZV H where
 sh:=λi pa d h=>by
  rcases freeze_sh h with h|⟨ds,hi,U,e⟩
  obtain⟨v,l,B⟩:=S.sh i pa d h;exact⟨v,l,B.weak λa z=>z.elim (λz=>.inl z.1) .inr⟩;subst e;obtain⟨a,xs,l,B,I,G,L⟩:=S.own i pa ds U;refine⟨.ref a,l,a,xs,rfl,SqL.of B,?_,L.weak λa z=>z.elim (λz=>.inl z.1) .inr⟩;rintro (z|z|⟨_,z⟩);exact z.2 ⟨i,hi,⟨pa,ds,U⟩,l⟩;exact G (S.yo a z);exact G z
 own:=λi pa ds h=>by obtain⟨h,hi⟩:=fB h;obtain⟨a,xs,l,B,I,G,L⟩:=S.own i pa ds h;refine⟨a,xs,l,B,⟨I,?_⟩,G,L.weak λa z=>z.elim (λz=>.inl z.1) .inr⟩;rintro ⟨j,W,⟨pa',ds',q⟩,M⟩;have:=S.inj i j pa pa' ds ds' a h q l M;subst this;exact hi W
 trk:=λa z=>S.trk a (z.elim (λz=>.inl z.1) .inr)
 yo:=S.yo
 tk:=S.tk
 rt:=λa z=>S.rt a z.1
 inj:=λi j pa pa' ds ds' a l B I G=>S.inj i j pa pa' ds ds' a (fB l).1 (fB B).1 I G
 len:=by rw[pK];exact S.len
 dx:=S.dx.imp id (λ_ _ e=>⟨zP e,rfl⟩) (λ_ _ _ _ _ _ e=>e) (λa xs e z o=>⟨e,z,λ⟨j,_,⟨pa,ds,q⟩,M⟩=>by
  obtain⟨b,ys,l,B,I,G,L⟩:=S.own j pa ds q;rw[M] at l;cases l;rw[e] at B;cases B⟩) λ_ _ r=>r
theorem Tk.new{p:Addr}{o:HO}(t:Tk K H)(h:K.lookup p=none):Tk K (upd H p o):=λb l=>by by_cases e:b=p;rw[e];exact h;rw[aM e] at l;exact t b l
noncomputable def Nw(K:Fg)(H:Hp)(a:Addr):Prop:=H a=none/\K.lookup a=none
theorem aFU{a:Addr}{xs:List V}(q:SqL K H a xs):¬ Nw K H a:=by
 rintro ⟨n,k⟩;rcases q with(q|⟨o,q⟩)|⟨o,l,m,q,_⟩
 rw[n] at q;cases q;rw[n] at q;cases q;rw[k] at q;cases q
theorem Reps.outN{ex:Addr->Prop}{d:List D}{v:List V}(h:Reps K H ex d v):Reps K H (λb=>ex b\/Nw K H b) d v:=
 Reps.imp (λ_ _ q=>q) (λb xs nb q=>⟨λz=>z.elim nb (aFU q),q⟩) (λ_ _ q=>q) d v h
theorem RvN.sub{ex:Addr->Prop}{v:Vl}{d:D}{x:V}(h:Rep K H' (λa=>exV RT Y old Z ZV v.pa v.al a\/ex a) d x):Rep K H' (λa=>exV RT Y old Z ZV (v.sub d).pa (v.sub d).al a\/ex a) (v.sub d).d x:=by unfold Vl.sub;by_cases l:noL d=true;rw[if_pos l];exact Rep.free d x l h;rw[if_neg l];exact h
structure aBW (K:Fg) (RT Y old:Addr->Prop) (Z:Sg) (ZV:L2.St) (H1:Hp) (J:L2.It) (xs:List Vl) (al:List Nat):Prop where
 sub:∀v∈xs,∀j∈v.al,j∈al
 nofr:∀v∈xs,v.fr=false
 ok:∀(R:Addr->Prop),(∀b,R b->rtF RT Z ZV al b)->∀(i:Nat) (H:Hp),Kp R H1 H->(i<xs.length->J.go i H)/\(xs.length<=i->J.stop i H)/\∀x H',J.yld i H x H'->∀v,xs[i]? = some v->aL H H'/\(Tk K H->Tk K H')/\Rep K H' (λa=>exV RT Y old Z ZV v.pa v.al a\/Nw K H1 a) v.d x
theorem zQ{v:Vl}{d:D}:∀j∈(v.sub d).al,j∈v.al:=by unfold Vl.sub Vl.cl;split;intro j l;cases l;intro j l;exact l
theorem pL{v:Vl}{d:D}:(v.sub d).fr=false:=by unfold Vl.sub Vl.cl;split <;> rfl
theorem lX{x:Vl}{ds:List D}{i:Nat}{v:Vl}(h:(items x ds)[i]? = some v):∃d,ds[i]? = some d/\v=x.sub d:=by
 unfold items at h;rw[A2] at h;cases q:ds[i]? with
 | none=>rw[q] at h;cases h|some d=>rw[q] at h;exact⟨d,rfl,(As h).symm⟩
theorem lY{al:List Nat}{pa:Bool}{b:Addr}(h:rtF RT Z ZV al b):exV RT Y old Z ZV pa al b:=.inl h
theorem nB:∀(as bs:List D),(gQ as bs).length=min as.length bs.length
 | [],_=>by simp[gQ]|_::_,[]=>by simp[gQ]|_::as,_::bs=>by rw[gQ,lC,nB as bs,lC,lC];omega
theorem wY:∀{as bs:List D} {i:Nat} {a b:D},as[i]? = some a->bs[i]? = some b->(gQ as bs)[i]? = some (.tup [a,b])
 | [],_,_,_,_,h,_=>by simp at h|_::_,[],_,_,_,_,h=>by simp at h|_::_,_::_,0,_,_,h,h'=>by simp at h h';subst h h';rfl|_::as,_::bs,i+1,a,b,h,h'=>by have:=wY (as:=as) (bs:=bs) (i:=i) (a:=a) (b:=b) (by simpa using h) (by simpa using h');simpa[gQ] using this
theorem aFV(S:Sx K RT Y old Z ZV H){x:Vl}{ds:List D}{a:Addr}{xs:List V}(q:SqL K H a xs)(n:¬ exV RT Y old Z ZV x.pa x.al a)(r:Reps K H (exV RT Y old Z ZV x.pa x.al) ds xs) :
 aBW K RT Y old Z ZV H (Itl K a) (items x ds) x.al where
 sub:=λv l j M=>by obtain⟨d,_,e⟩:=Ax.mp l;subst e;exact zQ j M
 nofr:=λv l=>by obtain⟨d,_,e⟩:=Ax.mp l;subst e;exact pL
 ok:=λR G i H1 k=>by
  have L:SqL K H1 a xs:=k.seqL (λz=>n (lY (G a z))) q;have U:Reps K H1 (λa=>exV RT Y old Z ZV x.pa x.al a\/Nw K H a) ds xs:=r.outN.kp k (λb z=>S.rt b (G b z).1) λb z=>.inl (lY (G b z));have hl:(items x ds).length=xs.length:=by unfold items;rw[lM,r.length]
  refine⟨λhi=>⟨xs,xs[i]'(by omega),L,Ae (by omega)⟩,λhi=>⟨xs,L,by omega⟩,λy H' I v l=>?_⟩;obtain⟨e,I⟩:=I;subst e;obtain⟨d,hd,e⟩:=lX l;subst e;obtain⟨y',B,W⟩:=U.get hd;rw[I xs L] at B;cases B;exact⟨aL.refl _,id,RvN.sub W⟩
theorem aIC(S:Sx K RT Y old Z ZV H){x:Vl}{ds:List D}{a:Addr}{xs:List V}(q:SqT K H a xs)(r:Reps K H (exV RT Y old Z ZV x.pa x.al) ds xs) :
 aBW K RT Y old Z ZV H (Itt K a) (items x ds) x.al where
 sub:=λv l j M=>by obtain⟨d,_,e⟩:=Ax.mp l;subst e;exact zQ j M
 nofr:=λv l=>by obtain⟨d,_,e⟩:=Ax.mp l;subst e;exact pL
 ok:=λR G i H1 k=>by
  have L:SqT K H1 a xs:=k.seqT (λb z=>S.rt b (G b z).1) q;have U:Reps K H1 (λa=>exV RT Y old Z ZV x.pa x.al a\/Nw K H a) ds xs:=r.outN.kp k (λb z=>S.rt b (G b z).1) λb z=>.inl (lY (G b z));have hl:(items x ds).length=xs.length:=by unfold items;rw[lM,r.length]
  refine⟨λhi=>⟨xs,xs[i]'(by omega),L,Ae (by omega)⟩,λhi=>⟨xs,L,by omega⟩,λy H' I v l=>?_⟩;obtain⟨e,I⟩:=I;subst e;obtain⟨d,hd,e⟩:=lX l;subst e;obtain⟨y',B,W⟩:=U.get hd;rw[I xs L] at B;cases B;exact⟨aL.refl _,id,RvN.sub W⟩
theorem aDx{lo:Int}{m:Nat}{xs:List Vl}(q:xs=((AF m).map λ(k:Nat)=>Vl.cl (.int (lo+(k:Int))))):aBW K RT Y old Z ZV H (Itr lo m) xs [] where
 sub:=λv l j G=>by subst q;obtain⟨d,_,e⟩:=Ax.mp l;subst e;exact G
 nofr:=λv l=>by subst q;obtain⟨d,_,e⟩:=Ax.mp l;subst e;rfl
 ok:=λR I i H1 k=>by
  have L:xs.length=m:=by rw[q,lM,Cd]
  refine⟨λhi=>(show i<m by omega),λhi=>(show m<=i by omega),λy H' B v l=>?_⟩;obtain⟨e,B⟩:=B;subst e B;subst q;rw[A2] at l;have hi:i<m:=by have:=(Ar.mp (show((AF m).map λ(k:Nat)=>Vl.cl (.int (lo+(k:Int))))[i]? = some v by rw[A2];exact l)).1;simpa using this
  rw[List.getElem?_range hi] at l;cases l;exact⟨aL.refl _,id,rfl⟩
theorem aID{z:Str}{xs:List Vl}(q:xs=(z.cps.toList.map λn=>Vl.cl (.str ⟨#[n]⟩))):aBW K RT Y old Z ZV H (Its z) xs [] where
 sub:=λv l j I=>by subst q;obtain⟨d,_,e⟩:=Ax.mp l;subst e;exact I
 nofr:=λv l=>by subst q;obtain⟨d,_,e⟩:=Ax.mp l;subst e;rfl
 ok:=λR L i H1 k=>by
  have M:xs.length=z.cps.size:=by rw[q,lM,AK]
  refine⟨λhi=>(show i<z.cps.size by omega),λhi=>(show z.cps.size<=i by omega),λy H' B v l=>?_⟩;obtain⟨e,c,G,B⟩:=B;subst e B;subst q;rw[A2,AT,G] at l;cases l;exact⟨aL.refl _,id,rfl⟩
theorem aIE(S:Sx K RT Y old Z ZV H){ka kb:Bool}{as bs:List D}{a b:Addr}{xs ys:List V}{pa:Bool}{al:List Nat}(qa:Sq ka K H a xs)(qb:Sq kb K H b ys)(na:ka=true->¬ exV RT Y old Z ZV pa al a)(nb:kb=true->¬ exV RT Y old Z ZV pa al b)
 (ra:Reps K H (exV RT Y old Z ZV pa al) as xs) (rb:Reps K H (exV RT Y old Z ZV pa al) bs ys):aBW K RT Y old Z ZV H (Itz K ka kb a b) (items ⟨.non,false,pa,al⟩ (gQ as bs)) al where
 sub:=λv I j hj=>by obtain⟨d,_,e⟩:=Ax.mp I;subst e;exact zQ j hj
 nofr:=λv I=>by obtain⟨d,_,e⟩:=Ax.mp I;subst e;exact pL
 ok:=λR G i H1 k=>by
  have keep:∀{L:Bool} {c:Addr} {zs:List V},(L=true->¬ exV RT Y old Z ZV pa al c)->Sq L K H c zs->Sq L K H1 c zs:=by
   intro L c zs nn q;cases L with
   | true=>exact k.seqL (λz=>nn rfl (lY (G c z))) q|false=>exact k.seqT (λb z=>S.rt b (G b z).1) q
  have l:=keep na qa;have B:=keep nb qb;have q0:Reps K H1 (λa=>exV RT Y old Z ZV pa al a\/Nw K H a) as xs:=ra.outN.kp k (λb z=>S.rt b (G b z).1) λb z=>.inl (lY (G b z));have q1:Reps K H1 (λa=>exV RT Y old Z ZV pa al a\/Nw K H a) bs ys:=rb.outN.kp k (λb z=>S.rt b (G b z).1) λb z=>.inl (lY (G b z));have hl:(items ⟨.non,false,pa,al⟩ (gQ as bs)).length=min xs.length ys.length:=by unfold items;rw[lM,nB,ra.length,rb.length]
  have ge:∀(h1:i<xs.length) (h2:i<ys.length),True:=λ_ _=>trivial;refine⟨λhi=>?_,λhi=>⟨xs,ys,l,B,by omega⟩,λy H' W v I=>?_⟩;have h1:i<xs.length:=by omega
  have h2:i<ys.length:=by omega
  exact⟨xs,ys,xs[i],ys[i],l,B,Ae h1,Ae h2⟩;obtain⟨p,x,y',rfl,hp,hk,rfl,hh⟩:=W;obtain⟨hx,W⟩:=hh xs ys l B;obtain⟨d,hd,e⟩:=lX I;subst e;obtain⟨d1,M,q2⟩:=q0.get' hx;obtain⟨d2,U,q3⟩:=q1.get' W;rw[wY M U] at hd;cases hd;have sm:aL H1 (upd H1 p (.tup [x,y'])):=aL.new hp;refine⟨sm,λtk=>tk.new hk,RvN.sub (v:=⟨.non,false,pa,al⟩) ?_⟩;exact⟨p,[x,y'],rfl,SqT.of bP,.cons (q2.grow sm) (.cons (q3.grow sm) .nil)⟩
end
section
variable {X:Cx} {P:Pg} {Γ:Ct} {n:Nat} {RT Y old:Addr->Prop} {Z:Sg} {tg:Aw}
noncomputable def wI(X:Cx)(P:Pg)(n:Nat)(RT Y old:Addr->Prop)(Z:Sg)(it:Hp.It):TI:=λZV H R=>Sx X.K RT Y old Z ZV H/\RE (walk P (call P n) Z it) λxs=>∀J H1,Tk X.K H1->aL H H1->aBW X.K RT Y old Z ZV H1 J xs.1 xs.2->R J H1
theorem uE{l:Aw}{t t':TI}(h:PI X tg l t)(f:∀ZV H R,Tk X.K H->t' ZV H R->t ZV H λJ H'=>Tk X.K H'->R J H'):PI X tg l t':=λpins s ZV H R I L=>thn (h pins s ZV H _ I (f ZV H R I.tk L)) λv s1 G=>thn G λM s2 ⟨it,fp,tn,J,H',e,B,T,st,fo,q⟩=>⟨it,fp,tn,J,H',e,B,T,st,fo,q B.tk⟩
theorem aLj{c:E}{e:Aw}(L:PE X e (WE X P n RT Y old Z c)):PI X tg e (wI X P n RT Y old Z (.seq c)):=by
 refine uE (aIB L) λZV H RR t ⟨S,h⟩=>?_;have h:=RE.bind' (show RE (ev P (call P n) Z c >>= λx=>(match x.d with
  | .lst ds=>R.ok (items x ds,x.al)|.tup ds=>R.ok (items x ds,x.al)|.str a=>R.iff (decide (a.length<=lim)) (R.ok (a.cps.toList.map λn=>Vl.cl (.str ⟨#[n]⟩),[]))|_=>.bad)) _ from h)
 refine wE.one S h λx u H1 l U I G=>?_;have rv:=G.rv S;split at l;rename_i ds B;obtain⟨a,xs,e,q,M,r⟩:=rv.lst B;exact .inl ⟨a,e,.inl ⟨⟨xs,q⟩,λt'=>l _ _ t' G.1 (aFV I q M r)⟩⟩;rename_i ds B;obtain⟨a,xs,e,q,r⟩:=rv.tup B;exact .inl ⟨a,e,.inr ⟨⟨xs,q⟩,λt'=>l _ _ t' G.1 (aIC I q r)⟩⟩;rename_i z B;obtain⟨c,l⟩:=l.iff;exact .inr ⟨z,rv.str B,λt'=>l _ _ t' G.1 (aID rfl)⟩;exact l.elim
theorem pM(i j:Int):(gD i j).map Vl.cl=(AF (j-i).toNat).map λ(k:Nat)=>Vl.cl (.int (i+(k:Int))):=by unfold gD;rw[A7];rfl
theorem mB{k:Int}(h:aJ k=true):-(2 ^ 62)<=k/\k<2 ^ 62:=by unfold aJ at h;simp only[bA,Aq] at h;exact h
theorem aIF(M:Mc X P Γ n){b:E}{e:Aw}{f:Str}{p pos:DK}(W:f=("range" : Str))(hg:cW Γ f=true)(U:PE X e (WE X P n RT Y old Z b))(G:aV e=true):PI X tg (.Call (.Name f p) [e] [] pos) (wI X P n RT Y old Z (.rng (.c (.int 0)) b)):=by
 subst W;refine uE (aBB (M.gl hg) (M.md.blt _ (by decide +kernel)) (lU U aAI G) (aC G)) λZV H RR t ⟨S,h⟩=>?_;have h:RE (ev P (call P n) Z b) λy=>RE (match (D.int 0),y.d with|.int i,.int j=>R.iff (aJ i&&aJ j) (R.ok ((gD i j).map Vl.cl,[]))|_,_=>.bad) _:=
  RE.bind' (show RE (ev P (call P n) Z b >>= λy=>(match (D.int 0),y.d with|.int i,.int j=>R.iff (aJ i&&aJ j) (R.ok ((gD i j).map Vl.cl,[]))|_,_=>.bad)) _ from h)
 refine⟨S,?_⟩;show RE (ev P (call P n) Z b >>= λx=>evs P (call P n) Z .nil >>= λxs=>R.ok (x::xs)) _;rw[RE.bind];refine h.mono λy l=>?_;split at l;rename_i i j I L;cases I;obtain⟨c,l⟩:=l.iff;rw[bA] at c;have q:=mB c.2;intro us H1 t1 s1 r1;obtain⟨u,r',B,ru,hr⟩:=r1;rw[show r'=[] from hr] at B;subst B;refine⟨j,by rw[ru.int L],q.1,q.2,λt'=>l _ _ t' s1 (aDx ?_)⟩;rw[pM];simp;exact l.elim
theorem aIG(M:Mc X P Γ n){a b:E}{I L:Aw}{f:Str}{p pos:DK}(hf:f=("range" : Str))(hg:cW Γ f=true)(ha:PE X I (WE X P n RT Y old Z a))(hb:PE X L (WE X P n RT Y old Z b))(B:aV I=true)(l:aV L=true) :
 PI X tg (.Call (.Name f p) [I,L] [] pos) (wI X P n RT Y old Z (.rng a b)):=by subst hf;refine uE (aBC (M.gl hg) (M.md.blt _ (by decide +kernel)) (lU ha (lU hb aAI l) B) (by rw[aC B,aC l];rfl) (aC l)) λZV H RR t ⟨S,h⟩=>?_;have h:=RE.bind' (show RE (ev P (call P n) Z a >>= λx=>ev P (call P n) Z b >>= λy=>(match x.d,y.d with|.int i,.int j=>R.iff (aJ i&&aJ j) (R.ok ((gD i j).map Vl.cl,[]))|_,_=>.bad)) _ from h);refine⟨S,?_⟩;show RE (ev P (call P n) Z a >>= λx=>evs P (call P n) Z (.cons b .nil) >>= λxs=>R.ok (x::xs)) _;rw[RE.bind];refine h.mono λx hx=>?_;rw[RE.bind];show RE (ev P (call P n) Z b >>= λx=>evs P (call P n) Z .nil >>= λxs=>R.ok (x::xs)) _;rw[RE.bind];refine(RE.bind' hx).mono λy G=>?_;split at G;rename_i i j e1 e2;obtain⟨c,G⟩:=G.iff;rw[bA] at c;have W:=mB c.1;have c2:=mB c.2;intro us H1 t1 s1 r1;obtain⟨u,r',eu,ru,u2,r2,q,U,hr⟩:=r1;rw[show r2=[] from hr] at q;subst q;subst eu;refine⟨i,j,by rw[ru.int e1,U.int e2],⟨W.1,W.2,c2.1,c2.2⟩,λt'=>G _ _ t' s1 (aDx ?_)⟩;rw[pM];exact G.elim
theorem aDy{ZV:L2.St}{H:Hp}{x:Vl}{u:V}{ds:List D}(B:Rv X.K RT Y old Z ZV H x u)(h:jC x.d=some ds):∃(k:Bool) (a:Addr) (xs:List V),u=.ref a/\Sq k X.K H a xs/\(k=true->¬ exV RT Y old Z ZV x.pa x.al a)/\Reps X.K H (exV RT Y old Z ZV x.pa x.al) ds xs:=by unfold jC at h;split at h;rename_i ds' l;cases h;obtain⟨a,xs,e,q,G,r⟩:=B.lst l;exact⟨true,a,xs,e,q,λ_=>G,r⟩;rename_i ds' l;cases h;obtain⟨a,xs,e,q,r⟩:=B.tup l;exact⟨false,a,xs,e,q,(λz=>absurd z bN),r⟩;cases h
theorem aLk(M:Mc X P Γ n){a b:E}{I L:Aw}{f:Str}{p pos:DK}{q:List Aw}{tk:Nat}{tp:DK}(hf:f=("zip" : Str))(hg:cW Γ f=true)(ha:PE X I (WE X P n RT Y old Z a))(hb:PE X L (WE X P n RT Y old Z b))(G:aV I=true)(l:aV L=true) :
 PI X (.Tuple q tk tp) (.Call (.Name f p) [I,L] [] pos) (wI X P n RT Y old Z (.zip a b)):=by
 subst hf;refine uE (aIA (M.gl hg) (M.md.blt _ (by decide +kernel)) (lU ha (lU hb aAI l) G) (by rw[aC G,aC l];rfl) (aC l)) λZV H RR t ⟨S,h⟩=>?_;have h:=RE.bind' (show RE (ev P (call P n) Z a >>= λx=>ev P (call P n) Z b >>= λy=>(match jC x.d,jC y.d with
  | some as,some bs=>R.ok (items ⟨.non,false,x.pa||y.pa,x.al++y.al⟩ (gQ as bs),x.al++y.al)|_,_=>.bad)) _ from h)
 refine⟨S,?_⟩;show RE (ev P (call P n) Z a >>= λx=>evs P (call P n) Z (.cons b .nil) >>= λxs=>R.ok (x::xs)) _;rw[RE.bind];refine h.mono λx hx=>?_;rw[RE.bind];show RE (ev P (call P n) Z b >>= λx=>evs P (call P n) Z .nil >>= λxs=>R.ok (x::xs)) _;rw[RE.bind];refine(RE.bind' hx).mono λy hy=>?_;split at hy;rename_i as bs e1 e2;intro us H1 t1 s1 r1;obtain⟨u,r',eu,ru,u2,r2,B,q0,hr⟩:=r1;rw[show r2=[] from hr] at B;subst B;subst eu;obtain⟨ka,a1,xs,rfl,qa,na,ra⟩:=aDy ru e1;obtain⟨kb,b1,ys,rfl,qb,nb,rb⟩:=aDy q0 e2;have S1:=S.grow s1 t1;have w1:∀c,exV RT Y old Z ZV (x.pa||y.pa) (x.al++y.al) c->exV RT Y old Z ZV x.pa x.al c:=λc z=>z.mono (λhp=>by rw[hp];rfl) λj U=>AS _ U;have w2:∀c,exV RT Y old Z ZV (x.pa||y.pa) (x.al++y.al) c->exV RT Y old Z ZV y.pa y.al c:=λc z=>z.mono (λhp=>by rw[hp,Ij]) λj U=>AB _ U;exact⟨ka,kb,a1,b1,xs,ys,rfl,qa,qb,λt'=>hy _ _ t' s1 (aIE S1 qa qb (λW z=>na W (w1 _ z)) (λW z=>nb W (w2 _ z)) (ra.weak w1) (rb.weak w2))⟩;exact hy.elim
end
noncomputable def gs:List Nat->TGs
 | []=>aKm|i::is=>aGU (rQ i) (gs is)
noncomputable def gT(K:Fg):T->TG
 | .n i=>rQ i|.t is=>aKn K is.length (gs is)
section
variable {K:Fg} {RT Y old:Addr->Prop} {Z:Sg} {ZV:L2.St} {H H':Hp}
theorem set_some{α:Type}{l:List α}{i j:Nat}{x y:α}(e:(l.set i x)[j]? = some y):(i=j/\x=y/\i<l.length)\/(i≠j/\l[j]? = some y):=by by_cases q:i=j;subst q;have B:i<(l.set i x).length:=(Ar.mp e).1;rw[AM] at B;rw[AU B] at e;cases e;exact .inl ⟨rfl,rfl,B⟩;rw[Ap q] at e;exact .inr ⟨q,e⟩
theorem Sx.setSh(S:Sx K RT Y old Z ZV H){i:Nat}{pa:Bool}{d:D}{u:V}(h:Rep K H (λa=>RT a\/exB Y old pa a) d u):Sx K RT Y old (Z.set i (.sh pa d)) (ZV.set i (some u)) H where
 sh:=λj pa' d' e=>by
  rcases set_some e with⟨rfl,e,W⟩|⟨l,e⟩
  cases e;exact⟨u,AU (by rw[<-S.len];exact W),h⟩;obtain⟨v,I,L⟩:=S.sh j pa' d' e;exact⟨v,by rw[Ap l];exact I,L⟩
 own:=λj pa' ds e=>by
  rcases set_some e with⟨rfl,e,W⟩|⟨l,e⟩
  cases e;obtain⟨a,xs,I,L⟩:=S.own j pa' ds e;exact⟨a,xs,by rw[Ap l];exact I,L⟩
 trk:=S.trk
 yo:=S.yo
 tk:=S.tk
 rt:=S.rt
 inj:=λj j' pa' q ds ds' a B G M U=>by
  rcases set_some B with⟨_,e,_⟩|⟨n1,B⟩
  cases e;rcases set_some G with⟨_,e,_⟩|⟨n2,G⟩
  cases e;rw[Ap n1] at M;rw[Ap n2] at U;exact S.inj j j' pa' q ds ds' a B G M U
 len:=by rw[AM,AM];exact S.len
 dx:=S.dx.imp id (λj ds e=>by
  rcases set_some e with⟨_,z,_⟩|⟨l,e⟩
  cases z;exact⟨e,Ap l⟩) (λ_ _ _ _ _ _ e=>e) (λ_ _ e z _=>⟨e,z⟩) λ_ _ r=>r
theorem Rep.out{ex:Addr->Prop}{d:D}{v:V}{a:Addr}(h:Rep K H ex d v)(n:H a=none)(k:K.lookup a=none):Rep K H (λb=>b=a\/ex b) d v:=
 Rep.imp (λ_ _ q=>q) (λb xs nb q=>⟨λz=>z.elim (λz=>by
  subst z;rcases q with(q|⟨o,q⟩)|⟨o,l,m,q,_⟩
  rw[n] at q;cases q;rw[n] at q;cases q;rw[k] at q;cases q) nb,q⟩) (λ_ _ q=>q) d v h
theorem Reps.out{ex:Addr->Prop}{d:List D}{v:List V}{a:Addr}(h:Reps K H ex d v)(n:H a=none)(k:K.lookup a=none):Reps K H (λb=>b=a\/ex b) d v:=
 Reps.imp (λ_ _ q=>q) (λb xs nb q=>⟨λz=>z.elim (λz=>by
  subst z;rcases q with(q|⟨o,q⟩)|⟨o,l,m,q,_⟩
  rw[n] at q;cases q;rw[n] at q;cases q;rw[k] at q;cases q) nb,q⟩) (λ_ _ q=>q) d v h
theorem Sx.storeOwn(S:Sx K RT Y old Z ZV H){i:Nat}{a:Addr}{xs:List V}{ds:List D}{pa:Bool}(s:aL H H')(t:Tk K H')(hn:H a=none)(W:H' a=some (.lst xs))(r:Reps K H' (λb=>(RT b\/b=a)\/exB Y old pa b) ds xs) :
 Sx K (λb=>RT b\/b=a) Y old (Z.set i (.own pa ds)) (ZV.set i (some (.ref a))) H' where
 sh:=λj pa' d' e=>by
  rcases set_some e with⟨rfl,e,M⟩|⟨l,e⟩
  cases e;obtain⟨v,I,L⟩:=S.sh j pa' d' e;refine⟨v,by rw[Ap l];exact I,((L.out hn (t a (by rw[W];simp))).grow s).weak λb z=>?_⟩;rcases z with(z|z)|z;exact .inr (.inl z);exact .inl z;exact .inr (.inr z)
 own:=λj pa' ds' e=>by
  rcases set_some e with⟨rfl,e,M⟩|⟨l,e⟩
  cases e;exact⟨a,xs,AU (by rw[<-S.len];exact M),W,.inr rfl,λz=>S.trk a (.inr (.inr z)) hn,r⟩;obtain⟨a',q1,I,L,h3,h4,h5⟩:=S.own j pa' ds' e;refine⟨a',q1,by rw[Ap l];exact I,s _ _ L,.inl h3,h4,((h5.out hn (t a (by rw[W];simp))).grow s).weak λb z=>?_⟩;rcases z with(z|z)|z;exact .inr (.inl z);exact .inl z;exact .inr (.inr z)
 trk:=λb z q=>by rcases z with(z|z)|z;exact S.trk b (.inl z) (s.free q);rw[z,W] at q;cases q;exact S.trk b (.inr z) (s.free q)
 yo:=S.yo
 tk:=t
 rt:=λb z=>by rcases z with z|z;exact(S.rt b z).grow s;rw[z];exact .inl ⟨xs,W⟩
 inj:=λj j' pa' q0 q2 q3 c e1 B U G=>by
  have fr:∀{j:Nat} {pa:Bool} {ds:List D},Z[j]? = some (.own pa ds)->ZV[j]? = some (some (.ref a))->False:=λ{j pa ds} e q=>by obtain⟨a',q1,I,L,_⟩:=S.own j pa ds e;rw[q] at I;cases I;rw[hn] at L;cases L
  rcases set_some e1 with⟨rfl,e,M⟩|⟨n1,e1⟩
  rcases set_some B with⟨rfl,_,_⟩|⟨n2,B⟩
  rfl;rw[AU (by rw[<-S.len];exact M)] at U;cases U;rw[Ap n2] at G;exact(fr B G).elim;rw[Ap n1] at U;rcases set_some B with⟨rfl,e,M⟩|⟨n2,B⟩
  rw[AU (by rw[<-S.len];exact M)] at G;cases G;exact(fr e1 U).elim;rw[Ap n2] at G;exact S.inj j j' pa' q0 q2 q3 c e1 B U G
 len:=by rw[AM,AM];exact S.len
 dx:=S.dx.imp id (λj ds e=>by
  rcases set_some e with⟨_,z,_⟩|⟨l,e⟩
  cases z;exact⟨e,Ap l⟩) (λ_ _ _ _ _ _ e=>e) (λb ys e z _=>⟨s _ _ e,.inl z⟩) λ_ _ r=>aL.seqT s r
theorem iQ{v:Vl}(h:v.fr=false):v.slot=.sh v.pa v.d:=by unfold Vl.slot;rw[h]
theorem aFW{v:Vl}{ds:List D}(h:v.fr=true)(hd:v.d=.lst ds):v.slot=.own v.pa ds:=by unfold Vl.slot;rw[h,hd]
theorem Sx.store(S:Sx K RT Y old Z ZV H){v:Vl}{u:V}(ro:Ro K RT Y old Z ZV H H' v u)(t:Tk K H')(i:Nat) :
 ∃l,Sx K l Y old ((freeze Z v.al).set i v.slot) (ZV.set i (some u)) H'/\∀b,l b->RT b\/H b=none:=by by_cases q:v.fr=true;obtain⟨s,h⟩:=ro;rw[if_pos q] at h;obtain⟨a,xs,ds,G,I,B,L,r⟩:=h;subst G;rw[aFW q I];refine⟨_,(S.frz v.al).storeOwn s t B L (r.weak λb z=>?_),λb z=>z.elim (λz=>.inl z.1) λz=>.inr (by rw[z];exact B)⟩;rcases z with(z|z)|z;exact .inr (.inl z);exact .inl z;exact .inr (.inr z);rw[iQ (by simpa using q)];exact⟨_,((S.grow ro.1 t).frz v.al).setSh (ro.rv S),λb z=>.inl z.1⟩
theorem aHl:∀{is:List Nat} {us:List V} {ZV:L2.St} {H:Hp} {Q:L2.St->Hp->Prop},is.length=us.length->Q ((is.zip us).foldl (λs p=>s.set p.1 (some p.2)) ZV) H->gs is us ZV H Q
 | [],[],_,_,_,_,h=>⟨rfl,h⟩
 | [],_::_,_,_,_,e,_=>by simp at e|_::_,[],_,_,_,e,_=>by simp at e|i::is,u::us,ZV,H,Q,e,h=>⟨u,us,rfl,aHl (is:=is) (us:=us) (by simpa using e) h⟩
theorem wZ{v:Vl}{d:D}:(v.sub d).slot=.sh (!noL d&&v.pa) d:=by
 rw[iQ pL];unfold Vl.sub Vl.cl;split;rename_i h;rw[h];rfl;rename_i h;have:noL d=false:=by simpa using h
 rw[this];rfl
theorem Sx.setAll{v:Vl}:∀{is:List Nat} {ds:List D} {us:List V} {Z:Sg} {ZV:L2.St},Sx K RT Y old Z ZV H->Reps K H (λa=>RT a\/exB Y old v.pa a) ds us ->
 Sx K RT Y old ((is.zip ds).foldl (λZ p=>Z.set p.1 (v.sub p.2).slot) Z) ((is.zip us).foldl (λs p=>s.set p.1 (some p.2)) ZV) H
 | [],_,_,_,_,S,_=>S|_::_,[],us,_,_,S,r=>by rw[show us=[] from r];exact S|i::is,d::ds,us,Z,ZV,S,r=>by
  obtain⟨x,G,e,l,q⟩:=r;subst e;refine Sx.setAll (v:=v) (is:=is) (ds:=ds) (us:=G) ?_ q;show Sx K RT Y old (Z.set i (v.sub d).slot) (ZV.set i (some x)) H;rw[wZ];refine S.setSh ?_;cases B:noL d with
  | true=>exact Rep.free d x B l|false=>exact l
theorem mD{α:Type}{q:Type}(f:q->α):∀{is:List Nat} {bs:List q} {l:List α} {j:Nat},j∉is->((is.zip bs).foldl (λs p=>s.set p.1 (f p.2)) l)[j]? = l[j]?
 | [],_,_,_,_=>rfl|_::_,[],_,_,_=>rfl|i::is,b::bs,l,j,h=>by
  have h':i≠j/\j∉is:=by refine⟨λe=>h (by simp[e]),λz=>h (Ag _ z)⟩
  rw[AE,BS,mD f (is:=is) (bs:=bs) h'.2,Ap h'.1]
theorem xA{α:Type}{q:Type}(f:q->α):∀{is:List Nat} {bs:List q} {l:List α},((is.zip bs).foldl (λs p=>s.set p.1 (f p.2)) l).length=l.length
 | [],_,_=>rfl|_::_,[],_=>rfl|i::is,b::bs,l=>by rw[AE,BS,xA f (is:=is) (bs:=bs),AM]
theorem fold_mem{α:Type}{B:Type}(f:B->α):∀{is:List Nat} {bs:List B} {l:List α} {j:Nat} {x:α},((is.zip bs).foldl (λs p=>s.set p.1 (f p.2)) l)[j]? = some x->l[j]? = some x\/∃b,x=f b
 | [],_,_,_,_,h=>.inl h|_::_,[],_,_,_,h=>.inl h|i::is,b::bs,l,j,x,h=>by
  rw[AE,BS] at h;rcases fold_mem f (is:=is) (bs:=bs) h with q|q;rcases set_some q with⟨_,e,_⟩|⟨_,e⟩
  exact .inr ⟨b,e.symm⟩;exact .inl e;exact .inr q
theorem pN{v:Vl}{is:List Nat}{l:Sg}(e:bK Z v (.t is)=.ok l):∃ds,v.d=.tup ds/\ds.length=is.length/\l=(is.zip ds).foldl (λZ p=>Z.set p.1 (v.sub p.2).slot) Z:=by unfold bK at e;simp only at e;split at e;rename_i ds hd;split at e;rename_i q;cases e;exact⟨ds,hd,q,rfl⟩;cases e;cases e
theorem pO{v:Vl}{i:Nat}{l:Sg}(e:bK Z v (.n i)=.ok l):l=Z.set i v.slot:=by cases(show R.ok (Z.set i v.slot)=R.ok l from e);rfl
theorem aDz{v:Vl}{t:T}{l:Sg}{j:Nat}(e:bK Z v t=.ok l)(h:j∉tIx t):l[j]? = Z[j]? := by
 cases t with
 | n i=>rw[pO e];exact Ap λz=>h (by simp[tIx,z])|t is=>obtain⟨ds,_,_,e⟩:=pN e;rw[e];exact mD (λd=>(v.sub d).slot) h
theorem aDA{v:Vl}{t:T}{l:Sg}(e:bK Z v t=.ok l):l.length=Z.length:=by
 cases t with
 | n i=>rw[pO e,AM]|t is=>obtain⟨ds,_,_,e⟩:=pN e;rw[e];exact xA (λd=>(v.sub d).slot)
theorem aDB{v:Vl}{t:T}{l:Sg}{j:Nat}{pa:Bool}{ds:List D}(B:v.fr=false)(e:bK Z v t=.ok l)(h:l[j]? = some (.own pa ds)):Z[j]? = some (.own pa ds):=by
 cases t with
 | n i=>
  rw[pO e,iQ B] at h;rcases set_some h with⟨_,e,_⟩|⟨_,e⟩
  cases e;exact e
 | t is=>
  obtain⟨ds',_,_,e⟩:=pN e;rw[e] at h;rcases fold_mem (λd=>(v.sub d).slot) h with q|⟨b,q⟩
  exact q;rw[wZ] at q;cases q
theorem aAJ(S:Sx K RT Y old Z ZV H){t:T}{v:Vl}{u:V}{Q:L2.St->Hp->Prop}{I:Sg}(B:v.fr=false)(h:Rep K H (λa=>RT a\/exB Y old v.pa a) v.d u)(e:bK Z v t=.ok I)
 (q:∀l,Sx K RT Y old I l H->(∀j,j∉tIx t->l[j]? = ZV[j]?)->Q l H):gT K t u ZV H Q:=by
 cases t with
 | n i=>rw[pO e,iQ B] at q;exact q _ (S.setSh h) λj G=>Ap λz=>G (by simp[tIx,z])|t is=>obtain⟨ds,hd,M,e⟩:=pN e;rw[hd] at h;obtain⟨a,xs,rfl,L,r⟩:=h;have U:=r.length;refine⟨a,xs,rfl,L,by omega,aHl (by omega) (q _ ?_ λj G=>?_)⟩;rw[e];exact S.setAll r;exact mD (λd=>some d) G
end
section
variable {X:Cx} {P:Pg} {Γ:Ct} {n:Nat} {RT Y old:Addr->Prop} {Z:Sg} {tg:Aw} {pos:DK}
theorem xB(M:Mc X P Γ n):∀{is:List Nat} {es:List Aw},is.length=es.length->((is.zip es).all λp=>match p.2 with|.Name x _=>bQ Γ p.1 x|_=>false)=true ->
 PGs X es (gs is)/\(D3 es X.env).length=is.length/\(D3 es X.env).findIdx? (·.1)=none
 | [],[],_,_=>⟨aFj,rfl,rfl⟩
 | [],_::_,e,_=>by simp at e|_::_,[],e,_=>by simp at e|i::is,e::es,hl,h=>by
  rw[AE,EJ,bA] at h;obtain⟨q,B,G⟩:=xB M (is:=is) (es:=es) (by simpa using hl) h.2;cases e with
  | Name x p=>have hs:bQ Γ i x=true:=h.1;unfold bQ at hs;simp only[bA,beq_iff_eq] at hs;have l:D3 (.Name x p::es) X.env=(false,FZ (.Name x p) X.env)::D3 es X.env:=rfl;refine⟨aCA (aAv M.nd (by rw[M.N];exact hs.1.1) (M.loc hs.1.2) (M.st x hs.1.2)) q (by rw[l];rfl),?_,?_⟩;rw[l,lC,lC,B];rw[l,List.findIdx?_cons];simp[G]|_=>cases h.1
theorem aDC(M:Mc X P Γ n){t:T}(h:nM Γ t tg=true):PG X tg (gT X.K t):=by
 cases t with
 | n i=>
  cases tg with
  | Name x p=>have hs:bQ Γ i x=true:=h;unfold bQ at hs;simp only[bA,beq_iff_eq] at hs;exact aAv M.nd (by rw[M.N];exact hs.1.1) (M.loc hs.1.2) (M.st x hs.1.2)|_=>cases h
 | t is=>
  cases tg with
  | Tuple es k p=>have h:(is.length==es.length&&(is.zip es).all λp=>match p.2 with|.Name x _=>bQ Γ p.1 x|_=>false)=true:=h;rw[bA,beq_iff_eq] at h;obtain⟨l,q,B⟩:=xB M h.1 h.2;exact aHR M.calm l q B|_=>cases h
noncomputable def ch0(k:Nat)(caps:List Nat)(Z:Sg):Sg:=Aj k .dead++caps.map λi=>(Z[i]?).getD .dead
theorem ch0_get{k:Nat}{caps:List Nat}{Z:Sg}{j:Nat}{s:Sl}(h:(ch0 k caps Z)[j]? = some s):s=.dead\/∃B i,j=k+B/\caps[B]? = some i/\Z[i]? = some s:=by
 unfold ch0 at h;by_cases l:j<k;rw[A5 (by simpa using l),C5,if_pos l] at h;cases h;exact .inl rfl;rw[A1 (by simpa using l),Bk,A2] at h;cases e:caps[j-k]? with
 | none=>rw[e] at h;cases h|some i=>
  rw[e] at h;have h':(Z[i]?).getD .dead=s:=As h;cases q:Z[i]? with
  | none=>rw[q] at h';exact .inl h'.symm|some z=>rw[q] at h';exact .inr ⟨j-k,i,by omega,e,by rw[q];exact congrArg some h'⟩
theorem aDD{k:Nat}{caps:List Nat}{Z:Sg}{j:Nat}{s:Sl}(l:j<k)(h:(ch0 k caps Z)[j]? = some s):s=.dead:=by unfold ch0 at h;rw[A5 (by simpa using l),C5,if_pos l] at h;cases h;rfl
theorem uF{k:Nat}{caps:List Nat}{ZV:L2.St}{j i:Nat}{v:V}(e:caps[j]? = some i)(h:ZV[i]? = some (some v)):(jP k caps ZV)[k+j]? = some (some v):=by unfold jP;rw[A1 (by simp),Bk,A2,Bm,e];show some ((ZV[i]?).getD none)=_;rw[h];rfl
theorem uG{k:Nat}{caps:List Nat}{ZV:L2.St}{j i:Nat}{v:V}(e:caps[j]? = some i)(h:(jP k caps ZV)[k+j]? = some (some v)):ZV[i]? = some (some v):=by
 unfold jP at h;rw[A1 (by simp),Bk,A2,Bm,e] at h;have h':(ZV[i]?).getD none=some v:=As h;cases q:ZV[i]? with
 | none=>rw[q] at h';cases h'|some z=>rw[q] at h';exact congrArg some h'
theorem mE{α:Type}:∀{l:List α},l.Nodup->∀{i j:Nat} {x:α},l[i]? = some x->l[j]? = some x->i=j
 | [],_,_,_,_,h,_=>by simp at h|a::l,hn,0,0,_,_,_=>rfl|a::l,hn,0,j+1,x,h1,h2=>by
  have e:a=x:=by simpa using h1
  have:x∈l:=mG (by simpa using h2);subst e;exact absurd this (B2.mp hn).1
 | a::l,hn,i+1,0,x,h1,h2=>by
  have e:a=x:=by simpa using h2
  have:x∈l:=mG (by simpa using h1);subst e;exact absurd this (B2.mp hn).1
 | a::l,hn,i+1,j+1,x,h1,h2=>congrArg (·+1) (mE (B2.mp hn).2 (i:=i) (j:=j) (x:=x) (by simpa using h1) (by simpa using h2))
theorem Sx.child{K:Fg}{ZV:L2.St}{H:Hp}(S:Sx K RT Y old Z ZV H){k:Nat}{caps:List Nat}(nd:caps.Nodup):Sx K RT Y old (ch0 k caps Z) (jP k caps ZV) H where
 sh:=λj pa d e=>by
  rcases ch0_get e with z|⟨j',i,rfl,I,hs⟩
  cases z;obtain⟨v,G,U⟩:=S.sh i pa d hs;exact⟨v,uF I G,U⟩
 own:=λj pa ds e=>by
  rcases ch0_get e with z|⟨j',i,rfl,I,hs⟩
  cases z;obtain⟨a,xs,G,U⟩:=S.own i pa ds hs;exact⟨a,xs,uF I G,U⟩
 trk:=S.trk
 yo:=S.yo
 tk:=S.tk
 rt:=S.rt
 inj:=λj1 j2 pa pa' ds ds' a L M e3 e4=>by
  rcases ch0_get L with z|⟨q1,i1,rfl,l,W⟩
  cases z;rcases ch0_get M with z|⟨q2,i2,rfl,B,q0⟩
  cases z;have:=S.inj i1 i2 pa pa' ds ds' a W q0 (uG l e3) (uG B e4);subst this;rw[mE nd l B]
 len:=by unfold ch0 jP;rw[lA,lA,lM,lM,Bk,Bk]
 dx:=S.dx.imp (λj=>(caps[j-k]?).getD 0) (λj ds e=>by
  rcases ch0_get e with z|⟨j',i,rfl,I,hs⟩
  cases z;rw[Bm,I];refine⟨hs,?_⟩;obtain⟨a,xs,G,_⟩:=S.dx.at' i ds hs;rw[uF I G];exact G.symm) (λj1 j2 ds ds' L M q=>by
  rcases ch0_get L with z|⟨q1,i1,rfl,l,_⟩
  cases z;rcases ch0_get M with z|⟨q2,i2,rfl,B,_⟩
  cases z;rw[Bm,Bm,l,B] at q;have q:i1=i2:=q;subst q;rw[mE nd l B]) (λ_ _ e z _=>⟨e,z⟩) λ_ _ r=>r
theorem Sx.forget{K:Fg}{Z':Sg}{ZV:L2.St}{H:Hp}(S:Sx K RT Y old Z ZV H)(M:Z'.length=Z.length)(h:∀(j:Nat) (s:Sl),Z'[j]? = some s->s=.dead\/Z[j]? = some s):Sx K RT Y old Z' ZV H where
 sh:=λj pa d e=>by rcases h j _ e with z|z;cases z;exact S.sh j pa d z
 own:=λj pa d e=>by rcases h j _ e with z|z;cases z;exact S.own j pa d z
 trk:=S.trk
 yo:=S.yo
 tk:=S.tk
 rt:=S.rt
 inj:=λl q pa pa' ds ds' a B G I L=>by rcases h l _ B with z|U;cases z;rcases h q _ G with z|W;cases z;exact S.inj l q pa pa' ds ds' a U W I L
 len:=by rw[M];exact S.len
 dx:=S.dx.imp id (λj ds e=>(h j _ e).elim (λz=>by cases z) λz=>⟨z,rfl⟩) (λ_ _ _ _ _ _ e=>e) (λ_ _ e z _=>⟨e,z⟩) λ_ _ r=>r
noncomputable def wTs(X:Cx)(P:Pg)(n:Nat)(RT Y old:Addr->Prop)(Z:Sg)(cs:Es):TT:=λZV H Q=>Sx X.K RT Y old Z ZV H/\RE (tsts P (call P n) Z cs) λk=>∀H',Tk X.K H'->aL H H'->Q k H'
theorem aIH:PTs X [] (wTs X P n RT Y old Z .nil):=λpins s ZV H Q I ⟨S,h⟩=>aFO pins s ZV H Q I ((show ∀H',Tk X.K H'->aL H H'->Q true H' from h) H I.tk (aL.refl H))
theorem aII{c:E}{e:Aw}(h:PT X e (WT X P n RT Y old Z c)):PTs X [e] (wTs X P n RT Y old Z (.cons c .nil)):=λpins s ZV H Q I ⟨S,l⟩=>aFP h pins s ZV H Q I ⟨S,by
 have l:=RE.bind' (show RE (tst P (call P n) Z c >>= λx=>if x=true then tsts P (call P n) Z .nil else R.ok false) _ from l);refine l.mono λk q=>?_;cases k with
 | true=>exact q|false=>exact q⟩
theorem Rvs.append{K:Fg}{ZV:L2.St}{H:Hp}:∀{vs ws:List Vl} {us zs:List V},Rvs K RT Y old Z ZV H vs us->Rvs K RT Y old Z ZV H ws zs->Rvs K RT Y old Z ZV H (vs++ws) (us++zs)
 | [],_,_,_,h,q=>by rw[show _=[] from h];exact q|v::vs,_,_,_,h,q=>by obtain⟨u,r,e,l,B⟩:=h;subst e;exact⟨u,_,rfl,l,Rvs.append B q⟩
noncomputable def lv(k:Nat)(caps al:List Nat)(v:Vl):Vl:=⟨v.d,false,v.pa,al++v.al.filterMap λj=>caps[j-k]?⟩
theorem xC{f:Vl->R (Option Vl)}{x:Vl}{xs rs:List Vl}(h:dS f (x::xs)=.ok rs):∃y ys,f x=.ok y/\dS f xs=.ok ys/\rs=(match y with|some y=>y::ys|none=>ys):=by
 have h:(f x >>= λy=>dS f xs >>= λys=>(match y with|some y=>R.ok (y::ys)|none=>R.ok ys))=R.ok rs:=h;cases l:f x with
 | ok y=>
  rw[l] at h;have h:(dS f xs >>= λys=>(match y with|some y=>R.ok (y::ys)|none=>R.ok ys))=R.ok rs:=h;cases q:dS f xs with
  | ok ys=>
   rw[q] at h;refine⟨y,ys,rfl,rfl,?_⟩;cases y with
   | none=>cases(show R.ok ys=R.ok rs from h);rfl|some y=>cases(show R.ok (y::ys)=R.ok rs from h);rfl
  | exc z=>rw[q] at h;cases h|bad=>rw[q] at h;cases h
 | exc z=>rw[l] at h;cases h|bad=>rw[l] at h;cases h
theorem R.bind_ok{α l:Type}{x:R α}{f:α->R l}{b:l}(h:(x >>= f)=.ok b):∃a,x=.ok a/\f a=.ok b:=by
 cases x with
 | ok a=>exact⟨a,rfl,h⟩|exc z=>cases h|bad=>cases h
theorem aDE{k:Nat}{caps:List Nat}{t:T}{it:Hp.It}{cond:Es}{elt:E}(w9:caps.Nodup)(hk:∀i∈tIx t,i<k){ZV:L2.St}{H:Hp}{Q:VK}(hw:WE X P n RT Y old Z (.comp k caps t it cond elt) ZV H Q) :
 aDl k caps (wI X P n RT Y old Z it) (gT X.K t) (λZV H Q=>∃RT Y old I,wTs X P n RT Y old I cond ZV H Q) (λZV H Q=>∃RT Y old I,WE X P n RT Y old I elt ZV H Q) ZV H λv H'=>Tk X.K H'->Q v H':=by
 obtain⟨S,h⟩:=hw
 let f:List Nat->Vl->R (Option Vl):=λal x=>bK (ch0 k caps (freeze Z al)) x t >>= λI=>tsts P (call P n) I cond >>= λb=>if b=true then (ev P (call P n) I elt >>= λy=>R.ok (some y)) else R.ok none
 have h:=RE.bind' (show RE (walk P (call P n) Z it >>= λxs=>dS (f xs.2) xs.1 >>= λvs=>R.iff (decide (vs.length<=lim)) (R.ok (fJ k caps xs.2 vs))) (Wn X RT Y old Z ZV H Q) from h);refine⟨S,h.mono λxs hx J H1 t1 s1 ok=>?_⟩;obtain⟨vs,evs,hv⟩:=(RE.bind' hx).eq;obtain⟨hl,hq⟩:=hv.iff;have hl:=of_decide_eq_true hl;have hq:Wn X RT Y old Z ZV H Q (fJ k caps xs.2 vs):=hq;have S1:=S.grow s1 t1;have Sf:=S1.frz xs.2;refine⟨λi m ys q5 Hc=>m=xs.1.length-i/\i<=xs.1.length/\aL H1 Hc/\Tk X.K Hc/\Sx X.K (rtF RT Z ZV xs.2) Y old (ch0 k caps (freeze Z xs.2)) q5 Hc/\(∀j,k<=j->q5[j]? = (jP k caps ZV)[j]?) /\
  ∃ws rs,vs=ws++rs/\dS (f xs.2) (xs.1.drop i)=.ok rs/\Rvs X.K RT Y old Z ZV Hc (ws.map (lv k caps xs.2)) ys,⟨_,rfl,AL _,aL.refl _,t1,Sf.child w9,λ_ _=>rfl,[],vs,rfl,evs,rfl⟩,?_⟩
 rintro i m ys q5 Hc ⟨hm,hi,sc,tc,Sc,w4,ws,rs,l,q0,rvs⟩;have q8:=ok.ok (λ_=>False) (λ_ z=>z.elim) i Hc (Kp.same sc);have q7:=rvs.length;rw[lM] at q7;have z5:ws.length<=vs.length:=by rw[l,lA];omega
 by_cases G:i<xs.1.length;refine .inr ⟨q8.1 G,by rw[<-q7,BB];have:lim=1000000:=rfl;omega,λx H' hy=>?_⟩;have z0:xs.1[i]? = some xs.1[i]:=Ae G;obtain⟨sm,z4,rv⟩:=q8.2.2 x H' hy xs.1[i] z0;have rv:Rep X.K H' (exV RT Y old Z ZV xs.1[i].pa xs.1[i].al) xs.1[i].d x:=Rep.weak rv λa z=>.inl z;rw[CY G] at q0;obtain⟨yo,q9,U,q3,B⟩:=xC q0;obtain⟨I,q1,U⟩:=R.bind_ok U;obtain⟨b,eb,U⟩:=R.bind_ok U;have q4:xs.1[i]∈xs.1:=AG G;have w5:=ok.nofr _ q4;have rep:Rep X.K H' (λa=>rtF RT Z ZV xs.2 a\/exB Y old xs.1[i].pa a) xs.1[i].d x:=Rep.weak rv λa z=>by rcases z with z|z;exact .inl ⟨z.1,λq=>z.2 (q.mono (ok.sub _ q4))⟩;exact .inr z
 refine aAJ (Sc.grow sm (z4 tc)) w5 rep q1 λW S2 q6=>⟨_,_,_,I,S2,?_⟩
 rw[eb];intro H3 t3 s3;have L:∀j,k<=j->W[j]? = (jP k caps ZV)[j]? := λj M=>by rw[q6 j λz=>absurd (hk j z) (Gm.mpr M),w4 j M]
 have q2:∀{H5:Hp},Sx X.K (rtF RT Z ZV xs.2) Y old I W H5->Sx X.K (rtF RT Z ZV xs.2) Y old (ch0 k caps (freeze Z xs.2)) W H5:=λ{H5} S5=>S5.forget (aDA q1).symm λj s hs=>by by_cases M:j∈tIx t;exact .inl (aDD (hk j M) hs);exact .inr (by rw[aDz q1 M];exact hs)
 cases b with
 | false=>rw[if_neg bN] at U ⊢;cases(show R.ok none=R.ok yo from U);have B:rs=q9:=B;subst B;exact⟨_,by omega,rfl,G,sc.trans (sm.trans s3),t3,q2 (S2.grow s3 t3),L,ws,rs,l,q3,rvs.grow (sm.trans s3)⟩|true=>
  rw[if_pos rfl] at U ⊢;obtain⟨y,ey,U⟩:=R.bind_ok U;cases(show R.ok (some y)=R.ok yo from U);have B:rs=y::q9:=B;subst B;refine⟨_,_,_,I,S2.grow s3 t3,?_⟩;rw[ey];intro u H4 t4 w6;have s4:=w6.1;have z3:Rep X.K H4 (exV (rtF RT Z ZV xs.2) Y old I W y.pa y.al) y.d u:=w6.rv (S2.grow s3 t3);refine⟨_,by omega,rfl,G,sc.trans (sm.trans (s3.trans s4)),t4,q2 ((S2.grow s3 t3).grow s4 t4),L,ws++[y],q9,by rw[l];simp,q3,?_⟩;rw[Bj];refine(rvs.grow (sm.trans (s3.trans s4))).append ⟨u,[],rfl,?_,rfl⟩;show Rep X.K H4 (exV RT Y old Z ZV y.pa (xs.2++y.al.filterMap λj=>caps[j-k]?)) y.d u;refine z3.weak λc z=>?_;rcases z with⟨z1,z2⟩|z;refine .inl ⟨⟨z1,λq=>z2 (q.mono λj M=>AS _ M)⟩,λq=>z2 ?_⟩;obtain⟨j,M,⟨pa,ds,ho⟩,hV⟩:=q;have ho:=aDB w5 q1 ho;rcases ch0_get ho with z|⟨j',i',rfl,hc,hs⟩
  cases z;rw[L _ (EE _ _)] at hV;refine⟨i',AB _ (Bs.mpr ⟨k+j',M,by rw[Bm];exact hc⟩),⟨pa,ds,(fB hs).1⟩,uG hc hV⟩;exact .inr z
 have w7:i=xs.1.length:=by omega
 subst w7;rw[FT] at q0;cases(show R.ok []=R.ok rs from q0);rw[AV] at l;subst l;refine .inl ⟨q8.2.1 (Ah _),by rw[<-q7];exact eT hl,λp hp t'=>hq _ _ t' ?_⟩;have w1:=S.grow (s1.trans sc) tc;have w3:(vs.map (lv k caps xs.2)).map (·.d)=vs.map (·.d):=by rw[A7];rfl
 have rr:Reps X.K Hc (exV RT Y old Z ZV (cV vs) (xs.2++(bE vs).filterMap λj=>caps[j-k]?)) (vs.map (·.d)) ys:=by rw[<-w3];refine rvs.reps λv hv=>?_;obtain⟨w,hw,e⟩:=Ax.mp hv;subst e;refine⟨λz=>wP hw z,λj M=>?_⟩;rcases AJ.mp M with z|z;exact AS _ z;obtain⟨j',w8,e⟩:=Bs.mp z;exact AB _ (Bs.mpr ⟨j',nA hw j' w8,e⟩)
 unfold fJ;split;rename_i hn;exact(Ro.fresh hp t' rfl rfl w1 (Reps.free _ _ hn rr)).from (s1.trans sc)
 exact(Ro.fresh hp t' rfl rfl w1 rr).from (s1.trans sc)
theorem aIJ(M:Mc X P Γ n){k:Nat}{caps:List Nat}{t:T}{it:Hp.It}{cond:Es}{elt:E}{e q:Aw}{G:List Aw}{scope:DL}{N':List Str}(W:cT X scope k caps N')(U:caps.Nodup)(hk:∀i∈tIx t,i<k)
 (hi:PI X tg q (wI X P n RT Y old Z it))
 (L:∀C s₀ H₀ ex,PG (dN X scope N' C s₀ H₀ ex) tg (gT X.K t)/\(∀RT Y old l,PTs (dN X scope N' C s₀ H₀ ex) G (wTs X P n RT Y old l cond))/\∀RT Y old l,PE (dN X scope N' C s₀ H₀ ex) e (WE X P n RT Y old l elt))
 (hs:∀x,C4 q X.env x=pure x):PE X (.ListComp e [⟨tg,q,G,0⟩] scope pos) (WE X P n RT Y old Z (.comp k caps t it cond elt)):=by refine(aAH (g:=gT X.K t) (tt:=λZV H Q=>∃RT Y old l,wTs X P n RT Y old l cond ZV H Q) (te:=λZV H Q=>∃RT Y old l,WE X P n RT Y old l elt ZV H Q) W M.calm hi (λC s₀ H₀ ex=>?_) hs).imp λZV H Q t0 B=>aDE U hk B;obtain⟨h1,h2,h3⟩:=L C s₀ H₀ ex;exact⟨h1,λpins s ZV H Q I ⟨RT,Y,old,l,B⟩=>h2 RT Y old l pins s ZV H Q I B,λpins s ZV H Q I ⟨RT,Y,old,l,B⟩=>h3 RT Y old l pins s ZV H Q I B⟩
end
end Hp
namespace Ts
open PySem PyProof.Rows
noncomputable def aFX:Bool->A3->Array A3->Nat->Nat->Nat->StateT Bq KJ (Option Nat):=sortPriv% PySem.Builtin.gallop
noncomputable def aDF:Array A3->Array A3->StateT Bq KJ (Array A3):=sortPriv% PySem.Builtin.mergeLo
noncomputable def aDG:Array A3->Array A3->StateT Bq KJ (Array A3):=sortPriv% PySem.Builtin.mergeHi
section
variable {M:G0} {A:AQ} {E:Value->Ac->Prop} {s:Ac} {r:A3->Nat} {D:A3->Prop} {κ:DB}
noncomputable def Cmp(M:G0)(A:AQ)(E:Value->Ac->Prop)(s:Ac)(κ:DB)(D:A3->Prop)(r:A3->Nat):Prop:=
 ∀x y,D x->D y->∀(st:Bq) (Q:Option Bool->Bq->Prop),kindOf st=κ->Q (some (decide (r x<r y))) st->Je M A E s (lt' x y) Q st
noncomputable def kr(r:A3->Nat)(xs:Array A3)(i:Nat):Nat:=match xs[i]? with|some p=>r p|none=>0
theorem aU{l:Array A3}{i:Nat}{p:A3}{Q:A3->Bq->Prop}{st:Bq}(h:l[i]? = some p)(q:Q p st):Je M A E s (elem' l i) Q st:=by rw[elem'_eq,h];exact Ay q
noncomputable def Bp(r:A3->Nat)(left:Bool)(key:A3)(arr:Array A3)(base i:Nat):Bool:=if left then decide (kr r arr (base+i)<r key) else !decide (r key<kr r arr (base+i))
theorem kr_at{xs:Array A3}{i:Nat}{p:A3}(h:xs[i]? = some p):kr r xs i=r p:=by unfold kr;rw[h]
theorem cG{xs:Array A3}{i:Nat}(h:i<xs.size):xs[i]? = some xs[i]:=AO h
theorem aFY(C:Cmp M A E s κ D r){l:Bool}{key:A3}{B:Array A3}{base i:Nat}{st:Bq}{Q:Option Bool->Bq->Prop}
 (I:kindOf st=κ) (L:∀(i:Nat) p,B[i]? = some p->D p) (G:D key) (hi:base+i<B.size) (q:Q (some (Bp r l key B base i)) st) :
 Je M A E s (elem' B (base+i) >>= λx=>if l=true then lt' x key else lt' key x >>= λb=>pure (Option.map (λx=>!x) b)) Q st:=by
 have e:=cG hi;refine An (aU e ?_);have hd:=L _ _ e;unfold Bp at q;rw[kr_at e] at q;cases l with
 | true=>exact C _ _ hd G st _ I q|false=>exact An (C _ _ G hd st _ I (Ay q))
theorem eG(C:Cmp M A E s κ D r){G:Bool}{key:A3}{U:Array A3}{base n L:Nat}{st:Bq}{Q:Option Nat->Bq->Prop}
 (hk:kindOf st=κ) (hD:∀(i:Nat) p,U[i]? = some p->D p) (q5:D key) (hn:base+n<=U.size) (hh:L<n)
 (mono:∀i j,i<j->j<n->kr r U (base+i)<=kr r U (base+j))
 (h:∀k,k<=n->(∀i,i<k->Bp r G key U base i=true)->(∀i,k<=i->i<n->Bp r G key U base i=false)->Q (some k) st) :
 Je M A E s (aFX G key U base n L) Q st:=by
 have dn:∀i j,i<=j->j<n->Bp r G key U base j=true->Bp r G key U base i=true:=λi j q4 hj b=>by rcases Eo q4 with q|q;have m:=mono i j q hj;unfold Bp at b ⊢;cases G;simp only[bF,if_false,Cb,Bw] at b ⊢;omega;simp only[if_true,Aq] at b ⊢;omega;rw[q];exact b
 have up:∀i j,i<=j->j<n->Bp r G key U base i=false->Bp r G key U base j=false:=λi j q4 hj b=>by
  cases q:Bp r G key U base j with
  | false=>rfl|true=>rw[dn i j q4 hj q] at b;cases b
 have B:∀{i:Nat} {Q:Option Bool->Bq->Prop},i<n->Q (some (Bp r G key U base i)) st->Je M A E s _ Q st:=λ{i Q} hi q=>aFY C hk hD q5 (by omega) q;refine An (B hh ?_);dsimp -zeta only
 extract_lets jp
 have q1:∀a b lo hi,lo<=hi->hi<=n->(∀i,i<lo->Bp r G key U base i=true)->(∀i,hi<=i->i<n->Bp r G key U base i=false)->Je M A E s (jp () a b lo hi) Q st:=by
  intro a b lo hi h1 h2 h3 h4;dsimp only[jp];refine An (BK (Bu (I:=λx (c:Option (Option Nat)×Nat×Nat) st'=>st'=st/\c.1=none/\c.2.1<=c.2.2/\c.2.2<=n/\c.2.2+x<=n+c.2.1/\(∀i,i<c.2.1->Bp r G key U base i=true)/\(∀i,c.2.2<=i->i<n->Bp r G key U base i=false))
   (Q:=λc st'=>st'=st/\c.1=none/\c.2.1=c.2.2/\c.2.2<=n/\(∀i,i<c.2.1->Bp r G key U base i=true)/\(∀i,c.2.2<=i->i<n->Bp r G key U base i=false)) ?step ?q1 ⟨rfl,rfl,h1,h2,by show hi+0<=n+lo;omega,h3,h4⟩) ?post)
  case post=>rintro ⟨c,lo,hi⟩ st' ⟨rfl,W,e,hl,b1,b2⟩;dsimp only at W e hl b1 b2 ⊢;subst W e;exact Ay (h _ hl b1 b2)
  case q1=>rintro ⟨c,lo,hi⟩ st' ⟨rfl,W,e1,hl,hx,b1,b2⟩;dsimp only at W e1 hl hx b1 b2 ⊢;exact⟨rfl,W,by omega,hl,b1,b2⟩
  case step=>
   rintro x ⟨c,lo,hi⟩ st' _ q6 ⟨rfl,W,e1,hl,hx,b1,b2⟩;dsimp only at W e1 hl hx b1 b2 ⊢;subst W;by_cases g:lo ≥ hi;rw[if_pos g];exact Ay ⟨rfl,rfl,by show lo=hi;omega,hl,b1,b2⟩;rw[if_neg g];refine An (B (i:=lo+(hi-lo) / 2) (by omega) ?_);cases q:Bp r G key U base (lo+(hi-lo) / 2) with
   | true=>dsimp only;rw[if_pos rfl];refine Ay ⟨rfl,rfl,by dsimp only;omega,hl,by dsimp only;omega,λi q3=>?_,b2⟩;exact dn _ _ (by dsimp only at q3;omega) (by omega) q|false=>dsimp only;rw[if_neg bN];refine Ay ⟨rfl,rfl,by dsimp only;omega,by dsimp only;omega,by dsimp only;omega,b1,λi q3 q2=>?_⟩;exact up _ _ (by dsimp only at q3;omega) q2 q
 cases q0:Bp r G key U base L with
 | true=>
  rw[if_pos rfl];refine An (BK (Bu (I:=λx (c:Option (Option Nat)×Nat×Nat) st'=>st'=st/\c.1=none/\c.2.1<c.2.2/\x+1<=c.2.2/\(c.2.1=0\/L+c.2.1<n)/\Bp r G key U base (L+c.2.1)=true)
   (Q:=λc st'=>st'=st/\c.1=none/\c.2.1<c.2.2/\L+c.2.1<n/\Bp r G key U base (L+c.2.1)=true/\(n<=L+c.2.2\/Bp r G key U base (L+c.2.2)=false)) ?step ?q1 ⟨rfl,rfl,by show 0<1;omega,by show 0+1<=1;omega,.inl rfl,q0⟩) ?post)
  case post=>rintro ⟨c,l,o⟩ st' ⟨rfl,W,e1,e2,e3,e4⟩;dsimp only at W e1 e2 e3 e4 ⊢;subst W;refine q1 l o _ _ (by omega) (by omega) (λi hi=>dn _ _ (by omega) e2 e3) λi hi q2=>?_;rcases e4 with e4|e4;omega;exact up _ _ (by omega) q2 e4
  case q1=>rintro ⟨c,l,o⟩ st' ⟨rfl,W,e1,e2,e3,e4⟩;dsimp only at W e1 e2 e3 e4 ⊢;exact⟨rfl,W,e1,by omega,e4,.inl (by omega)⟩
  case step=>
   rintro x ⟨c,l,o⟩ st' _ q6 ⟨rfl,W,e1,e2,e3,e4⟩;dsimp only at W e1 e2 e3 e4 ⊢;subst W;by_cases g:o ≥ n-L;rw[if_pos g];exact Ay ⟨rfl,rfl,e1,by dsimp only;omega,e4,.inl (by dsimp only;omega)⟩;rw[if_neg g];refine An (B (i:=L+o) (by omega) ?_);cases q:Bp r G key U base (L+o) with
   | true=>dsimp only;rw[if_neg (by decide)];exact Ay ⟨rfl,rfl,by dsimp only;omega,by dsimp only;omega,.inr (by dsimp only;omega),q⟩|false=>dsimp only;rw[if_pos (by decide)];exact Ay ⟨rfl,rfl,e1,by dsimp only;omega,e4,.inr q⟩
 | false=>
  rw[if_neg bN];refine An (BK (Bu (I:=λx (c:Option (Option Nat)×Nat×Nat) st'=>st'=st/\c.1=none/\c.2.1<c.2.2/\x+1<=c.2.2/\c.2.1<=L/\Bp r G key U base (L-c.2.1)=false)
   (Q:=λc st'=>st'=st/\c.1=none/\c.2.1<c.2.2/\c.2.1<=L/\Bp r G key U base (L-c.2.1)=false/\(L<c.2.2\/Bp r G key U base (L-c.2.2)=true)) ?step ?q1 ⟨rfl,rfl,by show 0<1;omega,by show 0+1<=1;omega,AL _,q0⟩) ?post)
  case post=>rintro ⟨c,l,o⟩ st' ⟨rfl,W,e1,e2,e3,e4⟩;dsimp only at W e1 e2 e3 e4 ⊢;subst W;refine q1 l o _ _ (by omega) (by omega) (λi hi=>?_) λi hi q2=>up _ _ (by omega) q2 e3;rcases e4 with e4|e4;omega;exact dn _ _ (by omega) (by omega) e4
  case q1=>rintro ⟨c,l,o⟩ st' ⟨rfl,W,e1,e2,e3,e4⟩;dsimp only at W e1 e2 e3 e4 ⊢;exact⟨rfl,W,e1,e3,e4,.inl (by omega)⟩
  case step=>
   rintro x ⟨c,l,o⟩ st' _ q6 ⟨rfl,W,e1,e2,e3,e4⟩;dsimp only at W e1 e2 e3 e4 ⊢;subst W;by_cases g:o ≥ L+1;rw[if_pos g];exact Ay ⟨rfl,rfl,e1,e3,e4,.inl (by dsimp only;omega)⟩;rw[if_neg g];refine An (B (i:=L-o) (by omega) ?_);cases q:Bp r G key U base (L-o) with
   | true=>dsimp only;rw[if_pos rfl];exact Ay ⟨rfl,rfl,e1,e3,e4,.inr q⟩|false=>dsimp only;rw[if_neg bN];exact Ay ⟨rfl,rfl,by dsimp only;omega,by dsimp only;omega,by dsimp only;omega,q⟩
end
noncomputable def Srt(r:A3->Nat)(l:List A3):Prop:=l.Pairwise λx y=>r x<=r y
structure J (r:A3->Nat) (la lb:List A3) (ia ib:Nat) (out:List A3):Prop where
 pm:out.Perm (la.take ia++lb.take ib)
 so:Srt r out
 oa:∀x∈out,∀y∈la.drop ia,r x<=r y
 ob:∀x∈out,∀y∈lb.drop ib,r x<=r y
section
variable {r:A3->Nat} {la lb out:List A3} {ia ib:Nat}
theorem fV{α:Type}(l:List α)(i k:Nat):l.take (i+k)=l.take i++(l.drop i).take k:=List.take_add
theorem J.a(j:J r la lb ia ib out)(hs:Srt r la)(k:Nat)(h:∀x∈(la.drop ia).take k,∀y∈lb.drop ib,r x<=r y):J r la lb (ia+k) ib (out++(la.drop ia).take k):=by
 have hd:Srt r ((la.drop ia).take k++(la.drop ia).drop k):=by rw[AW];exact Fq hs
 obtain⟨B,I,G⟩:=AX.mp hd;refine⟨?_,AX.mpr ⟨j.so,B,λx l y q=>j.oa x l y (BF q)⟩,λx l y q=>?_,λx l y q=>?_⟩;rw[fV,AD];exact(j.pm.append_right _).trans (by rw[AD];exact(Ba.append_left _));rw[<-JF] at q;rcases AJ.mp l with l|l;exact j.oa x l y (EM q);exact G x l y q;rcases AJ.mp l with l|l;exact j.ob x l y q;exact h x l y q
theorem J.swap(j:J r la lb ia ib out):J r lb la ib ia out:=⟨j.pm.trans Ba,j.so,j.ob,j.oa⟩
theorem J.b(j:J r la lb ia ib out)(hs:Srt r lb)(k:Nat)(h:∀x∈(lb.drop ib).take k,∀y∈la.drop ia,r x<=r y):J r la lb ia (ib+k) (out++(lb.drop ib).take k):=(j.swap.a hs k h).swap
theorem J.endB(j:J r la lb ia ib out)(hs:Srt r la)(l:lb.length<=ib):(out++la.drop ia).Perm (la++lb)/\Srt r (out++la.drop ia):=by refine⟨?_,AX.mpr ⟨j.so,Fq hs,j.oa⟩⟩;have p:=j.pm;rw[CJ l] at p;refine(p.append_right _).trans ?_;rw[AD];refine(Ba.append_left _).trans ?_;rw[<-AD,AW]
theorem J.endA(j:J r la lb ia ib out)(hs:Srt r lb)(B:∀x∈lb,∀y∈la.drop ia,r x<=r y)(I:la.length=ia+1):(out++lb.drop ib++la.drop ia).Perm (la++lb)/\Srt r (out++lb.drop ib++la.drop ia):=by
 refine⟨?_,?_⟩;refine((j.pm.append_right _).append_right _).trans ?_;rw[AD (la.take ia),AW,AD];refine(Ba.append_left _).trans ?_;rw[<-AD,AW];refine AX.mpr ⟨AX.mpr ⟨j.so,Fq hs,j.ob⟩,?_,λx l y q=>?_⟩;have:(la.drop ia).length=1:=by rw[BI];omega
 obtain⟨z,G⟩:=List.length_eq_one_iff.mp this;rw[G];exact B9 _ _;rcases AJ.mp l with l|l;exact j.oa x l y q;exact B x (EM l) y q
end
section
variable {M:G0} {A:AQ} {E:Value->Ac->Prop} {s:Ac} {r:A3->Nat} {D:A3->Prop} {κ:DB}
noncomputable def fH(st st':Bq):Prop:=kindOf st'=kindOf st/\arrOf st'=arrOf st/\AA st'=AA st/\DV st'=DV st
theorem aG{α:Type}{m l:StateT Bq KJ α}{Q:α->Bq->Prop}{st:Bq}(e:m=l)(h:Je M A E s l Q st):Je M A E s m Q st:=e▸h
theorem fH.rfl'(st:Bq):fH st st:=⟨rfl,rfl,rfl,rfl⟩
theorem fS{xs:Array A3}{i:Nat}{p:A3}(h:xs[i]? = some p):(xs.toList.drop i).take 1=[p]:=by obtain⟨hi,e⟩:=Ce.mp h;rw[CY (by simpa using hi)];simp[e]
theorem jR(xs:Array A3)(i k:Nat):(xs.extract i (i+k)).toList=(xs.toList.drop i).take k:=by rw[GV,Ft,JG,Bm]
theorem iR(xs:Array A3)(i:Nat):(xs.extract i xs.size).toList=xs.toList.drop i:=by rw[GV,Ft,JG,CJ (by simp)]
theorem kL{xs:Array A3}{i:Nat}{y:A3}(h:y∈xs.toList.drop i):∃j,i<=j/\j<xs.size/\xs[j]? = some y:=by
 obtain⟨j,l,e⟩:=EN.mp h;rw[Ip] at e;rw[BI] at l;have q:i+j<xs.size:=by simp at l;omega
 exact⟨i+j,by omega,q,by rw[AO q,<-e];simp⟩
theorem pP{xs:Array A3}{i k:Nat}{y:A3}(h:y∈(xs.toList.drop i).take k):∃j,j<k/\i+j<xs.size/\xs[i+j]? = some y:=by
 obtain⟨j,l,e⟩:=EN.mp h;rw[List.getElem_take,Ip] at e;rw[Bc,BI] at l;have q:i+j<xs.size:=by simp at l;omega
 exact⟨j,by omega,q,by rw[AO q,<-e];simp⟩
theorem mF{xs:Array A3}(h:Srt r xs.toList){i j:Nat}(l:i<=j)(B:j<xs.size):kr r xs i<=kr r xs j:=by rw[kr_at (cG (show i<xs.size by omega)),kr_at (cG B)];rcases Eo l with q|q;have:=B0.mp h i j (by simp;omega) (by simpa using B) q;simpa using this;subst q;exact Ah _
noncomputable def Rs(r:A3->Nat)(a b:Array A3)(st st':Bq)(c:Option (Array A3)):Prop:=∃res,c=some res/\fH st st'/\res.toList.Perm (a.toList++b.toList)/\Srt r res.toList
noncomputable def Gs(r:A3->Nat)(a b:Array A3)(st st':Bq)(c:Option (Array A3))(out:Array A3)(ia ib:Nat):Prop:=c=none/\fH st st'/\J r a.toList b.toList ia ib out.toList/\ia+1<a.size/\ib<b.size
section
variable {a b out:Array A3} {st st':Bq} {ia ib:Nat}
theorem aAK(B:Srt r a.toList)(kp:fH st st')(j:J r a.toList b.toList ia ib out.toList)(e:ib=b.size):Rs r a b st st' (some (out++a.extract ia a.size++b.extract ib b.size)):=by obtain⟨l,q⟩:=j.endB B (by simp;omega);refine⟨_,rfl,kp,?_⟩;rw[AR,AR,iR,iR,e,D7 (i:=b.size) (by simp),AV];exact⟨l,q⟩
theorem aIK(sb:Srt r b.toList)(kp:fH st st')(j:J r a.toList b.toList ia ib out.toList)(e:ia=a.size):Rs r a b st st' (some (out++a.extract ia a.size++b.extract ib b.size)):=by obtain⟨l,q⟩:=j.swap.endB sb (by simp;omega);refine⟨_,rfl,kp,?_⟩;rw[AR,AR,iR,iR,e,D7 (i:=a.size) (by simp),AV];exact⟨l.trans Ba,q⟩
theorem aAL(sb:Srt r b.toList)(B:∀x∈b.toList,r x<=kr r a (a.size-1))(kp:fH st st')(j:J r a.toList b.toList ia ib out.toList)(e:ia+1=a.size):Rs r a b st st' (some (out++b.extract ib b.size++a.extract ia a.size)):=by
 obtain⟨l,q⟩:=j.endA sb (λx G y I=>by
  obtain⟨k,U,W,L⟩:=kL I;have:=B x G;rw[show a.size-1=k by omega,kr_at L] at this;exact this) (by simp;omega)
 refine⟨_,rfl,kp,?_⟩;rw[AR,AR,iR,iR];exact⟨l,q⟩
theorem J.a1(j:J r a.toList b.toList ia ib out.toList)(B:Srt r a.toList){p:A3}(l:a[ia]? = some p)(h:∀y∈b.toList.drop ib,r p<=r y):J r a.toList b.toList (ia+1) ib (out.push p).toList:=by have:=j.a B 1 (by rw[fS l];intro x q;rw[Ai.mp q];exact h);rw[fS l] at this;rw[Dh];exact this
theorem J.b1(j:J r a.toList b.toList ia ib out.toList)(sb:Srt r b.toList){p:A3}(l:b[ib]? = some p)(h:∀y∈a.toList.drop ia,r p<=r y):J r a.toList b.toList ia (ib+1) (out.push p).toList:=by have:=j.b sb 1 (by rw[fS l];intro x q;rw[Ai.mp q];exact h);rw[fS l] at this;rw[Dh];exact this
theorem nS{xs:Array A3}(h:Srt r xs.toList){i m:Nat}(I:m<=kr r xs i):∀y∈xs.toList.drop i,m<=r y:=λy l=>by obtain⟨k,q,B,G⟩:=kL l;have:=mF h q B;rw[kr_at G] at this;omega
end
theorem xD(C:Cmp M A E s κ D r){a b:Array A3}{st:Bq}{Q:Array A3->Bq->Prop}
 (hk:kindOf st=κ) (q9:∀(i:Nat) p,a[i]? = some p->D p) (w1:∀(i:Nat) p,b[i]? = some p->D p) (sa:Srt r a.toList) (sb:Srt r b.toList) (ha:0<a.size) (hb:0<b.size)
 (h0:∀y∈a.toList,kr r b 0<=r y) (hl:∀x∈b.toList,r x<=kr r a (a.size-1))
 (h:∀res st',fH st st'->res.toList.Perm (a.toList++b.toList)->Srt r res.toList->Q res st'):Je M A E s (aDF a b) Q st:=by
 have q0:∀{c:Option (Array A3)} {st':Bq},Rs r a b st st' c->∃res,c=some res/\Q res st':=λ⟨res,e,k,p,q⟩=>⟨res,e,h res _ k p q⟩
 have e0:=cG hb;have j0:J r a.toList b.toList 0 1 #[b[0]].toList:=by
  have j:J r a.toList b.toList 0 0 []:=⟨by simp,C6,by simp,by simp⟩
  have:=j.b sb 1 (by rw[fS e0];intro x hx;rw[Ai.mp hx];intro y hy;rw[E6] at hy;have:=h0 y hy;rwa [kr_at e0] at this);rw[fS e0] at this;exact this
 refine An (FU (Cq ⟨rfl,?_⟩))
 extract_lets total done lastOfA ia ib
 refine An (aU e0 ?_)
 extract_lets out
 by_cases g1:1=b.size;rw[if_pos (by simpa[ib] using g1)];obtain⟨res,e,q⟩:=q0 (aAK sa (fH.rfl' st) j0 g1);cases e;exact Ay q;rw[if_neg (by simpa[ib] using g1)];by_cases g2:0+1=a.size;rw[if_pos (by simpa[ia] using g2)];obtain⟨res,e,q⟩:=q0 (aAL sb hl (fH.rfl' st) j0 g2);cases e;exact Ay q;rw[if_neg (by simpa[ia] using g2)];refine An (Fd ?_);refine An (BK (Bu (I:=λx (c:Option (Array A3)×Array A3×Nat×Nat×Nat) st'=>Gs r a b st st' c.1 c.2.1 c.2.2.1 c.2.2.2.1/\x+1<=c.2.2.1+c.2.2.2.1)
  (Q:=λc st'=>Rs r a b st st' c.1) ?step ?q0 ⟨⟨rfl,fH.rfl' st,j0,by dsimp only;omega,by dsimp only;omega⟩,by dsimp only;omega⟩) ?post)
 case post=>rintro ⟨c,_⟩ st' q;obtain⟨res,e,q'⟩:=q0 q;dsimp only at e ⊢;subst e;exact Ay q' 
 case q0=>rintro ⟨c,o,i,j,m⟩ st' ⟨⟨q1,q2,q3,q4,q5⟩,q6⟩;dsimp only[total] at q4 q5 q6;omega
 case step=>
  rintro x ⟨c,o,i,j,m⟩ w3 _ hx ⟨⟨q1,q2,q3,q4,q5⟩,q6⟩;dsimp only at q1 q2 q3 q4 q5 q6;subst q1;have z0:kindOf w3=κ:=q2.1.trans hk;have ht:total=a.size+b.size:=rfl;refine An (BK (Bu (I:=λx (c:Option (Array A3)×Array A3×Nat×Nat×Nat×Nat) st'=>st'=w3/\Gs r a b st st' c.1 c.2.1 c.2.2.1 c.2.2.2.1/\i+j+x<=c.2.2.1+c.2.2.2.1)
   (Q:=λc st'=>st'=w3/\(Rs r a b st st' c.1\/(Gs r a b st st' c.1 c.2.1 c.2.2.1 c.2.2.2.1/\i+j+1<=c.2.2.1+c.2.2.2.1))) ?step1 ?fin1 ⟨rfl,⟨rfl,q2,q3,q4,q5⟩,by dsimp only;omega⟩) ?post1)
  case fin1=>rintro ⟨c,o,i',j',ac,bc⟩ st' ⟨e,g,l⟩;exact⟨e,.inr ⟨g,by dsimp only at l ⊢;omega⟩⟩
  case step1=>rintro x' ⟨c,o,i',j',ac,bc⟩ st' _ z1 ⟨rfl,⟨W,_,G,c4,L⟩,l⟩;dsimp only at W G c4 L l;subst W;have ea:=cG (xs:=a) (i:=i') (by omega);have eb:=cG L;refine An (aU eb ?_);refine An (aU ea ?_);refine An (C _ _ (w1 _ _ eb) (q9 _ _ ea) _ _ z0 ?_);by_cases g:r b[j']<r a[i'];rw[A8 g];dsimp only;rw[if_pos rfl];refine An (aU eb ?_);have j1:=G.b1 sb eb (nS sa (i:=i') (by rw[kr_at ea];omega));by_cases g3:j'+1=b.size;rw[if_pos (by simpa using g3)];exact Ay ⟨rfl,.inl (aAK sa q2 j1 g3)⟩;rw[if_neg (by simpa using g3)];by_cases g4:bc+1 ≥ m;rw[if_pos g4];exact Ay ⟨rfl,.inr ⟨⟨rfl,q2,j1,c4,by dsimp only;omega⟩,by dsimp only;omega⟩⟩;rw[if_neg g4];exact Ay ⟨rfl,⟨rfl,q2,j1,c4,by dsimp only;omega⟩,by dsimp only;omega⟩;rw[Az g];dsimp only;rw[if_neg bN];refine An (aU ea ?_);have j1:=G.a1 sa ea (nS sb (i:=j') (by rw[kr_at eb];omega));by_cases g3:i'+1+1=a.size;rw[if_pos (by simpa using g3)];exact Ay ⟨rfl,.inl (aAL sb hl q2 j1 g3)⟩;rw[if_neg (by simpa using g3)];by_cases g4:ac+1 ≥ m;rw[if_pos g4];exact Ay ⟨rfl,.inr ⟨⟨rfl,q2,j1,by dsimp only;omega,L⟩,by dsimp only;omega⟩⟩;rw[if_neg g4];exact Ay ⟨rfl,⟨rfl,q2,j1,by dsimp only;omega,L⟩,by dsimp only;omega⟩
  case post1=>
   rintro ⟨c,o,i',j',ac,bc⟩ st' ⟨rfl,g⟩;rcases g with g|⟨⟨W,_,G,c4,L⟩,l⟩
   obtain⟨res,e,g'⟩:=g;dsimp only at e ⊢;subst e;exact Ay ⟨res,rfl,g'⟩;dsimp only at W G c4 L l;subst W;refine An (FU (Cq ⟨rfl,?_⟩));refine An (BK (Bu (I:=λx (c:Option (Array A3)×Array A3×Nat×Nat×Nat×Nat×Nat) st'=>Gs r a b st st' c.1 c.2.1 c.2.2.1 c.2.2.2.1/\i+j+1<=c.2.2.1+c.2.2.2.1)
    (Q:=λc st'=>Rs r a b st st' c.1\/(Gs r a b st st' c.1 c.2.1 c.2.2.1 c.2.2.2.1/\i+j+1<=c.2.2.1+c.2.2.2.1)) ?step2 ?fin2 ⟨⟨rfl,q2,G,c4,L⟩,l⟩) ?post2)
   case fin2=>rintro ⟨c,o,i',j',ac,bc⟩ st' ⟨g,l⟩;exact .inr ⟨g,l⟩
   case post2=>
    rintro ⟨c,o,i',j',mg,ac,bc⟩ st' g;rcases g with g|⟨⟨W,k2,G,c4,L⟩,l⟩
    obtain⟨res,e,g'⟩:=g;dsimp only at e ⊢;subst e;exact Ay ⟨res,rfl,g'⟩;dsimp only at W G c4 L l;subst W;refine An (DW ?_);exact Ay ⟨⟨rfl,k2,G,c4,L⟩,by dsimp only;omega⟩
   case step2=>
    rintro x' ⟨c,o,i',j',mg,ac,bc⟩ st' _ z1 ⟨⟨W,k2,G,c4,L⟩,l⟩;dsimp only at W k2 G c4 L l;subst W;dsimp -zeta only
    extract_lets x1 x2 x3 x4 x5 x6 x7 x8 x9 x10 x11 x12 jp
    have w8:x12=j'+1:=rfl;have e2:x2=o:=rfl;have e4:x4=i':=rfl;have e6:x6=j':=rfl;have e8:x8=mg:=rfl;have z5:x11=bc:=rfl
    clear_value x12 x2 x4 x6 x8 x11
    subst w8 e2 e4 e6;have main:∀m',Je M A E s (jp () m') (λr' st'=>match r' with
     | .done c=>Rs r a b st st' c.1\/(Gs r a b st st' c.1 c.2.1 c.2.2.1 c.2.2.2.1/\i+j+1<=c.2.2.1+c.2.2.2.1)|.yield c=>Gs r a b st st' c.1 c.2.1 c.2.2.1 c.2.2.2.1/\i+j+1<=c.2.2.1+c.2.2.2.1) st':=by
     intro m';dsimp -zeta only[jp];refine An (DW ?_);have eb:=cG L;refine An (aU eb ?_);refine An (eG C (k2.1.trans hk) q9 (w1 _ _ eb) (by omega) (by omega) (λi1 i2 B h2=>mF sa (by omega) (by omega)) λk z7 b1 b2=>?_);dsimp -zeta only
     extract_lets acount jp2
     have ja:=G.a sa k (λz hz y hy=>by
      obtain⟨n1,n2,n3,n4⟩:=pP hz;have B:=b1 n1 n2;unfold Bp at B;rw[kr_at n4] at B;simp only[bF,if_false,Cb,Bw] at B;exact nS sb (i:=x6) (by rw[kr_at eb];omega) y hy)
     have ka:∀y∈a.toList.drop (x4+k),r b[x6]<=r y:=λy hy=>by obtain⟨n1,n2,n3,n4⟩:=kL hy;have B:=b2 (n1-x4) (by omega) (by omega);unfold Bp at B;rw[show x4+(n1-x4)=n1 by omega,kr_at n4] at B;simp only[bF,if_false,Fu,Aq] at B;omega
     have q7:∀U o' i2,fH st U->J r a.toList b.toList i2 x6 o'.toList->i2+1<a.size->i+j+1<=i2+x6->(∀y∈a.toList.drop i2,r b[x6]<=r y)->Je M A E s (jp2 () o' i2) (λr' st'=>match r' with
      | .done c=>Rs r a b st st' c.1\/(Gs r a b st st' c.1 c.2.1 c.2.2.1 c.2.2.2.1/\i+j+1<=c.2.2.1+c.2.2.2.1)|.yield c=>Gs r a b st st' c.1 c.2.1 c.2.2.1 c.2.2.2.1/\i+j+1<=c.2.2.1+c.2.2.2.1) U:=by
      intro U o' i2 k3 jj z6 z8 w9;dsimp -zeta only[jp2];refine An (aU eb ?_);have j1:=jj.b1 sb eb w9
      extract_lets out'
      by_cases g3:x6+1=b.size;rw[if_pos (by simpa using g3)];exact Ay (.inl (aAK sa k3 j1 g3));rw[if_neg (by simpa using g3)];have ea:=cG (xs:=a) (i:=i2) (by omega);refine An (aU ea ?_);refine An (eG C (k3.1.trans hk) w1 (q9 _ _ ea) (by omega) (by omega) (λi1 i2 B h2=>mF sb (by omega) (by omega)) λk' z3 w6 w7=>?_);dsimp -zeta only
      extract_lets bcount jp3
      have jb:=j1.b sb k' (λz hz y hy=>by
       obtain⟨n1,n2,n3,n4⟩:=pP hz;have B:=w6 n1 n2;unfold Bp at B;rw[kr_at n4] at B;simp only[if_true,Aq] at B;exact nS sa (i:=i2) (by rw[kr_at ea];omega) y hy)
      have kb:∀y∈b.toList.drop (x6+1+k'),r a[i2]<=r y:=λy hy=>by obtain⟨n1,n2,n3,n4⟩:=kL hy;have B:=w7 (n1-(x6+1)) (by omega) (by omega);unfold Bp at B;rw[show x6+1+(n1-(x6+1))=n1 by omega,kr_at n4] at B;simp only[if_true,Bw] at B;omega
      have q8:∀o3 j3,J r a.toList b.toList i2 j3 o3.toList->j3<b.size->i+j+1<=i2+j3->(∀y∈b.toList.drop j3,r a[i2]<=r y)->Je M A E s (jp3 () o3 j3) (λr' st'=>match r' with
       | .done c=>Rs r a b st st' c.1\/(Gs r a b st st' c.1 c.2.1 c.2.2.1 c.2.2.2.1/\i+j+1<=c.2.2.1+c.2.2.2.1)|.yield c=>Gs r a b st st' c.1 c.2.1 c.2.2.1 c.2.2.2.1/\i+j+1<=c.2.2.1+c.2.2.2.1) U:=by intro o3 j3 z2 w5 z4 w4;dsimp -zeta only[jp3];refine An (aU ea ?_);have j4:=z2.a1 sa ea w4;by_cases g4:i2+1+1=a.size;refine aG (if_pos (by simpa using g4)) ?_;exact Ay (.inl (aAL sb hl k3 j4 g4));refine aG (if_neg (by simpa using g4)) ?_;by_cases g5:(decide (acount<7)&&decide (bcount<7))=true;refine aG (if_pos g5) ?_;exact Ay (.inr ⟨⟨rfl,k3,j4,by dsimp only;omega,w5⟩,by dsimp only;omega⟩);refine aG (if_neg g5) ?_;exact Ay ⟨⟨rfl,k3,j4,by dsimp only;omega,w5⟩,by dsimp only;omega⟩
      by_cases g6:k'>0;refine aG (if_pos g6) ?_;rw[<-jR] at jb;rw[<-AR] at jb;by_cases g7:x6+1+k'=b.size;refine aG (if_pos (by simpa using g7)) ?_;exact Ay (.inl (aAK sa k3 jb g7));refine aG (if_neg (by simpa using g7)) ?_;exact q8 _ _ jb (by omega) (by omega) kb;refine aG (if_neg g6) ?_;have:k'=0:=by omega
      subst this;exact q8 _ _ j1 (by omega) (by omega) kb
     by_cases g6:k>0;refine aG (if_pos g6) ?_;rw[<-jR] at ja;rw[<-AR] at ja;by_cases g7:x4+k+1=a.size;refine aG (if_pos (by simpa using g7)) ?_;exact Ay (.inl (aAL sb hl k2 ja g7));refine aG (if_neg (by simpa using g7)) ?_;by_cases g8:x4+k=a.size;refine aG (if_pos (by simpa using g8)) ?_;exact Ay (.inl (aIK sb k2 ja g8));refine aG (if_neg (by simpa using g8)) ?_;exact q7 _ _ _ k2 ja (by omega) (by omega) ka;refine aG (if_neg g6) ?_;have:k=0:=by omega
     subst this;exact q7 _ _ _ k2 G (by omega) (by omega) ka
    by_cases g:x8>1;refine aG (if_pos g) ?_;exact BK (main _) λr' U h=>by cases r' <;> exact h
    refine aG (if_neg g) ?_;exact BK (main _) λr' U h=>by cases r' <;> exact h
end
structure J2 (r:A3->Nat) (la lb:List A3) (na nb:Nat) (out:List A3):Prop where
 pm:out.Perm (la.drop na++lb.drop nb)
 so:Srt r out.reverse
 oa:∀x∈out,∀y∈la.take na,r y<=r x
 ob:∀x∈out,∀y∈lb.take nb,r y<=r x
section
variable {r:A3->Nat} {la lb out:List A3} {na nb:Nat}
theorem J2.swap(j:J2 r la lb na nb out):J2 r lb la nb na out:=⟨j.pm.trans Ba,j.so,j.ob,j.oa⟩
theorem J2.a(j:J2 r la lb (m+k) nb out)(hs:Srt r la)(h:∀x∈(la.drop m).take k,∀y∈lb.take nb,r y<=r x):J2 r la lb m nb (out++((la.drop m).take k).reverse):=by
 have hd:Srt r (la.take m++la.drop m):=by rw[AW];exact hs
 obtain⟨I,B,G⟩:=AX.mp hd;have sub:∀x∈(la.drop m).take k,x∈la.take (m+k):=λx l=>by rw[fV];exact AB _ l
 refine⟨?_,?_,λx l y q=>?_,λx l y q=>?_⟩;have e:la.drop m=(la.drop m).take k++la.drop (m+k):=by rw[<-JF,AW]
 refine(j.pm.append_right _).trans ?_;refine(BP _ (FC _)).trans ?_;rw[AD];refine(BP _ Ba).trans ?_;rw[<-AD];refine Gq _ ?_;refine Ba.trans ?_;rw[<-e];rw[List.reverse_append,List.reverse_reverse];exact AX.mpr ⟨Fv B,j.so,λx l y q=>j.oa y (BY.mp q) x (sub x l)⟩;rcases AJ.mp l with l|l;exact j.oa x l y (by rw[fV];exact AS _ q);exact G y q x (BF (BY.mp l));rcases AJ.mp l with l|l;exact j.ob x l y q;exact h x (BY.mp l) y q
theorem J2.b(j:J2 r la lb na (m+k) out)(hs:Srt r lb)(h:∀x∈(lb.drop m).take k,∀y∈la.take na,r y<=r x):J2 r la lb na m (out++((lb.drop m).take k).reverse):=(j.swap.a hs h).swap
theorem J2.end(j:J2 r la lb 0 nb out)(hs:Srt r lb):(lb.take nb++out.reverse).Perm (la++lb)/\Srt r (lb.take nb++out.reverse):=by refine⟨?_,AX.mpr ⟨Fv hs,j.so,λx l y q=>j.ob y (BY.mp q) x l⟩⟩;refine(BP _ ((FC _).trans j.pm)).trans ?_;rw[E6,<-AD];refine(Gq _ Ba).trans ?_;rw[AD,AW]
theorem J2.one(j:J2 r la lb na 1 out)(hs:Srt r la)(B:∀x∈lb.take 1,∀y∈la,r x<=r y):(lb.take 1++la.take na++out.reverse).Perm (la++lb)/\Srt r (lb.take 1++la.take na++out.reverse):=by
 refine⟨?_,AX.mpr ⟨AX.mpr ⟨?_,Fv hs,λx l y q=>B x l y (BF q)⟩,j.so,λx l y q=>?_⟩⟩;refine(BP _ ((FC _).trans j.pm)).trans ?_;refine Jk (l₂:=(la.take na++la.drop na)++(lb.take 1++lb.drop 1)) ?_ (by rw[AW,AW]);rw[AD (la.take na),AD];refine Ba.trans ?_;rw[AD,AD];exact BP _ (BP _ Ba);cases lb with
 | nil=>exact C6|cons z zs=>exact B9 _ _
 rcases AJ.mp l with l|l;exact j.ob y (BY.mp q) x l;exact j.oa y (BY.mp q) x l
end
section
variable {M:G0} {A:AQ} {E:Value->Ac->Prop} {s:Ac} {r:A3->Nat} {D:A3->Prop} {κ:DB}
theorem aBX(xs:Array A3)(k:Nat):(xs.extract 0 k).toList=xs.toList.take k:=by have:=jR xs 0 k;rw[Ea] at this;rw[this,E6]
theorem kM{xs:Array A3}{k:Nat}{y:A3}(h:y∈xs.toList.take k):∃j,j<k/\j<xs.size/\xs[j]? = some y:=by
 have h:y∈(xs.toList.drop 0).take k:=by rw[E6];exact h
 obtain⟨j,B,l,q⟩:=pP h;rw[Ea] at l q;exact⟨j,B,l,q⟩
theorem nT{xs:Array A3}(h:Srt r xs.toList){i m k:Nat}(hi:i<xs.size)(B:k<=i+1)(G:kr r xs i<=m):∀y∈xs.toList.take k,r y<=m:=λy l=>by obtain⟨j,I,L,q⟩:=kM l;have:=mF h (i:=j) (j:=i) (by omega) hi;rw[kr_at q] at this;omega
noncomputable def G2(r:A3->Nat)(a b:Array A3)(st st':Bq)(c:Option (Array A3))(out:Array A3)(na nb:Nat):Prop:=c=none/\fH st st'/\J2 r a.toList b.toList na nb out.toList/\0<na/\1<nb/\na<=a.size/\nb<=b.size
section
variable {a b out:Array A3} {st st':Bq} {na nb:Nat}
theorem uH(sb:Srt r b.toList)(kp:fH st st')(j:J2 r a.toList b.toList na nb out.toList)(e:na=0):Rs r a b st st' (some (a.extract 0 na++b.extract 0 nb++out.reverse)):=by subst e;obtain⟨l,q⟩:=j.end sb;refine⟨_,rfl,kp,?_⟩;rw[AR,AR,aBX,aBX,C2,D8,Di];exact⟨l,q⟩
theorem aIL(B:Srt r a.toList)(kp:fH st st')(j:J2 r a.toList b.toList na nb out.toList)(e:nb=0):Rs r a b st st' (some (a.extract 0 na++b.extract 0 nb++out.reverse)):=by subst e;obtain⟨l,q⟩:=j.swap.end B;refine⟨_,rfl,kp,?_⟩;rw[AR,AR,aBX,aBX,C2,AV,Di];exact⟨l.trans Ba,q⟩
theorem uI(U:Srt r a.toList)(l:∀y∈a.toList,kr r b 0<=r y)(kp:fH st st')(j:J2 r a.toList b.toList na nb out.toList)(e:nb=1):Rs r a b st st' (some (b.extract 0 nb++a.extract 0 na++out.reverse)):=by
 subst e;obtain⟨q,B⟩:=j.one U λx G y I=>by obtain⟨k,W,k2,L⟩:=kM G;have:=l y I;rw[show(0:Nat)=k by omega,kr_at L] at this;exact this
 refine⟨_,rfl,kp,?_⟩;rw[AR,AR,aBX,aBX,Di];exact⟨q,B⟩
theorem J2.a1(j:J2 r a.toList b.toList (na+1) nb out.toList)(B:Srt r a.toList){p:A3}(l:a[na]? = some p)(h:∀y∈b.toList.take nb,r y<=r p):J2 r a.toList b.toList na nb (out.push p).toList:=by have:=j.a B (by rw[fS l];intro x q;rw[Ai.mp q];exact h);rw[fS l] at this;rw[Dh];exact this
theorem J2.b1(j:J2 r a.toList b.toList na (nb+1) out.toList)(sb:Srt r b.toList){p:A3}(l:b[nb]? = some p)(h:∀y∈a.toList.take na,r y<=r p):J2 r a.toList b.toList na nb (out.push p).toList:=by have:=j.b sb (by rw[fS l];intro x q;rw[Ai.mp q];exact h);rw[fS l] at this;rw[Dh];exact this
end
theorem xE(C:Cmp M A E s κ D r){a b:Array A3}{st:Bq}{Q:Array A3->Bq->Prop}
 (hk:kindOf st=κ) (w3:∀(i:Nat) p,a[i]? = some p->D p) (w4:∀(i:Nat) p,b[i]? = some p->D p) (W:Srt r a.toList) (sb:Srt r b.toList) (ha:0<a.size) (hb:0<b.size)
 (h0:∀y∈a.toList,kr r b 0<=r y) (hl:∀x∈b.toList,r x<=kr r a (a.size-1))
 (h:∀res st',fH st st'->res.toList.Perm (a.toList++b.toList)->Srt r res.toList->Q res st'):Je M A E s (aDG a b) Q st:=by
 have q0:∀{c:Option (Array A3)} {st':Bq},Rs r a b st st' c->∃res,c=some res/\Q res st':=λ⟨res,e,k,p,q⟩=>⟨res,e,h res _ k p q⟩
 have e0:=cG (xs:=a) (i:=a.size-1) (by omega);have j0:J2 r a.toList b.toList (a.size-1) b.size #[a[a.size-1]].toList:=by
  have j:J2 r a.toList b.toList (a.size-1+1) b.size #[].toList:=⟨by rw[Nat.sub_add_cancel ha,D7 (by simp),D7 (by simp)];simp,C6,by simp,by simp⟩
  exact j.a1 W e0 λy hy=>by have:=hl y (BF hy);rwa [kr_at e0] at this
 refine An (FU (Cq ⟨rfl,?_⟩))
 extract_lets total done firstOfB na nb
 refine An (aU e0 ?_)
 extract_lets out
 by_cases g1:a.size-1=0;refine aG (if_pos (by simpa[na] using g1)) ?_;obtain⟨res,e,q⟩:=q0 (uH sb (fH.rfl' st) j0 g1);cases e;exact Ay q;refine aG (if_neg (by simpa[na] using g1)) ?_;by_cases g2:b.size=1;refine aG (if_pos (by simpa[nb] using g2)) ?_;obtain⟨res,e,q⟩:=q0 (uI W h0 (fH.rfl' st) j0 g2);cases e;exact Ay q;refine aG (if_neg (by simpa[nb] using g2)) ?_;refine An (Fd ?_);refine An (BK (Bu (I:=λx (c:Option (Array A3)×Nat×Nat×Array A3×Nat) st'=>G2 r a b st st' c.1 c.2.2.2.1 c.2.1 c.2.2.1/\c.2.1+c.2.2.1+x+1<=a.size+b.size)
  (Q:=λc st'=>Rs r a b st st' c.1) ?step ?q0 ⟨⟨rfl,fH.rfl' st,j0,by dsimp only[na];omega,by dsimp only[nb];omega,by dsimp only[na];omega,by dsimp only[nb];omega⟩,by dsimp only[na,nb];omega⟩) ?post)
 case post=>rintro ⟨c,_⟩ st' q;obtain⟨res,e,q'⟩:=q0 q;dsimp only at e ⊢;subst e;exact Ay q'
 case q0=>rintro ⟨c,i,j,o,m⟩ st' ⟨⟨q1,q2,q3,q4,q5,q7,q8⟩,q6⟩;dsimp only[total] at q4 q5 q6;omega
 case step=>
  rintro x ⟨c,i,j,o,m⟩ w5 _ hx ⟨⟨q1,q2,q3,q4,q5,q7,q8⟩,q6⟩;dsimp only at q1 q2 q3 q4 q5 q6 q7 q8;subst q1;have z7:kindOf w5=κ:=q2.1.trans hk;have ht:total=a.size+b.size:=rfl;refine An (BK (Bu (I:=λx (c:Option (Array A3)×Nat×Nat×Array A3×Nat×Nat) st'=>st'=w5/\G2 r a b st st' c.1 c.2.2.2.1 c.2.1 c.2.2.1/\c.2.1+c.2.2.1+x<=i+j)
   (Q:=λc st'=>st'=w5/\(Rs r a b st st' c.1\/(G2 r a b st st' c.1 c.2.2.2.1 c.2.1 c.2.2.1/\c.2.1+c.2.2.1+1<=i+j))) ?step1 ?fin1 ⟨rfl,⟨rfl,q2,q3,q4,q5,q7,q8⟩,by dsimp only;omega⟩) ?post1)
  case fin1=>rintro ⟨c,i',j',o,ac,bc⟩ st' ⟨e,g,l⟩;exact⟨e,.inr ⟨g,by dsimp only at l ⊢;omega⟩⟩
  case step1=>
   rintro x' ⟨c,i',j',o,ac,bc⟩ st' _ z8 ⟨rfl,⟨c1,_,L,c4,c5,c6,c7⟩,l⟩;dsimp only at c1 L c4 c5 c6 c7 l;subst c1;obtain⟨i0,rfl⟩:∃n,i'=n+1:=⟨i'-1,by omega⟩
   obtain⟨G,rfl⟩:∃n,j'=n+1:=⟨j'-1,by omega⟩
   have ea:=cG (xs:=a) (i:=i0) (by omega);have eb:=cG (xs:=b) (i:=G) (by omega);refine An (aU eb ?_);refine An (aU ea ?_);refine An (C _ _ (w4 _ _ eb) (w3 _ _ ea) _ _ z7 ?_);by_cases g:r b[G]<r a[i0];rw[A8 g];dsimp only;rw[if_pos rfl];refine An (aU ea ?_);have j1:=L.a1 W ea (nT sb (i:=G) (by omega) (by omega) (by rw[kr_at eb];omega));by_cases g3:i0=0;refine aG (if_pos (by simpa using g3)) ?_;exact Ay ⟨rfl,.inl (uH sb q2 j1 g3)⟩;refine aG (if_neg (by simpa using g3)) ?_;by_cases g4:ac+1 ≥ m;refine aG (if_pos g4) ?_;exact Ay ⟨rfl,.inr ⟨⟨rfl,q2,j1,by dsimp only;omega,c5,by dsimp only;omega,c7⟩,by dsimp only;omega⟩⟩;refine aG (if_neg g4) ?_;exact Ay ⟨rfl,⟨rfl,q2,j1,by dsimp only;omega,c5,by dsimp only;omega,c7⟩,by dsimp only;omega⟩;rw[Az g];dsimp only;rw[if_neg bN];refine An (aU eb ?_);have j1:=L.b1 sb eb (nT W (i:=i0) (by omega) (by omega) (by rw[kr_at ea];omega));by_cases g3:G=1;refine aG (if_pos (by simpa using g3)) ?_;exact Ay ⟨rfl,.inl (uI W h0 q2 j1 g3)⟩;refine aG (if_neg (by simpa using g3)) ?_;by_cases g4:bc+1 ≥ m;refine aG (if_pos g4) ?_;exact Ay ⟨rfl,.inr ⟨⟨rfl,q2,j1,c4,by dsimp only;omega,c6,by dsimp only;omega⟩,by dsimp only;omega⟩⟩;refine aG (if_neg g4) ?_;exact Ay ⟨rfl,⟨rfl,q2,j1,c4,by dsimp only;omega,c6,by dsimp only;omega⟩,by dsimp only;omega⟩
  case post1=>
   rintro ⟨c,i',j',o,ac,bc⟩ st' ⟨rfl,g⟩;rcases g with g|⟨⟨c1,_,L,c4,c5,c6,c7⟩,l⟩
   obtain⟨res,e,g'⟩:=g;dsimp only at e ⊢;subst e;exact Ay ⟨res,rfl,g'⟩;dsimp only at c1 L c4 c5 c6 c7 l;subst c1;refine An (FU (Cq ⟨rfl,?_⟩));refine An (BK (Bu (I:=λx (c:Option (Array A3)×Nat×Nat×Array A3×Nat×Nat×Nat) st'=>G2 r a b st st' c.1 c.2.2.2.1 c.2.1 c.2.2.1/\c.2.1+c.2.2.1+1<=i+j)
    (Q:=λc st'=>Rs r a b st st' c.1\/(G2 r a b st st' c.1 c.2.2.2.1 c.2.1 c.2.2.1/\c.2.1+c.2.2.1+1<=i+j)) ?step2 ?fin2 ⟨⟨rfl,q2,L,c4,c5,c6,c7⟩,l⟩) ?post2)
   case fin2=>rintro ⟨c,i',j',o,ac,bc⟩ st' ⟨g,l⟩;exact .inr ⟨g,l⟩
   case post2=>
    rintro ⟨c,i',j',o,mg,ac,bc⟩ st' g;rcases g with g|⟨⟨c1,k2,L,c4,c5,c6,c7⟩,l⟩
    obtain⟨res,e,g'⟩:=g;dsimp only at e ⊢;subst e;exact Ay ⟨res,rfl,g'⟩;dsimp only at c1 L c4 c5 c6 c7 l;subst c1;refine An (DW ?_);exact Ay ⟨⟨rfl,k2,L,c4,c5,c6,c7⟩,by dsimp only;omega⟩
   case step2=>
    rintro x' ⟨c,i',j',o,mg,ac,bc⟩ st' _ z8 ⟨⟨c1,k2,L,c4,c5,c6,c7⟩,l⟩;dsimp only at c1 k2 L c4 c5 c6 c7 l;subst c1;obtain⟨i0,rfl⟩:∃n,i'=n+1:=⟨i'-1,by omega⟩
    obtain⟨G,rfl⟩:∃n,j'=n+1:=⟨j'-1,by omega⟩
    dsimp -zeta only
    extract_lets x1 x2 x3 x4 x5 x6 x7 x8 x9 x10 x11 x12 jp
    have z4:x12=G:=rfl;have e2:x2=i0+1:=rfl;have e4:x4=G+1:=rfl;have e6:x6=o:=rfl;have e8:x8=mg:=rfl;have v2:x11=bc:=rfl
    clear_value x12 x2 x4 x6 x8 x11
    subst z4 e2 e4 e6;have main:∀m',Je M A E s (jp () m') (λr' st'=>match r' with
     | .done c=>Rs r a b st st' c.1\/(G2 r a b st st' c.1 c.2.2.2.1 c.2.1 c.2.2.1/\c.2.1+c.2.2.1+1<=i+j)|.yield c=>G2 r a b st st' c.1 c.2.2.2.1 c.2.1 c.2.2.1/\c.2.1+c.2.2.1+1<=i+j) st':=by
     intro m';dsimp -zeta only[jp];refine An (DW ?_);have eb:=cG (xs:=b) (i:=x12) (by omega);refine An (aU eb ?_);refine An (eG C (k2.1.trans hk) w3 (w4 _ _ eb) (by omega) (by omega) (λi1 i2 B h2=>mF W (by omega) (by omega)) λk v6 b1 b2=>?_);dsimp -zeta only
     extract_lets kk acount jp2
     have v5:kk=i0+1-k:=rfl
     clear_value kk
     have ek:i0+1=k+kk:=by omega
     have ja:=(ek▸L).a W (λz hz y hy=>by
      obtain⟨n1,n2,n3,n4⟩:=pP hz;have B:=b2 (k+n1) (by omega) (by omega);unfold Bp at B;rw[Ea,kr_at n4] at B;simp only[bF,if_false,Fu,Aq] at B;exact nT sb (i:=x12) (by omega) (by omega) (by rw[kr_at eb];omega) y hy)
     have ka:∀y∈a.toList.take k,r y<=r b[x12]:=λy hy=>by obtain⟨n1,n2,n3,n4⟩:=kM hy;have B:=b1 n1 n2;unfold Bp at B;rw[Ea,kr_at n4] at B;simp only[bF,if_false,Cb,Bw] at B;omega
     have q9:∀U i2 o',fH st U->J2 r a.toList b.toList i2 (x12+1) o'.toList->0<i2->i2<=a.size->i2+(x12+1)+1<=i+j->(∀y∈a.toList.take i2,r y<=r b[x12])->Je M A E s (jp2 () i2 o') (λr' st'=>match r' with
      | .done c=>Rs r a b st st' c.1\/(G2 r a b st st' c.1 c.2.2.2.1 c.2.1 c.2.2.1/\c.2.1+c.2.2.1+1<=i+j)|.yield c=>G2 r a b st st' c.1 c.2.2.2.1 c.2.1 c.2.2.1/\c.2.1+c.2.2.1+1<=i+j) U:=by
      intro U i2 o' k3 jj v3 v4 v7 z6;dsimp -zeta only[jp2];refine An (aU eb ?_);have j1:=jj.b1 sb eb z6;by_cases g3:x12=1;refine aG (if_pos (by simpa using g3)) ?_;exact Ay (.inl (uI W h0 k3 j1 g3));refine aG (if_neg (by simpa using g3)) ?_;obtain⟨i3,rfl⟩:∃n,i2=n+1:=⟨i2-1,by omega⟩
      have ea:=cG (xs:=a) (i:=i3) (by omega);refine An (aU ea ?_);refine An (eG C (k3.1.trans hk) w4 (w3 _ _ ea) (by omega) (by omega) (λi1 i2 B h2=>mF sb (by omega) (by omega)) λk' v0 z2 z3=>?_);dsimp -zeta only
      extract_lets kk' bcount x3a jp3
      have z5:i3=x3a:=rfl
      clear_value x3a
      subst z5;have x0:kk'=x12-k':=rfl
      clear_value kk'
      have w6:x12=k'+kk':=by omega
      have jb:=(show J2 r a.toList b.toList (i3+1) (k'+kk') (o'.push b[x12]).toList by rw[<-w6];exact j1).b sb (λz hz y hy=>by
       obtain⟨n1,n2,n3,n4⟩:=pP hz;have B:=z3 (k'+n1) (by omega) (by omega);unfold Bp at B;rw[Ea,kr_at n4] at B;simp only[if_true,Bw] at B;exact nT W (i:=i3) (by omega) (by omega) (by rw[kr_at ea];omega) y hy)
      have kb:∀y∈b.toList.take k',r y<=r a[i3]:=λy hy=>by obtain⟨n1,n2,n3,n4⟩:=kM hy;have B:=z2 n1 n2;unfold Bp at B;rw[Ea,kr_at n4] at B;simp only[if_true,Aq] at B;omega
      have w1:∀j3 o3,J2 r a.toList b.toList (i3+1) j3 o3.toList->1<j3->j3<=b.size->i3+j3+1<=i+j->(∀y∈b.toList.take j3,r y<=r a[i3])->Je M A E s (jp3 () j3 o3) (λr' st'=>match r' with
       | .done c=>Rs r a b st st' c.1\/(G2 r a b st st' c.1 c.2.2.2.1 c.2.1 c.2.2.1/\c.2.1+c.2.2.1+1<=i+j)|.yield c=>G2 r a b st st' c.1 c.2.2.2.1 c.2.1 c.2.2.1/\c.2.1+c.2.2.1+1<=i+j) U:=by intro j3 o3 z9 z0 z1 v1 w9;dsimp -zeta only[jp3];refine An (aU ea ?_);have j4:=z9.a1 W ea w9;by_cases g4:i3=0;refine aG (if_pos (by simpa using g4)) ?_;exact Ay (.inl (uH sb k3 j4 g4));refine aG (if_neg (by simpa using g4)) ?_;by_cases g5:(decide (acount<7)&&decide (bcount<7))=true;refine aG (if_pos g5) ?_;exact Ay (.inr ⟨⟨rfl,k3,j4,by dsimp only;omega,z0,by dsimp only;omega,z1⟩,by dsimp only;omega⟩);refine aG (if_neg g5) ?_;exact Ay ⟨⟨rfl,k3,j4,by dsimp only;omega,z0,by dsimp only;omega,z1⟩,by dsimp only;omega⟩
      have w7:((b.toList.drop k').take kk').reverse=((b.extract k' x12).reverse).toList:=by rw[Di,w6,jR]
      by_cases g6:kk'>0;refine aG (if_pos g6) ?_;rw[w7,<-AR] at jb;by_cases g7:k'=1;refine aG (if_pos (by simpa using g7)) ?_;exact Ay (.inl (uI W h0 k3 jb g7));refine aG (if_neg (by simpa using g7)) ?_;by_cases g8:k'=0;refine aG (if_pos (by simpa using g8)) ?_;exact Ay (.inl (aIL W k3 jb g8));refine aG (if_neg (by simpa using g8)) ?_;exact w1 _ _ jb (by omega) (by omega) (by omega) kb;refine aG (if_neg g6) ?_;have e:k'=x12:=by omega
      exact w1 _ _ j1 (by omega) (by omega) (by omega) (e▸kb)
     have w8:((a.toList.drop k).take kk).reverse=((a.extract k (i0+1)).reverse).toList:=by rw[Di,ek,jR]
     by_cases g6:kk>0;refine aG (if_pos g6) ?_;rw[w8,<-AR] at ja;by_cases g7:k=0;refine aG (if_pos (by simpa using g7)) ?_;exact Ay (.inl (uH sb k2 ja g7));refine aG (if_neg (by simpa using g7)) ?_;exact q9 _ _ _ k2 ja (by omega) (by omega) (by omega) ka;refine aG (if_neg g6) ?_;have e:k=i0+1:=by omega
     exact q9 _ _ _ k2 L (by omega) (by omega) (by omega) (e▸ka)
    by_cases g:x8>1;refine aG (if_pos g) ?_;exact BK (main _) λr' U h=>by cases r' <;> exact h
    refine aG (if_neg g) ?_;exact BK (main _) λr' U h=>by cases r' <;> exact h
noncomputable def Sg(r:A3->Nat)(xs:Array A3)(lo hi:Nat):Prop:=∀i j,lo<=i->i<=j->j<hi->kr r xs i<=kr r xs j
noncomputable def wr(base:Nat)(xs:Array A3)(m:List A3)(j:Nat):Array A3:=(m.zipIdx j).foldl (λa q=>a.setIfInBounds (base+q.2) q.1) xs
theorem aDH(base:Nat):∀(m:List A3) (j:Nat) (xs:Array A3) (k:Nat),base+j+m.length<=xs.size->(wr base xs m j)[k]? = if base+j<=k/\k<base+j+m.length then m[k-(base+j)]? else xs[k]?
 | [],j,xs,k,_=>by rw[if_neg (by rw[lN];omega)];rfl|p::m,j,xs,k,h=>by
  rw[lC] at h ⊢;show(wr base (xs.setIfInBounds (base+j) p) m (j+1))[k]? = _;rw[aDH base m (j+1) _ k (by rw[FL];omega)];by_cases g:k=base+j;subst g;rw[if_neg (by omega),if_pos (by omega),K2,Array.getElem?_setIfInBounds_self,if_pos (by omega)];rfl;by_cases l:base+j<=k/\k<base+j+(m.length+1)
  rw[if_pos (by omega),if_pos l];obtain⟨z,rfl⟩:∃z,k=base+(j+1)+z:=⟨k-(base+(j+1)),by omega⟩
  rw[Bm,show base+(j+1)+z-(base+j)=z+1 by omega,gS];rw[if_neg (by omega),if_neg l,Array.getElem?_setIfInBounds_ne (by omega)]
theorem aFZ{base:Nat}{m:List A3}{xs:Array A3}(h:base+m.length<=xs.size):(wr base xs m 0).toList=xs.toList.take base++m++xs.toList.drop (base+m.length):=by
 apply Iq;intro k;rw[AT,aDH base m 0 xs k (by omega),Ir];have l:(xs.toList.take base).length=base:=by simp;omega
 by_cases g:base<=k/\k<base+m.length;rw[if_pos g,AD,A1 (by omega),l,A5 (by omega)];rw[if_neg g];by_cases q:k<base;rw[AD,A5 (by omega),Fw,if_pos q,AT];rw[A1 (by rw[lA];omega),lA,l,Ep,show base+m.length+(k-(base+m.length))=k by omega,AT]
theorem Sg.srt{xs:Array A3}{lo hi:Nat}(h:Sg r xs lo hi)(L:hi<=xs.size):Srt r (xs.extract lo hi).toList:=by
 refine B0.mpr λi j B I G=>?_;have l:lo+j<hi:=by simp at I;omega
 have q:=h (lo+i) (lo+j) (by omega) (by omega) l;rw[kr_at (cG (show lo+i<xs.size by omega)),kr_at (cG (show lo+j<xs.size by omega))] at q;simpa using q
theorem aAM{xs:Array A3}{lo hi:Nat}{p:A3}(h:p∈(xs.extract lo hi).toList):∃j,lo<=j/\j<hi/\j<xs.size/\xs[j]? = some p:=by
 obtain⟨j,q,e⟩:=EN.mp h;have l:lo+j<hi/\lo+j<xs.size:=by simp at q;omega
 exact⟨lo+j,by omega,l.1,l.2,by rw[cG l.2,<-e];simp⟩
theorem aGa{x st:Bq}{Q:PUnit->Bq->Prop}(h:Q ⟨⟩ x):Je M A E s (set x:StateT Bq KJ PUnit) Q st:=by unfold Je;rw[StateT.run_set];exact Ad ⟨rfl,h⟩
structure Md (r:A3->Nat) (st st':Bq) (lo hi:Nat):Prop where
 kd:kindOf st'=kindOf st
 fl:DV st'=DV st
 pm:(arrOf st').toList.Perm (arrOf st).toList
 out:∀k,k<lo\/hi<=k->(arrOf st')[k]? = (arrOf st)[k]?
 sg:Sg r (arrOf st') lo hi
theorem xF(C:Cmp M A E s κ D r){st:Bq}{i s1 B n2 p1 p2:Nat}{Q:Bool->Bq->Prop}(hk:kindOf st=κ)(hf:DV st=none)(hD:∀(i:Nat) p,(arrOf st)[i]? = some p->D p)
 (h1:(AA st)[i]? = some (s1,B,p1)) (h2:(AA st)[i+1]? = some (s1+B,n2,p2)) (g1:Sg r (arrOf st) s1 (s1+B)) (g2:Sg r (arrOf st) (s1+B) (s1+B+n2)) (z1:0<B) (z2:0<n2) (hs:s1+B+n2<=(arrOf st).size)
 (h:∀st',Md r st st' s1 (s1+B+n2)->AA st'=((AA st).setIfInBounds i (s1,B+n2,p1)).eraseIdxIfInBounds (i+1)->Q true st'):Je M A E s (mergeAt' i) Q st:=by
 refine An (Fd ?_);dsimp -zeta only;rw[h1,h2];dsimp -zeta only;refine An (aGa ?_);have eb:=cG (xs:=arrOf st) (i:=s1+B) (by omega);refine An (aU eb ?_);refine An (eG C (show kindOf _=κ from hk) hD (hD _ _ eb) (show s1+B<=(arrOf st).size by omega) z1 (λi1 i2 h1 h2=>g1 _ _ (by omega) (by omega) (by omega)) λk q9 b1 b2=>?_);dsimp -zeta only;have pa:∀G,s1<=G->G<s1+k->kr r (arrOf st) G<=kr r (arrOf st) (s1+B):=λG W l2=>by have q:=b1 (G-s1) (by omega);unfold Bp at q;rw[show s1+(G-s1)=G by omega] at q;simp only[bF,if_false,Cb,Bw] at q;rw[kr_at eb];exact FR q
 have pb:∀G,s1+k<=G->G<s1+B->kr r (arrOf st) (s1+B)<=kr r (arrOf st) G:=λG W l2=>by have q:=b2 (G-s1) (by omega) (by omega);unfold Bp at q;rw[show s1+(G-s1)=G by omega] at q;simp only[bF,if_false,Fu,Aq] at q;rw[kr_at eb];exact Cy q
 have q0:(∀G I,s1<=G->G<s1+B->s1+B<=I->I<s1+B+n2->kr r (arrOf st) G<=kr r (arrOf st) I)->Sg r (arrOf st) s1 (s1+B+n2):=λhx G I W l2 l3=>by by_cases c1:I<s1+B;exact g1 _ _ W l2 c1;by_cases c2:G<s1+B;exact hx _ _ W c2 (by omega) l3;exact g2 _ _ (by omega) l2 l3
 by_cases e1:B-k=0;refine aG (if_pos (by simpa using e1)) ?_;refine Ay (h _ ⟨rfl,rfl,Cf _,λ_ _=>rfl,?_⟩ rfl);exact q0 λG I W l2 l3 l4=>AC (pa G W (by omega)) (g2 _ _ (Ah _) l3 l4);refine aG (if_neg (by simpa using e1)) ?_;have ea:=cG (xs:=arrOf st) (i:=s1+k+(B-k)-1) (by omega);refine An (aU ea ?_);refine An (eG C (show kindOf _=κ from hk) hD (hD _ _ ea) (show s1+B+n2<=(arrOf st).size from hs) (by omega) (λi1 i2 h1 h2=>g2 _ _ (by omega) (by omega) (by omega)) λm w1 d1 d2=>?_);dsimp -zeta only;have el:s1+k+(B-k)-1=s1+B-1:=by omega
 have pc:∀I,s1+B<=I->I<s1+B+m->kr r (arrOf st) I<=kr r (arrOf st) (s1+B-1):=λI W l2=>by have q:=d1 (I-(s1+B)) (by omega);unfold Bp at q;rw[show s1+B+(I-(s1+B))=I by omega] at q;simp only[if_true,Aq] at q;rw[<-el,kr_at ea];exact Cy q
 have pd:∀I,s1+B+m<=I->I<s1+B+n2->kr r (arrOf st) (s1+B-1)<=kr r (arrOf st) I:=λI W l2=>by have q:=d2 (I-(s1+B)) (by omega) (by omega);unfold Bp at q;rw[show s1+B+(I-(s1+B))=I by omega] at q;simp only[if_true,Bw] at q;rw[<-el,kr_at ea];exact FR q
 by_cases e2:m=0;refine aG (if_pos (by simpa using e2)) ?_;refine Ay (h _ ⟨rfl,rfl,Cf _,λ_ _=>rfl,?_⟩ rfl);exact q0 λG I W l2 l3 l4=>AC (g1 _ _ W (by omega) (by omega)) (pd I (by omega) l4);refine aG (if_neg (by simpa using e2)) ?_
 extract_lets x y jp
 have hx:x=(arrOf st).extract (s1+k) (s1+B):=rfl;have hy:y=(arrOf st).extract (s1+B) (s1+B+m):=rfl
 clear_value x y
 have lx:x.size=B-k:=by rw[hx,HI];omega
 have ly:y.size=m:=by rw[hy,HI];omega
 have mx:∀{p},p∈x.toList->∃j,s1+k<=j/\j<s1+B/\(arrOf st)[j]? = some p:=λ{p} U=>by rw[hx] at U;obtain⟨j,q1,q2,_,q4⟩:=aAM U;exact⟨j,q1,q2,q4⟩
 have my:∀{p},p∈y.toList->∃j,s1+B<=j/\j<s1+B+m/\(arrOf st)[j]? = some p:=λ{p} U=>by rw[hy] at U;obtain⟨j,q1,q2,_,q4⟩:=aAM U;exact⟨j,q1,q2,q4⟩
 have kx:∀j,j<B-k->kr r x j=kr r (arrOf st) (s1+k+j):=λj hj=>by rw[hx,kr,kr,Gr,if_pos (by omega)]
 have ky:∀j,j<m->kr r y j=kr r (arrOf st) (s1+B+j):=λj hj=>by rw[hy,kr,kr,Gr,if_pos (by omega)]
 have sx:Srt r x.toList:=by rw[hx];exact Sg.srt (λG I a1 a2 a3=>g1 _ _ (by omega) a2 a3) (by omega)
 have sy:Srt r y.toList:=by rw[hy];exact Sg.srt (λG I a1 a2 a3=>g2 _ _ (by omega) a2 (by omega)) (by omega)
 have main:∀l L,fH (JH (kindOf st) (arrOf st) (((AA st).setIfInBounds i (s1,B+n2,p1)).eraseIdxIfInBounds (i+1)) (gallopOf st) (DV st)) L->l.toList.Perm (x.toList++y.toList)->Srt r l.toList->Je M A E s (jp l) Q L:=by
  intro l L kp pm so;dsimp -zeta only[jp];have ls:l.toList.length=B-k+m:=by rw[pm.length_eq,lA,<-lx,<-ly];simp
  have q3:arrOf L=arrOf st:=kp.2.1;refine An (DW (An (Fd (Ay ?_))));have q8:DV L=none:=kp.2.2.2.trans hf;show Q (DV L).isNone _;rw[q8];have hw:s1+k+l.toList.length<=(arrOf st).size:=by omega
  have at':∀z,(wr (s1+k) (arrOf st) l.toList 0)[z]? = if s1+k<=z/\z<s1+k+(B-k+m) then l.toList[z-(s1+k)]? else (arrOf st)[z]? := λz=>by rw[aDH _ _ _ _ _ (by omega),ls,Ir]
  refine h _ ⟨kp.1,kp.2.2.2,?_,λz hz=>?_,?_⟩ kp.2.2.1;show(wr (s1+k) (arrOf L) l.toList 0).toList.Perm _;rw[q3,aFZ hw,ls];have e3:(arrOf st).toList=(arrOf st).toList.take (s1+k)++(x.toList++y.toList)++(arrOf st).toList.drop (s1+k+(B-k+m)):=by rw[hx,hy,show s1+B=s1+k+(B-k) by omega,jR,jR,<-AD,<-fV,<-fV,show s1+k+(B-k)+m=s1+k+(B-k+m) by omega,AW]
  refine Jk ?_ (Jl e3.symm);exact(pm.append_left _).append_right _;show(wr (s1+k) (arrOf L) l.toList 0)[z]? = _;rw[q3,at',if_neg (by omega)];show Sg r (wr (s1+k) (arrOf L) l.toList 0) _ _;rw[q3];have q7:∀z,s1+k<=z->z<s1+k+(B-k+m)->∃p∈x.toList++y.toList,kr r (wr (s1+k) (arrOf st) l.toList 0) z=r p:=λz W l2=>by
   have hz:z-(s1+k)<l.toList.length:=by omega
   refine⟨l.toList[z-(s1+k)],pm.mem_iff.mp (AG hz),?_⟩;unfold kr;rw[at',if_pos ⟨W,l2⟩,Ae hz]
  have ex:∀z,z<s1+k\/s1+k+(B-k+m)<=z->kr r (wr (s1+k) (arrOf st) l.toList 0) z=kr r (arrOf st) z:=λz hz=>by unfold kr;rw[at',if_neg (by omega)]
  intro G I W l2 l3;by_cases c1:G<s1+k;rw[ex G (.inl c1)];by_cases c2:I<s1+k;rw[ex I (.inl c2)];exact g1 _ _ W l2 (by omega);by_cases c3:I<s1+k+(B-k+m)
  obtain⟨p,U,e⟩:=q7 I (by omega) c3;rw[e];rcases AJ.mp U with U|U;obtain⟨z,y1,y2,y3⟩:=mx U;rw[<-kr_at (r:=r) y3];exact g1 _ _ W (by omega) y2;obtain⟨z,y1,y2,y3⟩:=my U;rw[<-kr_at (r:=r) y3];exact AC (pa G W c1) (g2 _ _ (Ah _) y1 (by omega));rw[ex I (.inr (by omega))];exact AC (pa G W c1) (g2 _ _ (Ah _) (by omega) l3);by_cases c3:I<s1+k+(B-k+m)
  have h1:G-(s1+k)<l.toList.length:=by omega
  have h2:I-(s1+k)<l.toList.length:=by omega
  unfold kr;rw[at',at',if_pos (by omega),if_pos (by omega),Ae h1,Ae h2];rcases Eo l2 with c4|c4;exact B0.mp so _ _ h1 h2 (by omega);subst c4;exact Ah _;rw[ex I (.inr (by omega))];by_cases c4:G<s1+k+(B-k+m)
  obtain⟨p,U,e⟩:=q7 G (by omega) c4;rw[e];rcases AJ.mp U with U|U;obtain⟨z,y1,y2,y3⟩:=mx U;rw[<-kr_at (r:=r) y3];exact AC (g1 _ _ (by omega) (show z<=s1+B-1 by omega) (by omega)) (pd I (by omega) l3);obtain⟨z,y1,y2,y3⟩:=my U;rw[<-kr_at (r:=r) y3];exact g2 _ _ y1 (by omega) l3;rw[ex G (.inr (by omega))];exact g2 _ _ (by omega) l2 l3
 have q5:∀q∈x.toList,kr r y 0<=r q:=λq hq=>by obtain⟨z,y1,y2,y3⟩:=mx hq;rw[ky 0 (by omega),<-kr_at (r:=r) y3];exact pb z y1 y2
 have q6:∀q∈y.toList,r q<=kr r x (x.size-1):=λq hq=>by obtain⟨z,y1,y2,y3⟩:=my hq;rw[lx,kx _ (by omega),<-kr_at (r:=r) y3,show s1+k+(B-k-1)=s1+B-1 by omega];exact pc z y1 y2
 have dx:∀(i:Nat) p,x[i]? = some p->D p:=λG p U=>by obtain⟨z,_,_,y3⟩:=mx (DX.mpr (DH U));exact hD _ _ y3
 have dy:∀(i:Nat) p,y[i]? = some p->D p:=λG p U=>by obtain⟨z,_,_,y3⟩:=my (DX.mpr (DH U));exact hD _ _ y3
 by_cases e3:B-k<=m;refine aG (if_pos e3) ?_;exact An (xD C (show kindOf _=κ from hk) dx dy sx sy (by omega) (by omega) q5 q6 λres L kp pm so=>main res L kp pm so);refine aG (if_neg e3) ?_;exact An (xE C (show kindOf _=κ from hk) dx dy sx sy (by omega) (by omega) q5 q6 λres L kp pm so=>main res L kp pm so)
theorem mH(C:Cmp M A E s κ D r){st:Bq}{i j:Nat}{Q:Option Bool->Bq->Prop}(B:kindOf st=κ)(q:∀(i:Nat) p,(arrOf st)[i]? = some p->D p)(hi:i<(arrOf st).size)(l:j<(arrOf st).size)
 (h:Q (some (decide (kr r (arrOf st) i<kr r (arrOf st) j))) st):Je M A E s (ltAt' i j) Q st:=by rw[ltAt'_eq];refine An (Fd (An (aU (cG hi) (An (aU (cG l) ?_)))));rw[kr_at (cG hi),kr_at (cG l)] at h;exact C _ _ (q _ _ (cG hi)) (q _ _ (cG l)) st _ B h
noncomputable def Nd(r:A3->Nat)(xs:Array A3):Prop:=(xs.toList.map r).Nodup
theorem Nd.ne{xs:Array A3}(h:Nd r xs){i j:Nat}(l:i<j)(q:j<xs.size):kr r xs i≠kr r xs j:=by rw[kr_at (cG (show i<xs.size by omega)),kr_at (cG q)];have:=B0.mp h i j (by simp;omega) (by simp;omega) l;simpa using this
theorem Nd.perm{xs ys:Array A3}(h:Nd r xs)(p:ys.toList.Perm xs.toList):Nd r ys:=(p.map r).nodup_iff.mpr h
theorem uJ(C:Cmp M A E s κ D r){st:Bq}{lo B:Nat}{Q:Option Nat->Bq->Prop}(hk:kindOf st=κ)(hD:∀(i:Nat) p,(arrOf st)[i]? = some p->D p)(nd:Nd r (arrOf st))(h1:1<=B)(hs:lo+B<=(arrOf st).size)
 (h:∀n st',1<=n->n<=B->Md r st st' lo (lo+n)->AA st'=AA st->Q (some n) st'):Je M A E s (countRun' lo B) Q st:=by
 refine An (BK (Bu (I:=λx (c:Option (Option Nat)×Nat) st'=>st'=st/\c.1=none/\c.2=x/\Sg r (arrOf st) lo (lo+c.2))
  (Q:=λc st'=>st'=st/\c.1=none/\1<=c.2/\c.2<=B/\Sg r (arrOf st) lo (lo+c.2)/\(c.2=B\/kr r (arrOf st) (lo+c.2)<kr r (arrOf st) (lo+c.2-1))) ?step ?fin ⟨rfl,rfl,rfl,λi j a b c=>by have:i=j:=by { dsimp only at c;omega };subst this;exact Ah _⟩) ?post)
 case fin=>rintro ⟨c,n⟩ st' ⟨rfl,e1,e2,U⟩;dsimp only at e1 e2 U ⊢;exact⟨rfl,e1,by omega,by omega,U,.inl (by omega)⟩
 case step=>rintro x ⟨c,n⟩ st' q0 q1 ⟨rfl,e1,e2,U⟩;dsimp only at e1 e2 U;subst e1 e2;refine An (mH C hk hD (i:=lo+n) (j:=lo+n-1) (by omega) (by omega) ?_);by_cases g:kr r (arrOf st') (lo+n)<kr r (arrOf st') (lo+n-1);rw[A8 g];exact Ay ⟨rfl,rfl,q0,by dsimp only;omega,U,.inr g⟩;rw[Az g];refine Ay ⟨rfl,rfl,rfl,λi j a b c=>?_⟩;dsimp only at c;by_cases c1:j<lo+n;exact U _ _ a b c1;by_cases c2:i=j;subst c2;exact Ah _;have:=U i (lo+n-1) a (by omega) (by omega);rw[show j=lo+n by omega];omega
 case post=>
  rintro ⟨c,n⟩ st' ⟨rfl,e1,e2,U,e4,e5⟩;dsimp only at e1 e2 U e4 e5;subst e1;dsimp -zeta only;by_cases g1:n=B;refine aG (if_pos (by simpa using g1)) ?_;exact Ay (h n st' e2 U ⟨rfl,rfl,Cf _,λ_ _=>rfl,e4⟩ rfl);refine aG (if_neg (by simpa using g1)) ?_;have e5:=e5.resolve_left g1
  extract_lets y1 y2 jp
  by_cases g2:n>1;refine aG (if_pos g2) ?_;refine An (mH C hk hD (i:=lo) (j:=lo+n-1) (by omega) (by omega) ?_);have q:kr r (arrOf st') lo<kr r (arrOf st') (lo+n-1):=HJ (e4 _ _ (Ah _) (by omega) (by omega)) (nd.ne (by omega) (by omega));rw[A8 q];exact Ay (h n st' e2 U ⟨rfl,rfl,Cf _,λ_ _=>rfl,e4⟩ rfl);refine aG (if_neg g2) ?_;obtain rfl:n=1:=by omega
  dsimp -zeta only[jp];refine An (FU (Cq ⟨rfl,?_⟩));refine An (BK (Bu (I:=λx (c:Option (Option Nat)×Nat×Nat) l=>l=st'/\c.1=none/\c.2.1=x/\c.2.2=0/\∀i j,lo<=i->i<j->j<lo+c.2.1->kr r (arrOf st') j<=kr r (arrOf st') i)
   (Q:=λc l=>l=st'/\c.1=none/\2<=c.2.1/\c.2.1<=B/\c.2.2=0/\∀i j,lo<=i->i<j->j<lo+c.2.1->kr r (arrOf st') j<=kr r (arrOf st') i) ?stepd ?find ⟨rfl,rfl,rfl,rfl,λi j a b c=>?initd⟩) ?postd)
  case initd=>dsimp only at c;rw[show i=lo by omega,show j=lo+1 by omega];exact Cy e5
  case find=>rintro ⟨c,n,q⟩ l ⟨rfl,f1,f2,f3,f4⟩;dsimp only at f1 f2 f3 f4 ⊢;exact⟨rfl,f1,by omega,by omega,f3,f4⟩
  case stepd=>rintro x ⟨c,n,q⟩ l q0 q1 ⟨rfl,f1,f2,f3,f4⟩;dsimp only at f1 f2 f3 f4;subst f1 f2 f3;refine An (mH C hk hD (i:=lo+n) (j:=lo+n-1) (by omega) (by omega) ?_);by_cases g:kr r (arrOf l) (lo+n)<kr r (arrOf l) (lo+n-1);rw[A8 g];refine Ay ⟨rfl,rfl,rfl,rfl,λi j a b c=>?_⟩;dsimp only at c;by_cases c1:j<lo+n;exact f4 _ _ a b c1;rw[show j=lo+n by omega];by_cases c2:i=lo+n-1;rw[c2];omega;have:=f4 i (lo+n-1) a (by omega) (by omega);omega;rw[Az g];refine An (mH C hk hD (i:=lo+n-1) (j:=lo+n) (by omega) (by omega) ?_);have q:kr r (arrOf l) (lo+n-1)<kr r (arrOf l) (lo+n):=HJ (by omega) (nd.ne (by omega) (by omega));rw[A8 q];exact Ay ⟨rfl,rfl,by dsimp only;omega,by dsimp only;omega,rfl,f4⟩
  case postd=>
   rintro ⟨c,n,q⟩ l ⟨rfl,f1,f2,f3,f4,f5⟩;dsimp only at f1 f2 f3 f4 f5;subst f1 f4;refine aG (if_neg (AY 0)) ?_;refine An (DW ?_);have hm:lo+n<=(arrOf l).size:=by omega
   have am:∀k:Nat,(DY (arrOf l) lo (lo+n) ((lo+n-lo) / 2))[k]? = if lo<=k/\k<lo+n then (arrOf l)[lo+(lo+n)-1-k]? else (arrOf l)[k]? := λk=>getElem?_mirror_all hm k
   have km:∀k:Nat,kr r (DY (arrOf l) lo (lo+n) ((lo+n-lo) / 2)) k=if lo<=k/\k<lo+n then kr r (arrOf l) (lo+(lo+n)-1-k) else kr r (arrOf l) k:=λk=>by by_cases c:lo<=k/\k<lo+n;rw[if_pos c,kr,am,if_pos c];rfl;rw[if_neg c,kr,am,if_neg c];rfl
   have q3:(DY (arrOf l) lo (lo+n) ((lo+n-lo) / 2)).toList.Perm (arrOf l).toList:=(mirror_perm _ _ _ _).toList;have md:∀G,n<=G->Sg r (DY (arrOf l) lo (lo+n) ((lo+n-lo) / 2)) lo (lo+G)->Md r l (K3 l (DY (arrOf l) lo (lo+n) ((lo+n-lo) / 2))) lo (lo+G):=λG hn sg=>⟨rfl,rfl,q3,λk hk=>by
    show(DY (arrOf l) lo (lo+n) ((lo+n-lo) / 2))[k]? = _;rw[am,if_neg (by omega)],sg⟩
   have hz:(DY (arrOf l) lo (lo+n) ((lo+n-lo) / 2)).size=(arrOf l).size:=mirror_size _ _ _ _;have q2:∀(i:Nat) p,(DY (arrOf l) lo (lo+n) ((lo+n-lo) / 2))[i]? = some p->D p:=λi p hp=>by rw[am] at hp;split at hp;exact hD _ _ hp;exact hD _ _ hp
   refine An (BK (Bu (I:=λx (c:Option (Option Nat)×Nat) L=>L=K3 l (DY (arrOf l) lo (lo+n) ((lo+n-lo) / 2))/\c.1=none/\c.2=x/\Sg r (DY (arrOf l) lo (lo+n) ((lo+n-lo) / 2)) lo (lo+c.2))
    (Q:=λc L=>L=K3 l (DY (arrOf l) lo (lo+n) ((lo+n-lo) / 2))/\c.1=none/\n<=c.2/\c.2<=B/\Sg r (DY (arrOf l) lo (lo+n) ((lo+n-lo) / 2)) lo (lo+c.2)) ?stepe ?fine ⟨rfl,rfl,rfl,λi j a b c=>?inite⟩) ?poste)
   case inite=>dsimp only at c;rw[km,km,if_pos (by omega),if_pos (by omega)];rcases Eo b with b|b;exact f5 _ _ (by omega) (by omega) (by omega);subst b;exact Ah _
   case fine=>rintro ⟨c,G⟩ L ⟨rfl,a1,a2,W⟩;dsimp only at a1 a2 W ⊢;exact⟨rfl,a1,by omega,by omega,W⟩
   case poste=>rintro ⟨c,G⟩ L ⟨rfl,a1,a2,W,a4⟩;dsimp only at a1 a2 W a4 ⊢;subst a1;exact Ay (h G _ (by omega) W (md G a2 a4) rfl)
   case stepe=>rintro x ⟨c,G⟩ L q0 q1 ⟨rfl,a1,a2,W⟩;dsimp only at a1 a2 W;subst a1 a2;refine An (mH C (show kindOf _=κ from hk) q2 (i:=lo+G) (j:=lo+G-1) (show _<(DY (arrOf l) lo (lo+n) ((lo+n-lo) / 2)).size by omega) (show _<(DY (arrOf l) lo (lo+n) ((lo+n-lo) / 2)).size by omega) ?_);by_cases g:kr r (arrOf (K3 l (DY (arrOf l) lo (lo+n) ((lo+n-lo) / 2)))) (lo+G)<kr r (arrOf (K3 l (DY (arrOf l) lo (lo+n) ((lo+n-lo) / 2)))) (lo+G-1);rw[A8 g];exact Ay ⟨rfl,rfl,q0,by dsimp only;omega,W⟩;rw[Az g];have g:¬ kr r (DY (arrOf l) lo (lo+n) ((lo+n-lo) / 2)) (lo+G)<kr r (DY (arrOf l) lo (lo+n) ((lo+n-lo) / 2)) (lo+G-1):=g;refine Ay ⟨rfl,rfl,rfl,λi j a b c=>?_⟩;dsimp only at c;by_cases c1:j<lo+G;exact W _ _ a b c1;by_cases c2:i=j;subst c2;exact Ah _;have:=W i (lo+G-1) a (by omega) (by omega);rw[show j=lo+G by omega];omega
theorem aAN{xs ys:Array A3}(p:ys.toList.Perm xs.toList)(B:∀(i:Nat) q,xs[i]? = some q->D q):∀(i:Nat) q,ys[i]? = some q->D q:=λi q h=>by have l:q∈xs.toList:=p.mem_iff.mp (DX.mpr (DH h));obtain⟨j,G⟩:=List.getElem?_of_mem l;exact B j q (by rw[<-AT];exact G)
theorem iS{xs ys:Array A3}(p:ys.toList.Perm xs.toList):ys.size=xs.size:=by simpa using p.length_eq
theorem pQ(C:Cmp M A E s κ D r){st:Bq}{lo n ok:Nat}{Q:Bool->Bq->Prop}(hk:kindOf st=κ)(hD:∀(i:Nat) p,(arrOf st)[i]? = some p->D p)(h1:1<=ok)(h2:ok<=n)(hs:lo+n<=(arrOf st).size)(sg:Sg r (arrOf st) lo (lo+ok))
 (h:∀st',Md r st st' lo (lo+n)->AA st'=AA st->Q true st'):Je M A E s (binarySort' lo n ok) Q st:=by
 refine An (BK (Bu (I:=λx (c:Option Bool×Unit) st'=>c.1=none/\Md r st st' lo (lo+x)/\AA st'=AA st)
  (Q:=λc st'=>c.1=none/\Md r st st' lo (lo+n)/\AA st'=AA st) ?step ?fin ⟨rfl,⟨rfl,rfl,Cf _,λ_ _=>rfl,by rw[Nat.max_eq_left h1];exact sg⟩,rfl⟩) ?post)
 case post=>rintro ⟨c,u⟩ st' ⟨U,G,e3⟩;dsimp only at U;subst U;exact Ay (h st' G e3)
 case fin=>rintro ⟨c,u⟩ st' ⟨U,G,e3⟩;rw[show max (max ok 1) n=n by omega] at G;exact⟨U,G,e3⟩
 case step=>
  rintro k ⟨c,u⟩ st' q4 q5 ⟨U,G,e3⟩;dsimp only at U;subst U;have q3:kindOf st'=κ:=G.kd.trans hk;have q2:=aAN G.pm hD;have hz:=iS G.pm;refine An (BK (Bu (I:=λx (c:Option Bool×Nat×Nat) B=>B=st'/\c.1=none/\c.2.1<=c.2.2/\c.2.2<=k/\c.2.2+x<=k+c.2.1/\(∀i,i<c.2.1->kr r (arrOf st') (lo+i)<=kr r (arrOf st') (lo+k))/\(∀i,c.2.2<=i->i<k->kr r (arrOf st') (lo+k)<=kr r (arrOf st') (lo+i)))
   (Q:=λc B=>B=st'/\c.1=none/\c.2.1<=k/\(∀i,i<c.2.1->kr r (arrOf st') (lo+i)<=kr r (arrOf st') (lo+k))/\(∀i,c.2.1<=i->i<k->kr r (arrOf st') (lo+k)<=kr r (arrOf st') (lo+i))) ?step1 ?fin1 ⟨rfl,rfl,AL _,Ah _,by dsimp only;omega,λi hi=>absurd hi (Db _),λi a b=>by dsimp only at a;omega⟩) ?post1)
  case fin1=>rintro ⟨c,l,q⟩ B ⟨rfl,a1,a2,L,W,a5,a6⟩;dsimp only at a1 a2 L W a5 a6 ⊢;exact⟨rfl,a1,by omega,a5,λi b1 b2=>a6 i (by omega) b2⟩
  case step1=>rintro x ⟨c,l,q⟩ B _ hx ⟨rfl,a1,a2,L,W,a5,a6⟩;dsimp only at a1 a2 L W a5 a6;subst a1;by_cases g:l ≥ q;refine aG (if_pos g) ?_;exact Ay ⟨rfl,rfl,by dsimp only;omega,a5,λi b1 b2=>a6 i (by dsimp only at b1;omega) b2⟩;refine aG (if_neg g) ?_;refine An (mH C q3 q2 (i:=lo+k) (j:=lo+(l+q) / 2) (by omega) (by omega) ?_);by_cases g2:kr r (arrOf B) (lo+k)<kr r (arrOf B) (lo+(l+q) / 2);rw[A8 g2];refine Ay ⟨rfl,rfl,by dsimp only;omega,by dsimp only;omega,by dsimp only;omega,a5,λi b1 b2=>?_⟩;dsimp only at b1;exact AC (Cy g2) (G.sg _ _ (by omega) (by omega) (by omega));rw[Az g2];refine Ay ⟨rfl,rfl,by dsimp only;omega,L,by dsimp only;omega,λi b1=>?_,a6⟩;dsimp only at b1;exact AC (G.sg (lo+i) (lo+(l+q) / 2) (by omega) (by omega) (by omega)) (by omega)
  case post1=>
   rintro ⟨c,l,q⟩ B ⟨rfl,a1,a2,L,W⟩;dsimp only at a1 a2 L W;subst a1;refine An (DW (Ay ⟨rfl,?_,e3⟩));have hb:∀z:Nat,(Ls (arrOf B) (lo+k) (lo+k-(lo+l)))[z]? = if z=lo+l then (arrOf B)[lo+k]? else if lo+l<z/\z<=lo+k then (arrOf B)[z-1]? else (arrOf B)[z]? := λz=>by have:=getElem?_bubble (xs:=arrOf B) (src:=lo+k) (by omega) (lo+k-(lo+l)) (by omega) z;rw[show lo+k-(lo+k-(lo+l))=lo+l by omega] at this;exact this
   have kb:∀z:Nat,kr r (Ls (arrOf B) (lo+k) (lo+k-(lo+l))) z=if z=lo+l then kr r (arrOf B) (lo+k) else if lo+l<z/\z<=lo+k then kr r (arrOf B) (z-1) else kr r (arrOf B) z:=λz=>by by_cases c1:z=lo+l;rw[if_pos c1,kr,hb,if_pos c1];rfl;by_cases c2:lo+l<z/\z<=lo+k;rw[if_neg c1,if_pos c2,kr,hb,if_neg c1,if_pos c2];rfl;rw[if_neg c1,if_neg c2,kr,hb,if_neg c1,if_neg c2];rfl
   refine⟨G.kd,G.fl,?_,λz q6=>?_,?_⟩;exact(bubble_perm _ _ _).toList.trans G.pm;show(Ls (arrOf B) (lo+k) (lo+k-(lo+l)))[z]? = _;rw[hb,if_neg (by omega),if_neg (by omega)];exact G.out z (by omega);show Sg r (Ls (arrOf B) (lo+k) (lo+k-(lo+l))) _ _;intro i j b1 b2 b3;have S:=G.sg;rw[kb,kb];by_cases ci:i=lo+l;rw[if_pos ci];by_cases cj:j=lo+l;rw[if_pos cj];exact Ah _;rw[if_neg cj,if_pos (by omega)];have:=W (j-1-lo) (by omega) (by omega);rwa [show lo+(j-1-lo)=j-1 by omega] at this;rw[if_neg ci];by_cases q0:lo+l<i/\i<=lo+k;rw[if_pos q0,if_neg (by omega),if_pos (by omega)];exact S _ _ (by omega) (by omega) (by omega);rw[if_neg q0];by_cases cj:j=lo+l;rw[if_pos cj];have:=L (i-lo) (by omega);rwa [show lo+(i-lo)=i by omega] at this;rw[if_neg cj];by_cases q1:lo+l<j/\j<=lo+k;rw[if_pos q1];exact S _ _ (by omega) (by omega) (by omega);rw[if_neg q1];exact S _ _ (by omega) (by omega) (by omega)
noncomputable def RO(r:A3->Nat)(xs:Array A3):Nat->List (Nat×Nat×Nat)->Nat->Prop
 | lo,[],hi=>lo=hi|lo,p::ps,hi=>p.1=lo/\1<=p.2.1/\Sg r xs lo (lo+p.2.1)/\RO r xs (lo+p.2.1) ps hi
theorem RO.le{xs:Array A3}:∀{ps:List (Nat×Nat×Nat)} {lo hi:Nat},RO r xs lo ps hi->lo+ps.length<=hi
 | [],lo,hi,h=>K1 h|p::ps,lo,hi,h=>by obtain⟨_,q,_,l⟩:=h;have:=RO.le l;rw[lC];omega
theorem Sg.of{xs ys:Array A3}{lo hi:Nat}(h:Sg r xs lo hi)(e:∀k,lo<=k->k<hi->ys[k]? = xs[k]?):Sg r ys lo hi:=λi j a b c=>by have:=h i j a b c;rw[kr,kr] at this ⊢;rwa [e i a (by omega),e j (by omega) c]
theorem RO.of{xs ys:Array A3}:∀{ps:List (Nat×Nat×Nat)} {lo hi:Nat},RO r xs lo ps hi->(∀k,lo<=k->k<hi->ys[k]? = xs[k]?)->RO r ys lo ps hi
 | [],_,_,h,_=>h|p::ps,lo,hi,h,e=>by obtain⟨q,B,G,l⟩:=h;have:=RO.le l;exact⟨q,B,G.of λk a b=>e k a (by omega),RO.of l λk a b=>e k (by omega) b⟩
theorem RO.push{xs:Array A3}{n p:Nat}:∀{ps:List (Nat×Nat×Nat)} {lo hi:Nat},RO r xs lo ps hi->1<=n->Sg r xs hi (hi+n)->RO r xs lo (ps++[(hi,n,p)]) (hi+n)
 | [],lo,hi,h,h1,h2=>by cases(show lo=hi from h);exact⟨rfl,h1,h2,rfl⟩|q::ps,lo,hi,h,h1,h2=>by obtain⟨l,B,G,I⟩:=h;exact⟨l,B,G,RO.push I h1 h2⟩
theorem RO.mod{xs:Array A3}{f:Nat×Nat×Nat->Nat×Nat×Nat}(L:∀p,(f p).1=p.1/\(f p).2.1=p.2.1):∀{ps:List (Nat×Nat×Nat)} {lo hi k:Nat},RO r xs lo ps hi->RO r xs lo (ps.modify k f) hi
 | [],_,_,k,h=>by cases k <;> exact h|p::ps,lo,hi,0,h=>by obtain⟨q,B,G,I⟩:=h;obtain⟨U,l⟩:=L p;show RO r xs lo (f p::ps) hi;refine⟨by rw[U];exact q,by rw[l];exact B,by rw[l];exact G,by rw[l];exact I⟩|p::ps,lo,hi,k+1,h=>by obtain⟨q,B,G,I⟩:=h;exact⟨q,B,G,RO.mod L I⟩
theorem RO.merge{xs:Array A3}{s1 l W s2 B p2:Nat}:∀{ps:List (Nat×Nat×Nat)} {lo hi i:Nat},RO r xs lo ps hi->ps[i]? = some (s1,l,W)->ps[i+1]? = some (s2,B,p2) ->
 (s2=s1+l/\1<=l/\1<=B/\Sg r xs s1 (s1+l)/\Sg r xs (s1+l) (s1+l+B)/\s1+l+B<=hi/\lo<=s1) /\
 ∀ys:Array A3,(∀k,k<s1\/s1+l+B<=k->ys[k]? = xs[k]?)->Sg r ys s1 (s1+l+B)->RO r ys lo ((ps.set i (s1,l+B,W)).eraseIdx (i+1)) hi
 | [],_,_,_,_,e,_=>by simp at e|p::ps,lo,hi,0,h,e1,e2=>by
  obtain⟨G,I,L,h4⟩:=h;simp at e1;subst e1;cases ps with
  | nil=>simp at e2|cons q qs=>simp at e2;subst e2;obtain⟨g1,g2,g3,g4⟩:=h4;dsimp only at G I L g1 g2 g3 g4;subst G;have:=RO.le g4;refine⟨⟨g1,I,g2,L,g3,by omega,Ah _⟩,λys U sg=>?_⟩;show RO r ys s1 ((s1,l+B,W)::qs) hi;refine⟨rfl,by dsimp only;omega,by rw[<-EI];exact sg,?_⟩;dsimp only;rw[<-EI];exact g4.of λk a b=>U k (.inr (by omega))
 | p::ps,lo,hi,i+1,h,e1,e2=>by obtain⟨G,I,L,h4⟩:=h;rw[gS] at e1 e2;obtain⟨⟨a1,a2,a3,a4,a5,a6,a7⟩,f⟩:=RO.merge h4 e1 e2;refine⟨⟨a1,a2,a3,a4,a5,a6,by omega⟩,λys U sg=>?_⟩;show RO r ys lo (p::(ps.set i (s1,l+B,W)).eraseIdx (i+1)) hi;exact⟨G,I,L.of λk a b=>U k (.inl (by omega)),f ys U sg⟩
structure SI (r:A3->Nat) (κ:DB) (a₀:Array A3) (st:Bq) (lo:Nat):Prop where
 kd:kindOf st=κ
 fl:DV st=none
 pm:(arrOf st).toList.Perm a₀.toList
 ro:RO r (arrOf st) 0 (AA st).toList lo
theorem SI.merge(C:Cmp M A E s κ D r){a₀:Array A3}{st:Bq}{lo hi i:Nat}{Q:Bool->Bq->Prop}(W:∀(i:Nat) p,a₀[i]? = some p->D p)(S:SI r κ a₀ st lo)(q0:lo<=a₀.size)(sg:Sg r (arrOf st) lo hi)(l:i+1<(AA st).size)
 (h:∀st',SI r κ a₀ st' lo->Sg r (arrOf st') lo hi->(AA st').size+1=(AA st).size->Q true st'):Je M A E s (mergeAt' i) Q st:=by
 obtain⟨⟨s1,n1,p1⟩,q⟩:∃x,(AA st)[i]? = some x:=⟨_,AO (by omega)⟩
 obtain⟨⟨s2,n2,p2⟩,B⟩:∃x,(AA st)[i+1]? = some x:=⟨_,AO l⟩
 obtain⟨⟨a1,G,I,L,U,a6,_⟩,f⟩:=S.ro.merge (i:=i) (by rw[AT];exact q) (by rw[AT];exact B);subst a1;refine xF C S.kd S.fl (aAN S.pm W) q B L U G I (by rw[iS S.pm];omega) λst' md ep=>h st' ⟨md.kd.trans S.kd,md.fl.trans S.fl,md.pm.trans S.pm,?_⟩ (sg.of λk b1 b2=>md.out k (.inr (by omega))) ?_;rw[ep,E8,Fx];exact f _ md.out md.sg;have e:(AA st').toList.length+1=(AA st).toList.length:=by
  rw[ep,E8,Fx,List.length_eraseIdx,if_pos (by simpa using l),AM];have:(AA st).toList.length=(AA st).size:=by simp
  omega
 simpa using e
theorem wpS_sortRuns(C:Cmp M A E s κ D r){st:Bq}{Q:Unit->Bq->Prop}(hk:kindOf st=κ)(hf:DV st=none)(hp:AA st=#[])(hD:∀(i:Nat) p,(arrOf st)[i]? = some p->D p)(nd:Nd r (arrOf st))
 (h:∀st',(arrOf st').toList.Perm (arrOf st).toList->DV st'=none->Sg r (arrOf st') 0 (arrOf st).size->Q () st'):Je M A E s sortRuns' Q st:=by
 refine An (Fd ?_);have S0:SI r κ (arrOf st) st 0:=⟨hk,hf,Cf _,by rw[hp];exact rfl⟩
 refine An (BK (Bu (I:=λx (c:Option Unit×Nat) st'=>c.1=none/\SI r κ (arrOf st) st' c.2/\c.2<=(arrOf st).size/\min x (arrOf st).size<=c.2)
  (Q:=λc st'=>c.1=none/\SI r κ (arrOf st) st' (arrOf st).size) ?step ?fin ⟨rfl,S0,AL _,by dsimp only;omega⟩) ?post)
 case fin=>rintro ⟨c,lo⟩ st' ⟨e1,U,e3,e4⟩;dsimp only at e1 U e3 e4 ⊢;refine⟨e1,?_⟩;have e4:min (max 0 (arrOf st).size) (arrOf st).size<=lo:=e4;rw[show(arrOf st).size=lo by omega];exact U
 case post=>
  rintro ⟨c,lo⟩ st' ⟨e1,U⟩;dsimp only at e1;subst e1;have hl:=U.ro.le;have hl:(AA st').size<=(arrOf st).size:=by simpa using hl
  refine An (BK (Bu (I:=λx (c:Option Unit×Unit) B=>c.1=none/\SI r κ (arrOf st) B (arrOf st).size/\(AA B).size+x<=(arrOf st).size+1)
   (Q:=λc B=>c.1=none/\SI r κ (arrOf st) B (arrOf st).size/\(AA B).size<=1) ?step1 ?fin1 ⟨rfl,U,by omega⟩) ?post1)
  case fin1=>rintro ⟨c,u⟩ B ⟨a1,L,W⟩;have W:(AA B).size+max 0 (arrOf st).size<=(arrOf st).size+1:=W;exact⟨a1,L,by omega⟩
  case post1=>
   rintro ⟨c,u⟩ B ⟨a1,L,W⟩;dsimp only at a1;subst a1;refine Ay (h B L.pm L.fl ?_);have ro:=L.ro;have W:(AA B).toList.length<=1:=by simpa using W
   match hq:(AA B).toList,ro,W with
   | [],ro,_=>have ro:0=(arrOf st).size:=ro;intro i j b1 b2 b3;omega|[p],ro,_=>obtain⟨_,_,q3,q4⟩:=ro;have q4:0+p.2.1=(arrOf st).size:=q4;rw[q4] at q3;exact q3|_::_::_,_,W=>simp at W
  case step1=>
   rintro x ⟨c,u⟩ B _ hx ⟨a1,L,W⟩;dsimp only at a1;subst a1;refine An (Fd ?_);by_cases g:(AA B).size<=1;refine aG (if_pos g) ?_;exact Ay ⟨rfl,L,g⟩;refine aG (if_neg g) ?_
   extract_lets i0 before i
   have hi:i+1<(AA B).size:=by dsimp only[i];have:i0=(AA B).size-2:=rfl;split <;> omega
   refine An (L.merge C hD (Ah _) (hi:=(arrOf st).size) (λi j b1 b2 b3=>by omega) hi λG S3 _ hsz=>?_);exact Ay ⟨rfl,S3,by omega⟩
 case step=>
  rintro x ⟨c,lo⟩ q8 _ hx ⟨e1,U,e3,e4⟩;dsimp only at e1 U e3 e4;subst e1;have hx:x<(arrOf st).size:=hx;by_cases g:lo ≥ (arrOf st).size;refine aG (if_pos g) ?_;refine Ay ⟨rfl,?_⟩;rw[show(arrOf st).size=lo by omega];exact U;refine aG (if_neg g) ?_;have z1:=iS U.pm;refine An (uJ C U.kd (aAN U.pm hD) (nd.perm U.pm) (show 1<=(arrOf st).size-lo by omega) (show lo+((arrOf st).size-lo)<=(arrOf q8).size by omega) λn B n1 n2 md ep=>?_);dsimp -zeta only
  extract_lets nn jp
  have n2:n<=(arrOf st).size-lo:=n2;have S2:SI r κ (arrOf st) B lo:=⟨md.kd.trans U.kd,md.fl.trans U.fl,md.pm.trans U.pm,by rw[ep];exact U.ro.of λk a b=>md.out k (.inl b)⟩
  have main:∀n' G,1<=n'->lo+n'<=(arrOf st).size->SI r κ (arrOf st) G lo->Sg r (arrOf G) lo (lo+n')->Je M A E s (jp () n') (λr' st'=>match r' with
   | .done c=>c.1=none/\SI r κ (arrOf st) st' (arrOf st).size|.yield c=>c.1=none/\SI r κ (arrOf st) st' c.2/\c.2<=(arrOf st).size/\min (x+1) (arrOf st).size<=c.2) G:=by
   intro n' G m1 m2 S3 q2;dsimp -zeta only[jp];refine An (Fd ?_)
   extract_lets lo' jp2
   have push:∀l,SI r κ (arrOf st) l lo->Sg r (arrOf l) lo (lo+n')->Je M A E s (jp2 ()) (λr' st'=>match r' with
    | .done c=>c.1=none/\SI r κ (arrOf st) st' (arrOf st).size|.yield c=>c.1=none/\SI r κ (arrOf st) st' c.2/\c.2<=(arrOf st).size/\min (x+1) (arrOf st).size<=c.2) l:=by intro l S4 q6;dsimp -zeta only[jp2];refine An (DW (Ay ⟨rfl,⟨S4.kd,S4.fl,S4.pm,?_⟩,m2,?_⟩));show RO r (arrOf l) 0 ((AA l).push (lo,n',0)).toList (lo+n');rw[Dh];exact S4.ro.push m1 q6;show min (x+1) (arrOf st).size<=lo+n';omega
   cases hb:(AA G).back? with
   | none=>exact push G S3 q2|some p=>
    obtain⟨s1,q9,w1⟩:=p;dsimp -zeta only
    extract_lets pw
    refine An (BK (Bu (I:=λx (c:Option Unit×Unit) l=>c.1=none/\SI r κ (arrOf st) l lo/\Sg r (arrOf l) lo (lo+n'))
     (Q:=λc l=>c.1=none/\SI r κ (arrOf st) l lo/\Sg r (arrOf l) lo (lo+n')) ?step2 ?fin2 ⟨rfl,S3,q2⟩) ?post2)
    case fin2=>exact λc l q=>q
    case post2=>rintro ⟨c,u⟩ l ⟨a1,L,W⟩;dsimp only at a1;subst a1;refine An (DW ?_);refine push _ ⟨L.kd,L.fl,L.pm,?_⟩ W;show RO r (arrOf l) 0 ((AA l).modify ((AA l).size-1) _).toList lo;rw[Array.toList_modify];exact L.ro.mod (f:=λx=>(x.1,x.2.1,pw)) λp=>⟨rfl,rfl⟩
    case step2=>
     rintro y ⟨c,u⟩ l _ hy ⟨a1,L,W⟩;dsimp only at a1;subst a1;refine An (Fd ?_);dsimp only;by_cases g3:(AA l).size>1;obtain⟨⟨f1,f2,q1⟩,e⟩:∃x,(AA l)[(AA l).size-2]? = some x:=⟨_,AO (by omega)⟩
     have e':(if (AA l).size>1 then (AA l)[(AA l).size-2]? else none)=some (f1,f2,q1):=by rw[if_pos g3];exact e
     rw[e'];by_cases g4:q1<=pw;refine aG (if_pos g4) ?_;exact Ay ⟨rfl,L,W⟩;refine aG (if_neg g4) ?_;refine An (L.merge C hD e3 W (show(AA l).size-2+1<(AA l).size by omega) λw3 S5 q7 _=>?_);exact Ay ⟨rfl,S5,q7⟩;have e':(if (AA l).size>1 then (AA l)[(AA l).size-2]? else none)=none:=if_neg g3;rw[e'];exact Ay ⟨rfl,L,W⟩
  by_cases g2:n<K4 (arrOf st).size (arrOf st).size 0;refine aG (if_pos g2) ?_;refine An (FU (Cq ⟨rfl,?_⟩));have hm:n<=min ((arrOf st).size-lo) (K4 (arrOf st).size (arrOf st).size 0):=by omega
  refine An (pQ C S2.kd (aAN S2.pm hD) n1 hm (show lo+min ((arrOf st).size-lo) (K4 (arrOf st).size (arrOf st).size 0)<=(arrOf B).size by rw[iS S2.pm];omega) md.sg λG q0 q5=>?_);refine aG (if_neg (by decide)) ?_;refine BK (main (min ((arrOf st).size-lo) (K4 (arrOf st).size (arrOf st).size 0)) G (by omega) (by omega) ⟨q0.kd.trans S2.kd,q0.fl.trans S2.fl,q0.pm.trans S2.pm,by rw[q5];exact S2.ro.of λk a b=>q0.out k (.inl b)⟩ q0.sg) λr' l q=>by cases r' <;> exact q
  refine aG (if_neg g2) ?_;exact BK (main _ B n1 (by omega) S2 md.sg) λr' l q=>by cases r' <;> exact q
end
end Ts
namespace L2
open PySem PySem.Spec PyProof.Rows SetTable
set_option maxRecDepth 100000
noncomputable def tmd(m:Nat)(ps ds:List Nat)(mv:Nat)(led:Bool):SetTable:={ mask:=m,place:=ps.toArray,dummies:=ds.toArray,finger:=0,led:=led,moves:=mv,plain:=true }
abbrev tm(m:Nat)(ps:List Nat)(mv:Nat)(led:Bool):SetTable:=tmd m ps [] mv led
abbrev gF(ps:List Nat):Prop:=ps.Pairwise (· < ·)
theorem gF.lt{ps:List Nat}(h:gF ps){i k v u:Nat}(l:i<k)(hi:ps[i]? = some v)(q:ps[k]? = some u):v<u:=by obtain⟨a,rfl⟩:=Ar.mp hi;obtain⟨b,rfl⟩:=Ar.mp q;exact B0.mp h i k a b l
theorem pR{ps:List Nat}{j:Nat}(I:gF ps):∀(l lo hi:Nat),lo<=hi->hi<=ps.length->hi-lo<=l->(∀i v,i<lo->ps[i]? = some v->v<j)->(∀i v,hi<=i->ps[i]? = some v->j<=v) ->
 ∃r,below.go ps.toArray j l lo hi=r/\r<=ps.length/\(∀i v,i<r->ps[i]? = some v->v<j)/\(∀i v,r<=i->ps[i]? = some v->j<=v)
 | 0,lo,hi,h1,h2,h3,a,b=>⟨lo,rfl,by omega,a,λi v q=>b i v (by omega)⟩
 | f+1,lo,hi,h1,h2,h3,a,b=>by
  rw[below.go];by_cases c:lo<hi;rw[if_pos c];have M:(lo+hi) / 2<ps.length:=by omega
  have e:ps.toArray.getD ((lo+hi) / 2) j=ps[(lo+hi) / 2]:=by simp[Array.getD,M]
  have G:ps[(lo+hi) / 2]? = some ps[(lo+hi) / 2]:=Ae M;dsimp only;rw[e];by_cases d:ps[(lo+hi) / 2]<j;rw[if_pos d];refine pR I f _ _ (by omega) h2 (by omega) (λi v L B=>?_) b;rcases BU i ((lo+hi) / 2) with q|q;exact E4 (I.lt q B G) d;obtain rfl:i=(lo+hi) / 2:=by omega
  rw[G] at B;cases B;exact d;rw[if_neg d];refine pR I f _ _ (by omega) (by omega) (by omega) a λi v L B=>?_;rcases BU ((lo+hi) / 2) i with q|q;exact Cy (HK (by omega) (I.lt q G B));obtain rfl:i=(lo+hi) / 2:=by omega
  rw[G] at B;cases B;omega;rw[if_neg c];exact⟨lo,rfl,by omega,a,λi v q=>b i v (by omega)⟩
theorem bel{ps:List Nat}(l:gF ps)(j:Nat):below ps.toArray j<=ps.length/\(∀i v,i<below ps.toArray j->ps[i]? = some v->v<j)/\(∀i v,below ps.toArray j<=i->ps[i]? = some v->j<=v):=by obtain⟨r,e,h⟩:=pR (j:=j) l ps.length 0 ps.length (AL _) (Ah _) (by omega) (λi v h=>absurd h (Db _)) (λi v h q=>by rw[EB h] at q;cases q);rw[show below ps.toArray j=r from by unfold below;rw[Af];exact e];exact h
theorem uK{ps:List Nat}(l:gF ps){i j:Nat}(h:ps[i]? = some j):below ps.toArray j=i:=by obtain⟨I,B,G⟩:=bel l j;rcases FD (below ps.toArray j) i with q|q|q;have L:=(Ar.mp h).1;have:=G _ _ (Ah _) (Ae (by omega));have:=l.lt q (Ae (by omega)) h;omega;exact q;exact absurd (B i j q h) (AY _)
section
variable {m mv:Nat} {ps ds:List Nat} {led:Bool} {h:Int}
theorem fW(l:gF ps){i j:Nat}(h:ps[i]? = some j):(tmd m ps ds mv led).slot j=.live i:=by unfold Hn;show(if ((ps.toArray)[below ps.toArray j]?==some j)=true then Slot.live (below ps.toArray j) else _)=_;rw[uK l h,Ck,h,if_pos (by simp)]
theorem zR{ps:List Nat}{j:Nat}(h:j∉ps):¬ ((ps.toArray[below ps.toArray j]?==some j)=true):=
 λq=>h (mG (by rw[Ck] at q;exact of_decide_eq_true (by simpa using q)))
theorem zS{j:Nat}(h:j∉ps)(h':j∉ds):(tmd m ps ds mv led).slot j=.empty:=by unfold Hn;show(if ((ps.toArray)[below ps.toArray j]?==some j)=true then Slot.live (below ps.toArray j) else if has ds.toArray j=true then Slot.dummy else Slot.empty)=_;rw[if_neg (zR h),if_neg (show ¬ has ds.toArray j=true from zR h')]
theorem aIM{j:Nat}(hd:gF ds)(h':j∈ds):has ds.toArray j=true:=by obtain⟨i,hi⟩:=BQ.mp h';unfold has;rw[uK hd hi,Ck,hi];simp
theorem zT{j:Nat}(h:j∉ps)(hd:gF ds)(h':j∈ds):(tmd m ps ds mv led).slot j=.dummy:=by unfold Hn;show(if ((ps.toArray)[below ps.toArray j]?==some j)=true then Slot.live (below ps.toArray j) else if has ds.toArray j=true then Slot.dummy else Slot.empty)=_;rw[if_neg (zR h),if_pos (aIM hd h')]
noncomputable def stp(m:Nat)(p:Probe):Probe:=(tm m [] 0 true).advance p
noncomputable def pth(m:Nat)(h:Int):Nat->Probe
 | 0=>(tm m [] 0 true).probeStart h|n+1=>stp m (pth m h n)
noncomputable def pd(m:Nat)(h:Int)(n:Nat)(d:Option Nat):Probe:={ pth m h n with dummy:=d }
theorem zU{n:Nat}{d:Option Nat}:(tmd m ps ds mv led).advance (pd m h n d)=pd m h (n+1) d:=by
 show Eb _ _={ stp m (pth m h n) with dummy:=d }
 unfold stp Eb;by_cases c:(pth m h n).more>0;rw[if_pos (show(pd m h n d).more>0 from c),if_pos c];rfl;rw[if_neg (show ¬ (pd m h n d).more>0 from c),if_neg c];rfl
theorem xG(hr:gF ps)(hd:gF ds)(g:Nat->Int){N:Nat}(hN:(pth m h N).j∉ps++ds)(hl:∀n,n<N->(pth m h n).j∈ps++ds):∀L n d,n<=N->N-n<L->∃d',(ds=[]->d'=d) /\
 (((∀B,(∀i,i<ps.length->B i=g i)->probe.go (tmd m ps ds mv led) B h L (pd m h n d)=some (.empty (pth m h N).j d'))/\∀G i,n<=G->G<N->ps[i]? = some (pth m h G).j->g i≠h) \/
 ∃G i,n<=G/\G<N/\ps[i]? = some (pth m h G).j/\g i=h/\(∀B,(∀i,i<ps.length->B i=g i)->probe.go (tmd m ps ds mv led) B h L (pd m h n d)=some (.candidate (pth m h G).j i (pd m h (G+1) d')))/\∀l i,n<=l->l<G->ps[i]? = some (pth m h l).j->g i≠h)
 | 0,n,_,_,h2=>absurd h2 (Db _)|f+1,n,d,h1,h2=>by
  rcases BU n N with q|q;have on:(∃i,ps[i]? = some (pth m h n).j/\g i=h)\/∃d2,(ds=[]->d2=d)/\(∀U,ps[U]? = some (pth m h n).j->g U≠h)/\∀B,(∀i,i<ps.length->B i=g i)->probe.go (tmd m ps ds mv led) B h (f+1) (pd m h n d)=probe.go (tmd m ps ds mv led) B h f (pd m h (n+1) d2):=by by_cases hp:(pth m h n).j∈ps;obtain⟨i,hi⟩:=BQ.mp hp;by_cases c:g i=h;exact .inl ⟨i,hi,c⟩;refine .inr ⟨d,λ_=>rfl,λU I=>?_,λB M=>?_⟩;have:=fW (m:=m) (ds:=ds) (mv:=mv) (led:=led) hr I;rw[fW hr hi] at this;cases this;exact c;rw[probe.go,show(pd m h n d).j=(pth m h n).j from rfl,fW hr hi];dsimp only;rw[if_neg (by rw[M i (Ar.mp hi).1];simpa using c),zU];have W:=(AJ.mp (hl n q)).resolve_left hp;refine .inr ⟨some (pth m h n).j,λz=>(by rw[z] at W;cases W),λU I=>absurd (mG I) hp,λB M=>?_⟩;rw[probe.go,show(pd m h n d).j=(pth m h n).j from rfl,zT hp hd W];dsimp only;rw[<-zU (mv:=mv) (led:=led) (ps:=ps) (ds:=ds)];rfl
  rcases on with⟨i,hi,c⟩|⟨d2,e2,q0,one⟩
  refine⟨d,λ_=>rfl,.inr ⟨n,i,Ah _,q,hi,c,λB M=>?_,λl i a b=>absurd a (by omega)⟩⟩;rw[probe.go,show(pd m h n d).j=(pth m h n).j from rfl,fW hr hi];dsimp only;rw[if_pos (by rw[M i (Ar.mp hi).1,c];simp),zU];have step:∀{G l:Nat} {U:Nat},(∀l i,n+1<=l->l<G->ps[i]? = some (pth m h l).j->g i≠h)->n<=l->l<G->ps[U]? = some (pth m h l).j->g U≠h:=λH a b I=>by rcases BU n _ with z|z;exact H _ _ z b I;have:_=n:=Jj z a;rw[this] at I;exact q0 _ I
  obtain⟨d',e',⟨e,H⟩|⟨G,U,a1,a2,a3,a4,a5,a6⟩⟩:=xG hr hd g hN hl f (n+1) d2 (by omega) (by omega);exact⟨d',λz=>(e' z).trans (e2 z),.inl ⟨λB M=>(one B M).trans (e B M),λG U a b c=>step H a b c⟩⟩;exact⟨d',λz=>(e' z).trans (e2 z),.inr ⟨G,U,by omega,a2,a3,a4,λB M=>(one B M).trans (a5 B M),λl q1 a b c=>step a6 a b c⟩⟩;obtain rfl:n=N:=by omega
  refine⟨d,λ_=>rfl,.inl ⟨λB M=>?_,λG i a b=>absurd a (by omega)⟩⟩;rw[probe.go,show(pd m h n d).j=(pth m h n).j from rfl,zS (λz=>hN (AS _ z)) (λz=>hN (AB _ z))];rfl
noncomputable def lps(m:Nat)(h:Int):Nat->Nat×Nat
 | 0=>(bits h % (m+1),bits h)
 | c+1=>leap m (lps m h c).1 (lps m h c).2
noncomputable def rn(m:Nat)(x:Nat×Nat)(k:Nat):Probe:={ j:=x.1+k,more:=runEnd m x.1-x.1-k,i:=x.1,perturb:=x.2,dummy:=none }
noncomputable def off(m:Nat)(h:Int):Nat->Nat
 | 0=>0|c+1=>off m h c+(runEnd m (lps m h c).1-(lps m h c).1)+1
theorem aDI(i:Nat):i<=runEnd m i/\runEnd m i<=i+9:=by unfold runEnd;split <;> omega
theorem nU:∀c,(∀k,k<=runEnd m (lps m h c).1-(lps m h c).1->pth m h (off m h c+k)=rn m (lps m h c) k):=by
 have more:∀{c},pth m h (off m h c)=rn m (lps m h c) 0->∀k,k<=runEnd m (lps m h c).1-(lps m h c).1->pth m h (off m h c+k)=rn m (lps m h c) k:=by
  intro c e k
  induction k with
  | zero=>intro _;exact e|succ k l=>intro q;show stp m (pth m h (off m h c+k))=_;rw[l (by omega)];unfold stp Eb;rw[if_pos (show(rn m (lps m h c) k).more>0 by show runEnd m (lps m h c).1-(lps m h c).1-k>0;omega)];rfl
 intro c
 induction c with
 | zero=>exact more rfl|succ c l=>refine more ?_;show stp m (pth m h (off m h c+(runEnd m (lps m h c).1-(lps m h c).1)))=_;rw[l _ (Ah _)];unfold stp Eb;rw[if_neg (show ¬ (rn m (lps m h c) _).more>0 by show ¬ (runEnd m (lps m h c).1-(lps m h c).1-(runEnd m (lps m h c).1-(lps m h c).1)>0);omega)];rfl
theorem zV:∀c,off m h c<=10*c
 | 0=>Ah _|c+1=>by have:=zV c;have:=aDI (m:=m) (lps m h c).1;show off m h c+(runEnd m (lps m h c).1-(lps m h c).1)+1<=_;omega
theorem aAO:∀c,(lps m h c).2=bits h / 32 ^ c
 | 0=>by rw[Nat.pow_zero,Nat.div_one];rfl|c+1=>by show(lps m h c).2 / 32=_;rw[aAO c,Nat.div_div_eq_div_mul,K5]
theorem aGb:∀c,(lps m h c).1<m+1
 | 0=>Gu _ (Gv _)|c+1=>Gu _ (Gv _)
theorem aIN(n:Nat):(pth m h n).j<m+1:=by
 have run:∀i,i<m+1->i+(runEnd m i-i)<m+1:=λi hi=>by unfold runEnd;split <;> omega
 have:∀n,(pth m h n).j+(pth m h n).more<m+1:=by
  intro n
  induction n with
  | zero=>exact run _ (Gu _ (Gv _))|succ n l=>show(stp m (pth m h n)).j+(stp m (pth m h n)).more<m+1;unfold stp Eb;split;rename_i q;show(pth m h n).j+1+((pth m h n).more-1)<m+1;omega;exact run _ (Gu _ (Gv _))
 exact HK (EE _ _) (this n)
noncomputable def itr(m:Nat):Nat->Nat->Nat
 | 0,i=>i|d+1,i=>(itr m d i*5+1) % (m+1)
theorem aAP:∀d,lps m h (13+d)=(itr m d (lps m h 13).1,0):=by
 have z:(lps m h 13).2=0:=by
  rw[aAO];refine Nat.div_eq_of_lt ?_;have:bits h<2 ^ 64:=by unfold bits;have:=BV h (b:=2 ^ 64) (by decide);have:=CA h (b:=2 ^ 64) (by decide);omega
  exact AH this (by decide)
 intro d
 induction d with
 | zero=>exact KO rfl z|succ d l=>show leap m (lps m h (13+d)).1 (lps m h (13+d)).2=_;rw[l];unfold leap;simp[itr]
abbrev M2(m:Nat):Prop:=∃k,k<10/\m+1=2 ^ (k+3)
noncomputable def orb(m:Nat):Nat->Nat->Nat->Nat
 | 0,_,acc=>acc|d+1,i,acc=>orb m d ((i*5+1) % (m+1)) (acc ||| 2 ^ i)
theorem orb_bit(m:Nat){j:Nat}:∀(d e i acc:Nat),i=itr m e 0->(orb m d i acc).testBit j=true->acc.testBit j=true\/∃d',d'<e+d/\itr m d' 0=j
 | 0,_,_,_,_,h=>.inl h|d+1,e,i,acc,hi,h=>by
  rcases orb_bit m d (e+1) _ _ (by rw[hi];rfl) h with h|⟨d',a,b⟩
  rw[Nat.testBit_or,BG] at h;rcases h with h|h;exact .inl h;rw[Nat.testBit_two_pow,Aq] at h;exact .inr ⟨e,by omega,by rw[<-hi];exact h⟩;exact .inr ⟨d',by omega,b⟩
theorem kO(m:Nat)(i:Nat):∀d e,itr m (d+e) i=itr m d (itr m e i)
 | 0,e=>by rw[Ea];rfl|d+1,e=>by rw[show d+1+e=(d+e)+1 by omega];show(itr m (d+e) i*5+1) % (m+1)=(itr m d (itr m e i)*5+1) % (m+1);rw[kO m i d e]
noncomputable def aLl(m:Nat):Bool:=orb m (m+1) 0 0==2 ^ (m+1)-1
noncomputable def itN(m:Nat):Nat->Nat->Nat
 | 0,i=>i|d+1,i=>itN m d ((i*5+1) % (m+1))
theorem aAQ(m:Nat):∀d i,itN m d i=itr m d i
 | 0,_=>rfl|d+1,i=>by show itN m d ((i*5+1) % (m+1))=_;rw[aAQ m d,show((i*5+1) % (m+1))=itr m 1 i from rfl,<-kO]
theorem aGc:∀k∈AF 10,aLl (2 ^ (k+3)-1)=true/\itN (2 ^ (k+3)-1) (2 ^ (k+3)) 0=0:=by decide +kernel
theorem aHm(W:M2 m){j:Nat}(G:j<m+1):∃c,c<m+14/\(lps m h c).1=j:=by
 obtain⟨k,U,e⟩:=W;obtain⟨M,I⟩:=aGc k (BA.mpr U);rw[show 2 ^ (k+3)-1=m by omega] at M I;rw[<-e,aAQ] at I;have fr:∀j,j<m+1->∃d,d<m+1/\itr m d 0=j:=λj G=>by
  have b:(orb m (m+1) 0 0).testBit j=true:=by rw[eq_of_beq (show(orb m (m+1) 0 0==2 ^ (m+1)-1)=true from M),Nat.testBit_two_pow_sub_one];exact A8 G
  rcases orb_bit m (m+1) 0 0 0 rfl b with z|⟨d,a,b⟩
  rw[Nat.zero_testBit] at z;cases z;exact⟨d,by omega,b⟩
 obtain⟨l,a1,b1⟩:=fr _ (aGb (m:=m) (h:=h) 13);obtain⟨B,a2,L⟩:=fr j G;rcases BU B l with q|q;refine⟨13+(B+(m+1)-l),by omega,?_⟩;rw[aAP];show itr m _ _=j;rw[<-b1,<-kO,show B+(m+1)-l+l=B+(m+1) by omega,kO,I];exact L;refine⟨13+(B-l),by omega,?_⟩;rw[aAP];show itr m _ _=j;rw[<-b1,<-kO,show B-l+l=B by omega];exact L
theorem sF(B:ps.length<=m):∃j,j<m+1/\j∉ps:=by refine CZ λq=>?_;have:=IS.length_le_of_subset (l₁:=AF (m+1)) (l₂:=ps) λj l=>CZ λz=>q ⟨j,BA.mp l,z⟩;rw[Cd] at this;omega
theorem aIO{P:Nat->Prop}:∀n,P n->∃k,k<=n/\P k/\∀i,i<k->¬ P i:=by
 intro n
 induction n using Nat.strongRecOn with
 | _ n l=>intro h;by_cases q:∃i,i<n/\P i;obtain⟨i,a,b⟩:=q;obtain⟨k,c,d⟩:=l i a b;exact⟨k,by omega,d⟩;exact⟨n,Ah _,h,λi hi z=>q ⟨i,hi,z⟩⟩
theorem zW(I:M2 m)(G:ps.length<=m)(h:Int):∃N,N<10*(m+15)/\(pth m h N).j∉ps/\∀n,n<N->(pth m h n).j∈ps:=by
 obtain⟨j,a,b⟩:=sF G;obtain⟨c,d,e⟩:=aHm (h:=h) I a;have z:(pth m h (off m h c)).j=j:=by have:=nU (m:=m) (h:=h) c 0 (AL _);rw[Ir] at this;rw[this];exact e
 obtain⟨N,a1,l,B⟩:=aIO (P:=λn=>(pth m h n).j∉ps) (off m h c) (by rw[z];exact b);have:=zV (m:=m) (h:=h) c;exact⟨N,by omega,l,λn L=>CZ λq=>B n L q⟩
end
noncomputable def Rod(m:Nat)(P:Nat->Prop)(h:Int)(j:Nat):Prop:=∃n,n<10*(m+15)/\(pth m h n).j=j/\∀n',n'<n->P (pth m h n').j
theorem Rod.mono{m:Nat}{P l:Nat->Prop}{h:Int}{j:Nat}(B:∀x,P x->l x):Rod m P h j->Rod m l h j:=λ⟨n,a,b,c⟩=>⟨n,a,b,λG q=>B _ (c G q)⟩
theorem aAR{m:Nat}{h:Int}(ow:Array (Option Nat)):∀G c,(∃I,c<=I/\I<c+G/\ow.getD (lps m h I).1 (some 0)=none) ->
 ∃n j,layClean.free m ow G (lps m h c).1 (lps m h c).2=some j/\n<10*(c+G)/\(pth m h n).j=j/\ow.getD j (some 0)=none/\∀l,off m h c<=l->l<n->ow.getD (pth m h l).j (some 0)≠none
 | 0,c,⟨I,a,b,_⟩=>absurd b (by omega)|f+1,c,⟨I,a,b,e⟩=>by
  rw[layClean.free];have hr:=aDI (m:=m) (lps m h c).1;have ho:=zV (m:=m) (h:=h) c;cases q:(AF (runEnd m (lps m h c).1+1-(lps m h c).1)).find? λk=>(ow.getD ((lps m h c).1+k) (some 0)).isNone with
  | some k=>
   obtain⟨k1,k2,L⟩:=List.find?_range_eq_some.mp q;have q1:=BA.mp k2;have at_:∀B,B<=k->(pth m h (off m h c+B)).j=(lps m h c).1+B:=λB U=>by rw[nU c B (by omega)];rfl
   refine⟨off m h c+k,(lps m h c).1+k,rfl,by omega,at_ k (Ah _),by simpa using k1,λl W M=>?_⟩;have:=at_ (l-off m h c) (by omega);rw[show off m h c+(l-off m h c)=l by omega] at this;rw[this];have:=L (l-off m h c) (by omega);intro z;rw[z] at this;simp at this
  | none=>
   have L:=List.find?_range_eq_none.mp q;have at_:∀B,B<=runEnd m (lps m h c).1-(lps m h c).1->ow.getD (pth m h (off m h c+B)).j (some 0)≠none:=λB U=>by rw[nU c B U];intro z;have:=L B (by omega);rw[show ow.getD ((lps m h c).1+B) (some 0)=none from z] at this;simp at this
   have q0:c≠I:=λz=>by subst z;have:=at_ 0 (AL _);rw[nU c 0 (AL _)] at this;exact this e
   obtain⟨n,j,r1,r2,r3,r4,r5⟩:=aAR ow f (c+1) ⟨I,by omega,by omega,e⟩;refine⟨n,j,r1,by omega,r3,r4,λl W M=>?_⟩;rcases BU l (off m h (c+1)) with z|z;have z':l<off m h c+(runEnd m (lps m h c).1-(lps m h c).1)+1:=z;have:=at_ (l-off m h c) (by omega);rw[show off m h c+(l-off m h c)=l by omega] at this;exact this;exact r5 l z M
structure Ow (m:Nat) (hs:List Int) (ow:Array (Option Nat)) (ps:List Nat):Prop where
 sz:ow.size=m+1
 len:ps.length=hs.length
 at_:∀j x:Nat,ow[j]? = some (some x)↔ps[x]? = some j
 rod:∀(x:Nat) h j,hs[x]? = some h->ps[x]? = some j->Rod m (·∈ps) h j
theorem Ow.step{m:Nat}(hm:M2 m){hs:List Int}{ow:Array (Option Nat)}{ps:List Nat}(o:Ow m hs ow ps)(hl:hs.length<=m)(h:Int):∃j,layClean.free m ow (turns m) (bits h % (m+1)) (bits h)=some j/\Ow m (hs++[h]) (ow.setIfInBounds j (some hs.length)) (ps++[j]):=by
 have l:∀j,ow.getD j (some 0)≠none->j<m+1->j∈ps:=λj B q0=>by
  cases q:ow[j]? with
  | none=>rw[Fy,o.sz] at q;omega|some y=>
   cases y with
   | none=>exact absurd (by simp[CK,q]) B|some x=>exact mG ((o.at_ j x).mp q)
 obtain⟨j0,a,b⟩:=sF (m:=m) (ps:=ps) (by rw[o.len];exact hl);obtain⟨c,d,e⟩:=aHm (h:=h) hm a;obtain⟨n,j,r1,r2,r3,I,r5⟩:=aAR (m:=m) (h:=h) ow (m+15) 0 ⟨c,AL _,by omega,by
  rw[e];exact CZ λq=>b (l j0 q a)⟩
 have B:ow[j]? = some none:=by
  rw[CK] at I;cases q:ow[j]? with
  | none=>rw[q] at I;cases I|some y=>rw[q] at I;exact congrArg some I
 have G:j<m+1:=by rw[<-o.sz];exact(Ce.mp B).1
 refine⟨j,r1,by rw[FL];exact o.sz,by rw[lA,lA,o.len];rfl,λU x=>?_,λx h' U L M=>?_⟩;rw[Array.getElem?_setIfInBounds];by_cases q:j=U;subst q;rw[if_pos rfl,if_pos (by rw[o.sz];exact G)];constructor;intro z;cases z;rw[<-o.len];simp;intro z;rcases BU x ps.length with k|k;rw[A5 k] at z;rw[(o.at_ j x).mpr z] at B;cases B;rw[A1 k] at z;have:x-ps.length=0:=by have:=(Ar.mp z).1;simp at this;omega
 rw[show x=hs.length by have:=o.len;omega];rw[if_neg q,o.at_ U x];constructor;intro z;rw[A5 (Ar.mp z).1];exact z;intro z;rcases BU x ps.length with k|k;rw[A5 k] at z;exact z;rw[A1 k] at z;have:=mG z;exact absurd (Ai.mp this).symm q;rcases BU x hs.length with k|k;rw[A5 k] at L;rw[A5 (by rw[o.len];exact k)] at M;exact(o.rod x h' U L M).mono λy hy=>AS _ hy;rw[A1 k] at L;rw[A1 (by rw[o.len];exact k)] at M;obtain rfl:=(Ai.mp (mG L))
 obtain rfl:=(Ai.mp (mG M))
 exact⟨n,by omega,r3,λW hn=>AS _ (l _ (r5 W (AL _) hn) (aIN W))⟩
set_option maxRecDepth 100000
theorem Ow.nil{m:Nat}:Ow m [] (EY (m+1) none) [] where
 sz:=by simp
 len:=rfl
 at_:=λj x=>by rw[Array.getElem?_replicate];constructor;intro z;split at z <;> cases z;intro z;simp at z
 rod:=λx h j l=>by simp at l
noncomputable def aIP(m:Nat)(acc:Option (Array (Option Nat)×Nat))(h:Int):Option (Array (Option Nat)×Nat):=do
 let (owner,k)<-acc
 let j<-layClean.free m owner (turns m) (bits h % (m+1)) (bits h)
 pure (owner.setIfInBounds j (some k),k+1)
theorem xH{m:Nat}(B:M2 m):∀(rest hs:List Int) (ow:Array (Option Nat)) (ps:List Nat),Ow m hs ow ps->hs.length+rest.length<=m->∃l q,rest.foldl (aIP m) (some (ow,hs.length))=some (l,(hs++rest).length)/\Ow m (hs++rest) l q
 | [],hs,ow,ps,o,_=>⟨ow,ps,by rw[AV];rfl,by rw[AV];exact o⟩
 | h::rest,hs,ow,ps,o,hl=>by
  rw[lC] at hl;obtain⟨j,e,o'⟩:=o.step B (by omega) h;have:=xH B rest (hs++[h]) _ _ o' (by rw[lA];show hs.length+1+rest.length<=m;omega);rw[AD,lA] at this;have G:aIP m (some (ow,hs.length)) h=some (ow.setIfInBounds j (some hs.length),hs.length+1):=by show(do let j<-layClean.free m ow (turns m) (bits h % (m+1)) (bits h);pure (ow.setIfInBounds j (some hs.length),hs.length+1))=_;rw[e];rfl
  rw[BS,G];exact this
theorem aGd{m:Nat}(hm:M2 m)(hs:List Int)(hl:hs.length<=m)(f mv:Nat)(led pl:Bool):∃l:List (Nat×Nat),
 laid m f mv led pl hs.toArray=some ({ mask:=m,place:=(l.map (·.1)).toArray,dummies:=#[],finger:=f,led:=led,moves:=mv,plain:=pl },(l.map (·.2)).toArray) /\
 gF (l.map (·.1))/\(l.map (·.2)).Perm (AF hs.length)/\∀p∈l,∀h,hs[p.2]? = some h->Rod m (·∈l.map (·.1)) h p.1:=by
 obtain⟨ow,ps,e,o⟩:=xH hm hs [] _ _ Ow.nil (by simpa using hl);rw[D8] at e o;refine⟨(AF (m+1)).filterMap λj=>(ow.getD j none).map (j,·),?_,?_,?_,?_⟩
 . unfold laid;have:layClean m hs.toArray=some ow:=by unfold layClean;rw[<-Array.foldl_toList];show(hs.foldl (aIP m) (some (EY (m+1) none,0))).map (·.1)=some ow;rw[show(some (EY (m+1) none,0):Option (Array (Option Nat)×Nat))=some (EY (m+1) none,([]:List Int).length) from rfl,e];rfl
   rw[this];rfl
 all_goals
  have mem:∀j x,(ow.getD j none).map (j,·)=some x->x.1=j/\ps[x.2]? = some j:=λj x B=>by
   rw[CK] at B;cases q:ow[j]? with
   | none=>rw[q] at B;cases B|some y=>
    rw[q] at B;cases y with
    | none=>cases B|some z=>cases B;exact⟨rfl,(o.at_ j z).mp q⟩
 . rw[gF,Dj];exact FV _ (λa a' h b L b' I=>by rw[(mem _ _ L).1,(mem _ _ I).1];exact h) Gw
 all_goals
  have G:∀x j,ps[x]? = some j->(j,x)∈(AF (m+1)).filterMap λj=>(ow.getD j none).map (j,·):=λx j B=>by have q:=(o.at_ j x).mpr B;refine Bs.mpr ⟨j,BA.mpr (by rw[<-o.sz];exact(Ce.mp q).1),?_⟩;rw[CK,q];rfl
 refine(List.perm_ext_iff_of_nodup ?_ IS).mpr λx=>?_;rw[Lu,Dj];exact FV _ (λa a' h b L b' I z=>by
  have W:=(mem _ _ L).2;have h2:=(mem _ _ I).2;rw[z,h2] at W;cases W;exact AY _ h) Gw
 rw[BA,<-o.len];constructor;intro q;obtain⟨p,U,rfl⟩:=Ax.mp q;obtain⟨j,_,M⟩:=Bs.mp U;exact(Ar.mp (mem _ _ M).2).1;intro q;exact Ax.mpr ⟨(ps[x],x),G _ _ (Ae q),rfl⟩;intro p U h hh;obtain⟨j,_,M⟩:=Bs.mp U;obtain⟨e1,e2⟩:=mem _ _ M;rw[e1];refine(o.rod p.2 h j hh e2).mono λy hy=>?_;obtain⟨x,B⟩:=BQ.mp hy;exact Ax.mpr ⟨(y,x),G _ _ B,rfl⟩
set_option maxRecDepth 100000
structure SK (prog:A0) (w:AN) (K:Type) [DecidableEq K] extends KU prog w K where
 noCl:∀{A:AQ} {E:Value->Ac->Prop} {s:Ac} {k:K} {a:Addr} {Q:Bool->Ac->Prop},is s.heap k a->Q false s->Al (A6 prog w) A (Cg 8 (.ref a)) Q E s
 byV:∀{A:AQ} {E:Value->Ac->Prop} {s:Ac} {k:K} {a:Addr} {Q:Bool->Ac->Prop},is s.heap k a->Q true s->Al (A6 prog w) A (Et 8 (.ref a)) Q E s
 keepT:∀{h h':Heap} {k:K} {a:Addr},is h k a->(∀b o,h.get? b=some o->h'.get? b=some o)->is h' k a
noncomputable def dO(w:AN):Bool:=w.params.followText "set-order"
section
variable {prog:A0} {w:AN} {K:Type} [DecidableEq K] (knd:SK prog w K)
noncomputable def sen(xs:List (K×Addr)):Array (Int×Value):=(xs.map λx=>(knd.hash x.1,A9 x.2)).toArray
theorem bW(xs:List (K×Addr)):(sen knd xs).size=xs.length:=by unfold sen;rw[Af,lM]
theorem pS(xs:List (K×Addr))(i:Nat):(sen knd xs)[i]? = (xs[i]?).map λx=>(knd.hash x.1,A9 x.2):=by unfold sen;rw[Ck,A2]
structure Tb (xs:List (K×Addr)) (m:Nat) (ps:List Nat):Prop where
 m2:M2 m
 rise:gF ps
 len:ps.length=xs.length
 nd:(xs.map (·.1)).Nodup
 few:xs.length*5<m*3
 rod:∀(i:Nat) x j,xs[i]? = some x->ps[i]? = some j->Rod m (·∈ps) (knd.hash x.1) j
structure TD (xs:List (K×Addr)) (m:Nat) (ps ds:List Nat):Prop where
 m2:M2 m
 rise:gF ps
 rd:gF ds
 dj:∀j∈ps,j∉ds
 len:ps.length=xs.length
 nd:(xs.map (·.1)).Nodup
 few:(xs.length+ds.length)*5<m*3
 rod:∀(i:Nat) x j,xs[i]? = some x->ps[i]? = some j->Rod m (·∈ps++ds) (knd.hash x.1) j
theorem M2.le{m:Nat}(h:M2 m):7<=m/\m<=4095:=by obtain⟨k,B,e⟩:=h;have l:2 ^ 3<=2 ^ (k+3):=GW (by decide) (by omega);have q:2 ^ (k+3)<=2 ^ 12:=GW (by decide) (by omega);omega
variable {knd}
theorem Tb.lt{xs:List (K×Addr)}{m:Nat}{ps:List Nat}(T:Tb knd xs m ps):ps.length<m:=by have l:=T.len;have q:=T.few;omega
theorem Tb.toD{xs:List (K×Addr)}{m:Nat}{ps:List Nat}(T:Tb knd xs m ps):TD knd xs m ps []:=⟨T.m2,T.rise,C6,λ_ _ z=>(by cases z),T.len,T.nd,T.few,λi x j a b=>(T.rod i x j a b).mono λ_ z=>AS _ z⟩
theorem TD.lt{xs:List (K×Addr)}{m:Nat}{ps ds:List Nat}(T:TD knd xs m ps ds):ps.length+ds.length<m:=by have l:=T.len;have q:=T.few;omega
variable (knd)
noncomputable def jS(xs:List (K×Addr))(ep m:Nat)(ps ds:List Nat)(mv:Nat):Obj:={ cls:=.type "set",dict:=none,data:=.set (sen knd xs) ep (tmd m ps ds mv (!dO w)),slots:=#[] }
abbrev bK(xs:List (K×Addr))(ep m:Nat)(ps:List Nat)(mv:Nat):Obj:=jS knd xs ep m ps [] mv
variable {knd}
theorem TD.fits{xs:List (K×Addr)}{m:Nat}{ps ds:List Nat}(T:TD knd xs m ps ds){mv:Nat}{led:Bool}:(tmd m ps ds mv led).fits (sen knd xs).size=true:=by have l:=T.len;have q:=T.lt;unfold Kg Ho tmd;rw[bW];simp;omega
theorem Tb.fits{xs:List (K×Addr)}{m:Nat}{ps:List Nat}(T:Tb knd xs m ps){mv:Nat}{led:Bool}:(tm m ps mv led).fits (sen knd xs).size=true:=T.toD.fits
end
section
variable {prog:A0} {w:AN} {K:Type} [DecidableEq K] {knd:SK prog w K} {A:AQ} {E:Value->Ac->Prop} {s:Ac} {S a:Addr} {k:K} {xs:List (K×Addr)} {m mv ep:Nat} {ps ds:List Nat}
theorem aIQ{Q:Bool->Ac->Prop}(I:knd.is s.heap k a):∀(ys:List (K×Addr)),(∀y∈ys,knd.is s.heap y.1 y.2)->Q false s->Al (A6 prog w) A (Iu (.ref a) (ys.map λy=>A9 y.2)) Q E s:=by
 intro ys G h;unfold Iu;refine Aa (BH _ (λrest r q=>r.1=none/\q=s/\∃zs:List (K×Addr),rest=zs.map (λy=>A9 y.2)/\∀y∈zs,knd.is s.heap y.1 y.2) _ ?_ ?_ _ _ ⟨rfl,rfl,ys,rfl,G⟩);rintro v rest r q ⟨B,rfl,zs,L,l⟩;cases zs with
 | nil=>cases L|cons z zs=>cases L;dsimp only;have M:∀y∈zs,knd.is q.heap y.1 y.2:=λy G=>l y (Ag _ G);by_cases c:((a==z.2)||(DT (.ref a)&&DT (.ref z.2)))=true;rw[if_pos c];exact Ad ⟨rfl,rfl,zs,rfl,M⟩;rw[if_neg c];refine Aa (knd.quiet I ?_);rw[if_neg (by decide)];refine Aa (knd.quiet (l z Ak) ?_);rw[if_neg (by decide)];refine Aa (knd.noCl I ?_);rw[if_neg (by decide)];refine Aa (knd.noCl (l z Ak) ?_);rw[if_neg (by decide)];exact Ad ⟨rfl,rfl,zs,rfl,M⟩
 rintro ⟨U,W⟩ q ⟨B,rfl,_⟩;simp only at B;subst B;exact Ad h
theorem aNx(T:TD knd xs m ps ds){led:Bool}:(tmd m ps ds mv led).gaveWay=false:=by
 have:m % 2=1:=by obtain⟨k,_,e⟩:=T.m2;rw[show k+3=k+2+1 by omega,K5] at e;omega
 simp[LF,tmd,this]
theorem prb{led:Bool}{h:Int}{p:Probe}{met:Met}(e:∀l,(∀i,i<ps.length->l i=((xs[i]?).map λx=>knd.hash x.1).getD 0)->probe.go (tmd m ps ds mv led) l h (10*turns m) p=some met)(l:Nat->Int)(q:∀i,l i=(((sen knd xs)[i]?).map (·.1)).getD 0):(tmd m ps ds mv led).probe l h p=some met:=
 e l λi _=>by rw[q,pS,Option.map_map];rfl
theorem aBY(k:K):((sen knd xs).filter λx=>x.1==knd.hash k).toList.map (·.2)=(xs.filter λx=>knd.hash x.1==knd.hash k).map λy=>A9 y.2:=by unfold sen;rw[Array.toList_filter,List.filter_map,A7];rfl
theorem sG(hu:knd.room A)(T:TD knd xs m ps ds)(ho:s.heap.get? S=some (jS knd xs ep m ps ds mv))(hk:∀x∈xs,knd.is s.heap x.1 x.2)(ha:knd.is s.heap k a){N:Nat}(hN:(pth m (knd.hash k) N).j∉ps++ds)(hl:∀n,n<N->(pth m (knd.hash k) n).j∈ps++ds)(hb:N<10*(m+15)){Q:SetFound->Ac->Prop}
 {ad:Bool} (W:ad=true->ds=[]) (h1:k∈xs.map (·.1)->∀r:Option Nat,(ad=true->r=none)->(ad=false->∃i a,r=some i/\xs[i]? = some (k,a))->Q (.there r) s) (h2:k∉xs.map (·.1)->∀j b,(ds=[]->j=(pth m (knd.hash k) N).j/\b=false)->Q (.free j b) s):∀B n d l,(ds=[]->d=none)->n<=N->N-n<B->(∀M (i:Nat) x,M<n->ps[i]? = some (pth m (knd.hash k) M).j->xs[i]? = some x->x.1≠k)->l.getD (pth m (knd.hash k) 0)=pd m (knd.hash k) n d ->
 Al (A6 prog w) A (Hq S (.ref a) (knd.hash k) ad B l) Q E s
 | 0,n,_,_,_,_,hf,_,_=>absurd hf (Db _)|f+1,n,d,l,hd0,hn,hf,hno,hst=>by
  rw[Hq];refine Aa (Ch ho rfl T.fits ?_);dsimp only;rw[if_neg (by rw[aNx T];decide)];rw[show(tmd m ps ds mv (!dO w)).probeStart (knd.hash k)=pth m (knd.hash k) 0 from rfl,hst];have q8:=T.len;obtain⟨d',ed,⟨e,H⟩|⟨M,i,a1,a2,a3,a4,e,H⟩⟩:=xG (mv:=mv) (led:=!dO w) T.rise T.rd (λi=>((xs[i]?).map λx=>knd.hash x.1).getD 0) hN hl (10*turns m) n d hn (by unfold turns;omega)
  all_goals
   rw[prb e]
   rotate_left
   exact λ_=>rfl
  dsimp only;have key:k∉xs.map (·.1):=λhm=>?key;cases d' with
  | none=>exact Ad (h2 key _ _ λ_=>⟨rfl,rfl⟩)|some y=>
   have nz:ds≠[]:=λz=>by have:=(ed z).trans (hd0 z);cases this
   dsimp only;rw[if_neg (by
    cases ad with
    | true=>exact absurd (W rfl) nz|false=>simp)]
   exact Ad (h2 key _ _ λz=>absurd z nz)
  obtain⟨x,I,rfl⟩:=Ax.mp hm;obtain⟨i,hi⟩:=BQ.mp I;have q5:=(Ar.mp hi).1;obtain⟨U,b1,b2,b3⟩:=T.rod i x _ hi (Ae (by omega));have b4:ps[i]? = some (pth m (knd.hash x.1) U).j:=by rw[b2];exact Ae _
  have q6:U<N:=by rcases FD U N with z|z|z;exact z;exact absurd (AS _ (mG b4)) (by rw[z];exact hN);exact absurd (b3 N z) hN
  rcases BU U n with z|z;exact hno U i x z b4 hi rfl;exact H U i z q6 b4 (by rw[hi];rfl)
  . have q5:=(Ar.mp a3).1;obtain⟨x,I⟩:∃x,xs[i]? = some x:=⟨_,Ae (by omega)⟩
    have L:=mG I;have q4:x.1≠k->Al (A6 prog w) A (Hq S (.ref a) (knd.hash k) ad f (some (pd m (knd.hash k) (M+1) d'))) Q E s:=λc=>
     sG hu T ho hk ha hN hl hb W h1 h2 f (M+1) d' _ (λz=>(ed z).trans (hd0 z)) (by omega) (by omega) (λq q0 q7 q1 q2 q3=>by
      rcases BU q n with z|z;exact hno q q0 q7 z q2 q3;rcases BU q M with z'|z';intro z3;exact H q q0 z z' q2 (by rw[q3];exact congrArg knd.hash z3);obtain rfl:q=M:=by omega
      have:=(uK T.rise a3).symm.trans (uK T.rise q2);subst this;rw[I] at q3;cases q3;exact c) rfl
    dsimp only;split
    case' isTrue=>refine Aa ?_;rw[aBY];refine aIQ ha _ (λy hy=>hk y (EO.mp hy).1) ?_;rw[if_neg (by decide)]
    all_goals
     rw[pS,I];dsimp only[DA];refine Aa (Br (knd.eqBool hu (hk x L) ha ?_));refine Aa (Ch ho rfl T.fits ?_);dsimp only;by_cases G:(ad&&decide (x.1=k))=true;rw[if_pos G];rw[bA,Aq] at G;exact Ad (h1 (Ax.mpr ⟨x,L,G.2⟩) none (λ_=>rfl) λz=>by rw[G.1] at z;cases z);rw[if_neg G,show(tmd m ps ds mv (!dO w)).sameMemory (tmd m ps ds mv (!dO w)).moves (tmd m ps ds mv (!dO w)).mask=some true by unfold Lm;rw[if_pos (beq_self_eq_true _)]];dsimp only;rw[if_pos rfl,fW T.rise a3];dsimp only;rw[pS,I];dsimp only[DA];refine Aa ?_;unfold isSame;dsimp only;rw[if_pos (beq_self_eq_true _)];refine Ad (Aa (Ad ?_));rw[if_pos rfl];dsimp only;by_cases c:x.1=k;rw[if_pos (by simp[c])];refine Ad (h1 (Ax.mpr ⟨x,L,c⟩) _ (λz=>?_) λ_=>⟨i,x.2,rfl,c▸I⟩);rw[z,c] at G;simp at G;rw[if_neg (by simp[c])];exact q4 c
end
set_option maxRecDepth 100000
noncomputable def eH{α:Type}(l:List α)(p:Nat)(x:α):List α:=l.take p++x::l.drop p
theorem kP{α:Type}(l:List α)(p:Nat)(x:α):Iv l.toArray p x=(eH l p x).toArray:=by unfold Iv eH;apply Array.ext';simp[List.extract_eq_drop_take];rw[CJ (by rw[BI];omega)]
theorem hG{α:Type}{l:List α}{p:Nat}{x:α}:(eH l p x).length=l.length+1:=by unfold eH;rw[lA,lC,Bc,BI];omega
theorem mI{α:Type}{l:List α}{p:Nat}{x:α}:(eH l p x).Perm (x::l):=by unfold eH;refine List.perm_middle.trans ?_;rw[AW]
theorem aAS{α:Type}{l:List α}{p:Nat}{x:α}(B:p<=l.length)(i:Nat):(eH l p x)[i]? = if i<p then l[i]? else if i=p then some x else l[i-1]? := by unfold eH;by_cases h:i<p;rw[if_pos h,A5 (by rw[Bc];omega),Fw,if_pos h];rw[if_neg h,A1 (by rw[Bc];omega),Bc,Nat.min_eq_left B];by_cases q:i=p;rw[if_pos q,q,K2];rfl;rw[if_neg q,show i-p=(i-1-p)+1 by omega,gS,Ep,show p+(i-1-p)=i-1 by omega]
theorem xI{α q:Type}(f:α->q)(l:List α)(p:Nat)(x:α):(eH l p x).map f=eH (l.map f) p (f x):=by unfold eH;rw[Bj,mC,Hr,Ht]
theorem aDJ{ps:List Nat}(B:gF ps){j:Nat}(U:j∉ps):gF (eH ps (below ps.toArray j) j):=by
 obtain⟨W,L,M⟩:=bel B j;have up:∀i v,below ps.toArray j<=i->ps[i]? = some v->j<v:=λi v a b=>by have:=M i v a b;have:j≠v:=λz=>U (z▸mG b);omega
 unfold eH gF;rw[AX];refine⟨B.sublist (HW _ _),Cu.mpr ⟨λv I=>?_,B.sublist (Iw _ _)⟩,λv I u G=>?_⟩;obtain⟨i,hi⟩:=BQ.mp I;rw[Ep] at hi;exact up _ _ (EE _ _) hi;obtain⟨i,hi⟩:=BQ.mp I;rw[Fw] at hi;split at hi;have q:=L i v ‹_› hi;rcases Au.mp G with rfl|G;exact q;obtain⟨i',l⟩:=BQ.mp G;rw[Ep] at l;exact E4 q (up _ _ (EE _ _) l);cases hi
theorem aIR{prog:A0}{w:AN}{K:Type}[DecidableEq K]{knd:SK prog w K}{xs:List (K×Addr)}{m:Nat}{ps:List Nat}(T:Tb knd xs m ps){k:K}{a:Addr}(I:k∉xs.map (·.1)){N:Nat}(G:N<10*(m+15))(W:(pth m (knd.hash k) N).j∉ps)(L:∀n,n<N->(pth m (knd.hash k) n).j∈ps) :
 let p:=below ps.toArray (pth m (knd.hash k) N).j
 (∀(i:Nat) x j,(eH xs p (k,a))[i]? = some x->(eH ps p (pth m (knd.hash k) N).j)[i]? = some j->Rod m (·∈eH ps p (pth m (knd.hash k) N).j) (knd.hash x.1) j)/\((eH xs p (k,a)).map (·.1)).Nodup:=by intro p;have B:p<=ps.length:=(bel T.rise _).1;have sub:∀y,y∈ps->y∈eH ps p (pth m (knd.hash k) N).j:=λy U=>mI.mem_iff.mpr (Ag _ U);refine⟨λi x j q l=>?_,?_⟩;rw[aAS (by rw[<-T.len];exact B)] at q;rw[aAS B] at l;split at q;rw[if_pos ‹_›] at l;exact(T.rod i x j q l).mono sub;rw[if_neg ‹_›] at l;split at q;rw[if_pos ‹_›] at l;cases q;cases l;exact⟨N,G,rfl,λn M=>sub _ (L n M)⟩;rw[if_neg ‹_›] at l;exact(T.rod _ x j q l).mono sub;rw[xI];exact(mI.nodup_iff).mpr (B2.mpr ⟨I,T.nd⟩)
theorem aAT{α:Type}{xs:List α}:∀(l:List Nat),(∀x∈l,x<xs.length)->(l.filterMap λi=>xs[i]?).length=l.length/\∀i:Nat,(l.filterMap λi=>xs[i]?)[i]? = (l[i]?).bind λi=>xs[i]?
 | [],_=>⟨rfl,λi=>by simp⟩
 | y::l,h=>by
  obtain⟨B,G⟩:=aAT (xs:=xs) l λx I=>h x (Ag _ I);have q:=h y Ak;rw[BL,Ae q];dsimp only;refine⟨by rw[lC,lC,B],λi=>?_⟩;cases i with
  | zero=>simp[q]|succ i=>rw[gS,gS,G]
section
variable {prog:A0} {w:AN} {K:Type} [DecidableEq K] {knd:SK prog w K} {A:AQ} {E:Value->Ac->Prop} {s:Ac} {S a:Addr} {k:K} {xs:List (K×Addr)} {m mv ep:Nat} {ps:List Nat}
theorem xJ{h:Heap}{ds ds':List Nat}(I:h.get? S=some (jS knd xs ep m ps ds mv))(B:List (K×Addr))(G:Nat)(q:List Nat)(l:Nat):(h.update S (Lv (sen knd B) (tmd G q ds' l (!dO w)))).get? S=some (jS knd B (ep+1) G q ds' l):=by have:=DG (Lv (sen knd B) (tmd G q ds' l (!dO w))) I rfl;exact this
theorem aLm{led:Bool}{j:Nat}:(tm m ps mv led).put j=(tm m (eH ps (below ps.toArray j) j) mv led,below ps.toArray j):=by unfold SetTable.put tm tmd;dsimp only;rw[kP,if_neg (by simp[has])]
theorem aGe(p:Nat):insertAt (sen knd xs) p (knd.hash k,A9 a)=sen knd (eH xs p (k,a)):=by unfold sen;rw[kP,xI]
noncomputable def okS(n:Nat):Bool:=((AF 10).any λk=>sizeAbove n==2 ^ (k+3))&&decide (n<sizeAbove n)&&decide (sizeAbove n<=4096)
theorem aGf:∀n∈AF 3000,okS n=true:=by decide +kernel
theorem aGg(n:Nat)(h:n<3000):M2 (sizeAbove n-1)/\n<sizeAbove n/\sizeAbove n<=4096:=by have q:=aGf n (BA.mpr h);unfold okS at q;simp only[bA,Aq,IN,beq_iff_eq] at q;obtain⟨⟨⟨k,l,e⟩,B⟩,G⟩:=q;exact⟨⟨k,BA.mp l,by omega⟩,B,G⟩
theorem aGh{M wn:Nat}{ds:List Nat}(hM:M2 M)(hw:sizeAbove wn-1=M)(q7:¬ sizeAbove wn>sizeLine)(ho:s.heap.get? S=some (jS knd xs ep m ps ds mv))(hf:(tmd m ps ds mv (!dO w)).fits (sen knd xs).size=true)(hl:xs.length*5<M*3)(q6:(xs.map (·.1)).Nodup){Q:Unit->Ac->Prop}
 (h:∀h' G q0 B q3,CF S s.heap h'->Tb knd G M q0->h'.get? S=some (bK knd G q3 M q0 B)->G.Perm xs->Q () { s with heap:=h' }):Al (A6 prog w) A (setRelay S wn) Q E s:=by
 unfold setRelay;refine Aa (Ch ho rfl hf ?_);dsimp only;rw[if_neg q7];obtain⟨l,e,h1,I,h3⟩:=aGd hM (xs.map λx=>knd.hash x.1) (by rw[lM];omega) 0 ((tmd m ps ds mv (!dO w)).movedTo M) (!dO w) true;have U:(tmd m ps ds mv (!dO w)).relaid ((sen knd xs).map (·.1)) wn=some (tm M (l.map (·.1)) ((tmd m ps ds mv (!dO w)).movedTo M) (!dO w),(l.map (·.2)).toArray):=by
  have:(sen knd xs).map (·.1)=(xs.map λx=>knd.hash x.1).toArray:=by unfold sen;rw[List.map_toArray,A7];rfl
  rw[this];unfold LJ;rw[hw];exact e
 rw[U];generalize (tmd m ps ds mv (!dO w)).movedTo M=B;rw[lM] at I;have q5:∀x∈l.map (·.2),x<xs.length:=λx W=>BA.mp (I.mem_iff.mp W);obtain⟨q1,q2⟩:=aAT (xs:=xs) (l.map (·.2)) q5;have q:(l.map (·.2)).length=xs.length:=by rw[I.length_eq,Cd]
 have q4:((l.map (·.2)).toArray.filterMap λi=>(sen knd xs)[i]?)=sen knd ((l.map (·.2)).filterMap λi=>xs[i]?):=by
  apply Ec.mp;rw[Array.toList_filterMap];unfold sen;show(l.map (·.2)).filterMap (λi=>(xs.map λx=>(knd.hash x.1,A9 x.2)).toArray[i]?)=((l.map (·.2)).filterMap λi=>xs[i]?).map λx=>(knd.hash x.1,A9 x.2)
  rw[List.map_filterMap];refine congrArg (λf=>List.filterMap f _) (funext λi=>?_);rw[Ck,A2]
 refine Aa ?_;show Al _ _ (if (((l.map (·.2)).toArray.filterMap λi=>(sen knd xs)[i]?).size != (sen knd xs).size)=true then _ else _) _ _ _;rw[q4,if_neg (by rw[bW,bW,q1,q];simp)];refine Ad ?_;refine Ix ho rfl ?_ (by rw[bW,q1,q];have:=hM.le;exact AC (show xs.length<=5000 by omega) (by decide));refine h _ ((l.map (·.2)).filterMap λi=>xs[i]?) (l.map (·.1)) B (ep+1) (Ci s.heap S _) ?_ ?_ ?_;have pm:((l.map (·.2)).filterMap λi=>xs[i]?).Perm xs:=by have:=I.filterMap λi=>xs[i]?;rw[Eg] at this;exact this
 refine⟨hM,h1,by rw[q1,lM,lM],((pm.map _).nodup_iff).mpr q6,by rw[q1,q];omega,λi x j W L=>?_⟩;rw[q2,A2] at W;rw[A2] at L;cases hp:l[i]? with
 | none=>rw[hp] at L;cases L|some p=>rw[hp] at W L;cases L;refine h3 p (mG hp) _ ?_;rw[A2,show xs[p.2]? = some x from W];rfl
 exact xJ ho _ _ _ _;have:=I.filterMap λi=>xs[i]?;rw[Eg] at this;exact this
theorem aLn(hu:knd.room A)(T:Tb knd xs m ps)(U:s.heap.get? S=some (bK knd xs ep m ps mv))(hk:∀x∈xs,knd.is s.heap x.1 x.2)(ha:knd.is s.heap k a)(W:k∉xs.map (·.1)->xs.length<=700){Q:Bool->Ac->Prop}
 (h:∀h' b l m' B L G,CF S s.heap h'->Tb knd l m' B->h'.get? S=some (bK knd l G m' B L)->(if k∈xs.map (·.1) then l=xs else l.Perm ((k,a)::xs))->Q b { s with heap:=h' }):Al (A6 prog w) A (K6 S (.ref a) (knd.hash k)) Q E s:=by
 obtain⟨N,hb,hN,hl⟩:=zW T.m2 (Cy T.lt) (knd.hash k);have nl:ps++[]=ps:=AV ps;unfold K6 setAddHashedIn;refine Br (Aa (Ch U rfl T.fits ?_));dsimp only;rw[if_neg (by unfold byScan;simp[Value.scannable])];unfold setSearch;have q2:=T.m2.le;refine Aa (sG (ad:=true) hu T.toD U hk ha (by rw[nl];exact hN) (by rw[nl];exact hl) hb (λ_=>rfl) (λM r hr _=>?_) (λM j b jb=>?_) 100000 0 none none (λ_=>rfl) (AL _) (by omega) (λn' i x z=>absurd z (Db _)) rfl);rw[hr rfl];dsimp only;refine Ad ?_;exact h s.heap false xs m ps mv ep (L6 S s.heap) T U (by rw[if_pos M]);obtain⟨rfl,rfl⟩:=jb rfl;dsimp only;refine Aa (Ch U rfl T.fits ?_);dsimp only;rw[aLm];dsimp only;rw[if_pos (show(tm m _ mv (!dO w)).plain=true from rfl)];refine Aa (knd.byV ha ?_);rw[if_pos rfl,aGe];obtain⟨g1,g2⟩:=aIR (a:=a) T M hb hN hl;have g3:=aDJ T.rise hN;generalize below ps.toArray (pth m (knd.hash k) N).j=p at g1 g2 g3 ⊢;generalize hj:(pth m (knd.hash k) N).j=j at g1 g3 ⊢;have q0:(eH ps p j).length=(eH xs p (k,a)).length:=by rw[hG,hG,T.len]
 have q:(eH xs p (k,a)).length=xs.length+1:=hG;have q3:=W M;refine Aa (Ix U rfl ?_ (by rw[bW,q];exact AC (show xs.length+1<=701 by omega) (by decide)));have q1:=xJ (ds':=[]) U (eH xs p (k,a)) m (eH ps p j) mv;have I:(tm m (eH ps p j) mv (!dO w)).tooFull=decide ((xs.length+1)*5 ≥ m*3):=by unfold LG Ho tm tmd;simp[hG,T.len]
 have pm:(eH xs p (k,a)).Perm ((k,a)::xs):=mI;rw[I,bW];by_cases c:(xs.length+1)*5 ≥ m*3;obtain⟨z1,z2,z3⟩:=aGg ((xs.length+1)*4) (by omega);rw[if_pos (by simpa using c),show grown (xs.length+1)=(xs.length+1)*4 by unfold grown;rw[if_neg (by omega)]];refine Aa (aGh (s:={ s with heap:=_ }) z1 rfl (by rw[show sizeLine=16777216 by decide];omega) q1 ?_ (by rw[q];omega) g2 λh' l B L G b1 b2 b3 b4=>?_);unfold Kg Ho tmd;rw[bW,q];have:=T.len;have:=T.lt;simp[hG];omega;exact Ad (h h' true l _ B L G ((Ci s.heap S _).trans b1) b2 b3 (by rw[if_neg M];exact b4.trans pm));rw[if_neg (by simpa using c)];exact Ad (h _ true _ m _ mv (ep+1) (Ci s.heap S _) ⟨T.m2,g3,q0,g2,by rw[q];omega,g1⟩ q1 (by rw[if_neg M];exact pm))
end
set_option maxRecDepth 100000
noncomputable def gM{prog:A0}{w:AN}{K:Type}[DecidableEq K](knd:SK prog w K)(h:Heap)(S:Addr)(us:List (K×Addr)):Prop:=∃xs m ps mv ep,Tb knd xs m ps/\h.get? S=some (bK knd xs ep m ps mv)/\(∀x∈xs,x∈us)/\∀y∈us,y.1∈xs.map (·.1)
noncomputable def aIS{prog:A0}{w:AN}{K:Type}[DecidableEq K](knd:SK prog w K)(h:Heap)(S:Addr)(us:List (K×Addr)):Prop:=∃xs m ps ds mv ep,TD knd xs m ps ds/\h.get? S=some (jS knd xs ep m ps ds mv)/\(∀x∈xs,x∈us)/\∀y∈us,y.1∈xs.map (·.1)
section
variable {prog:A0} {w:AN} {K:Type} [DecidableEq K] {knd:SK prog w K} {A:AQ} {R:GI->Ac->Prop} {I:Addr} {fp wr:List Addr} {G:Array GH->Array GH->Prop} {n:Nat} {P:Nat->Value->Prop} {St:Nat->Ac->Prop}
theorem gM.toD{h:Heap}{S:Addr}{us:List (K×Addr)}(x:gM knd h S us):aIS knd h S us:=by obtain⟨xs,m,ps,mv,ep,T,r⟩:=x;exact⟨xs,m,ps,[],mv,ep,T.toD,r⟩
theorem gM.keep{h h':Heap}{S:Addr}{us:List (K×Addr)}(x:gM knd h S us)(e:∀o,h.get? S=some o->h'.get? S=some o):gM knd h' S us:=by obtain⟨xs,m,ps,mv,ep,T,l,r⟩:=x;exact⟨xs,m,ps,mv,ep,T,e _ l,r⟩
theorem aBZ(W0:WalksS prog w A.in1 I fp wr G n P St)(hu:knd.room A.in1)(S:Addr)(q2:S∉fp)(us:List (K×Addr))(q8:∀i v,P i v->∃x,us[i]? = some x/\v=A9 x.2)(hn:us.length=n)(h0:Heap)(w1:∀x∈us,knd.is h0 x.1 x.2)(hB:∀b o,h0.get? b=some o->b∉S::wr)(ks:List K)(z3:ks.length<=700)(q3:∀x∈us,x.1∈ks) :
 ∀(m i:Nat) (s:Ac),n-i=m->i<=n->St i s->gM knd s.heap S (us.take i)->(∀b o,h0.get? b=some o->s.heap.get? b=some o) ->
  (∀l,Moved (S::wr) G s l->gM knd l.heap S us->R (.ok (.ret .none)) l) ->
  EH (A6 prog w) A (.builtin "set.update.loop" ⟨[.ref S,.ref I],[]⟩) R s:=by
 have nw:S∉wr:=λh=>q2 (W0.sub _ h);have sb:∀b∈wr,b∈S::wr:=λb hb=>Ag _ hb;intro m
 induction m with
 | zero=>
  intro i s hk hi U hS hK hR;obtain rfl:i=n:=by omega
  refine DC Eh ?_;rw[Dl CC _];show Al _ A.in1 (Ex (.ref I) >>= _) _ _ s;refine Aa (W0.done s _ _ U λl hm=>?_);show Al _ A.in1 (ret B5) _ _ l;rw[CJ (by omega)] at hS;exact Ad (hR l (hm.mono sb) (hS.keep λo e=>hm.heap S o nw e))
 | succ m ih=>
  intro i s hk hi U hS hK hR;have q5:i<n:=by omega
  refine DC Eh ?_;rw[Dl CC _];show Al _ A.in1 (Ex (.ref I) >>= _) _ _ s;refine Aa (W0.item i s _ _ q5 U λv l hP q7 hm=>?_);obtain⟨x,q4,rfl⟩:=q8 i v hP;have W:=mG q4;obtain⟨xs,m',ps,mv,ep,T,ho,r1,r2⟩:gM knd l.heap S (us.take i):=hS.keep λo e=>hm.heap S o nw e;have q0:∀b o,h0.get? b=some o->l.heap.get? b=some o:=λb o e=>hm.heap b o (λz=>hB b o e (Ag _ z)) (hK b o e);have L:∀x∈us,knd.is l.heap x.1 x.2:=λx hx=>knd.keepT (w1 x hx) q0;have w7:us.take (i+1)=us.take i++[x]:=by rw[List.take_succ,q4];rfl
  show Al _ A.in1 (HV [A9 x.2] (setAdd S (A9 x.2)) >>= _) _ _ l;refine Aa (Br ?_);unfold setAdd;refine Br ?_;refine Aa (knd.pyHash (k:=x.1) hu (L x W) ?_);refine aLn (k:=x.1) (s:={ l with toks:=l.toks+knd.draws x.1 }) hu T ho (λy B=>L y (BF (r1 y B))) (L x W) (λw5=>?_) λh' b z2 w8 z0 w9 q9 M T' w6 hp=>?_;have:=(B2.mpr ⟨w5,T.nd⟩).length_le_of_subset (l₂:=ks) λy B=>by rcases Au.mp B with rfl|B;exact q3 x W;obtain⟨z,hz,rfl⟩:=Ax.mp B;exact q3 z (BF (r1 z hz))
  rw[lC,lM] at this;omega;have w4:gM knd h' S (us.take (i+1)):=by rw[w7];refine⟨z2,w8,z0,w9,q9,T',w6,?_,?_⟩;intro y B;split at hp;rw[hp] at B;exact AS _ (r1 y B);rcases Au.mp (hp.mem_iff.mp B) with rfl|q;exact AB _ (Ai.mpr rfl);exact AS _ (r1 y q);intro y B;split at hp;rw[hp];rcases AJ.mp B with q|q;exact r2 y q;rw[Ai.mp q];assumption;refine(hp.map _).mem_iff.mpr ?_;rcases AJ.mp B with q|q;exact Ag _ (r2 y q);rw[Ai.mp q];exact Ak
  have w3:∀b o,h0.get? b=some o->h'.get? b=some o:=λb o e=>by rw[M.2 b λz=>hB b o e (by rw[z];exact Ak)];exact q0 b o e
  refine Ad ⟨EK CC _,ih (i+1) _ (by omega) q5 (W0.frame _ l _ _ q7 (by show l.toks<=l.toks+_;omega) λb hb o e=>?_) w4 w3 λz1 q6 q1=>?_⟩;rw[M.2 b λh:b=S=>q2 (by rw[<-h];exact hb)];exact e;refine hR z1 (Moved.trans W0.gtrans ((hm.mono sb).then_heap (by show l.toks<=l.toks+_;omega) λb o hb e=>?_) q6) q1;rw[M.2 b λh:b=S=>hb (by rw[h];exact Ak)];exact e
end
section
variable {prog:A0} {w:AN} {K:Type} [DecidableEq K] {knd:SK prog w K} {A:AQ} {E:Value->Ac->Prop} {s:Ac}
theorem aDK(a:Value){Q₁:Value->Ac->Prop}(h:Q₁ (.ref s.heap.objs.size) { s with heap:=s.heap.push { cls:=.type "set",dict:=none,data:=.set #[] 0 (.fresh 0 0 (!dO w)) } }) :
 EH (A6 prog w) A (.call (.builtin "set.__new__") ⟨[.type "set",a],[]⟩) (wants Q₁ E) s:=by
 refine Jm ?_;show Al _ A.in1 (do checkBuiltinCall "set.__new__" ⟨[.type "set",a],[]⟩;again (.builtin "set.__new__" ⟨[.type "set",a],[]⟩)) _ _ s;refine Aa (GQ (F.newCall_set_1 a) (Ad ⟨EK Jn _,DC F.entry_set_new ?_⟩));rw[Dl Jn _];unfold Cz.«set.__new__» JI;have l:=sub_set_self;obtain⟨q,g,d,tk,os⟩:=s;dsimp only
 wp_walk
 refine Ed (Ad ?_);dsimp only;simp only[newObj];refine Aa (wpAny_alloc (Ad ?_));exact Ad h
set_option maxHeartbeats 3200000 in
theorem aCa{l:Addr}{items:Array Value}{us:List (K×Addr)}{Q:Value->Ac->Prop}(hh:A.handled=none)(hu:∀A':AQ,A'.units<=A.units+20->knd.room A')(hl:s.heap.IsList l items)(hi:items.toList=us.map λx=>A9 x.2)(hK:∀x∈us,knd.is s.heap x.1 x.2)(ks:List K)(w4:ks.length<=700)(w1:∀x∈us,x.1∈ks)
 (h:∀(h':Heap) (tk:Nat),gM knd h' s.heap.objs.size us->(∀b o,b<s.heap.objs.size->s.heap.get? b=some o->h'.get? b=some o)->Q (.ref s.heap.objs.size) { s with heap:=h',toks:=tk }) :
 Al (A6 prog w) A (call (.type "set") [.ref l]) Q E s:=by
 have hn:us.length=items.size:=by rw[<-AK,hi,lM]
 obtain⟨c,tl,w9⟩:=BW.mro;have w5:=BW.made;have z2:=BW.sub;refine wpAny_call (Jm ?_);show Al _ _ (callAny (.type "set") _) _ _ _;refine Ad ⟨Code.quiet_builtin _ (by decide +kernel),DC F.entry_type_call ?_⟩;rw[Around.under_plain (weight_type_call_type "set" [.ref l] []) rfl];have h1:=BW.notType;have h2:=BW.canCreate;have z5:=PySem.F.typeCall_set_1 (.ref l)
 repeat (any_goals (first|assumption|wp_step))
 refine Fb (aDK (.ref l) (E:=E) (Q₁:=λobj L=>obj=.ref s.heap.objs.size/\L={ s with heap:=s.heap.push { cls:=.type "set",dict:=none,data:=.set #[] 0 (.fresh 0 0 (!dO w)) } }) ⟨rfl,rfl⟩) λr L hr=>?_;cases r with
 | error e=>exact hr|ok fl=>
  cases fl with
  | ret obj=>
   obtain⟨rfl,rfl⟩:=hr;generalize q4:(!dO w)=led at *;have hS:(s.heap.push { cls:=.type "set",dict:=none,data:=.set #[] 0 (.fresh 0 0 led) }).get? s.heap.objs.size=some { cls:=.type "set",dict:=none,data:=.set #[] 0 (.fresh 0 0 led) }:=Ao _ rfl;have hT:FM { s with heap:=s.heap.push { cls:=.type "set",dict:=none,data:=.set #[] 0 (.fresh 0 0 led) } } (.ref s.heap.objs.size) "set" := ⟨_,hS,rfl⟩
   have z6:=BW.init.lookup;have z4:=BW.init.bind (.ref s.heap.objs.size)
   repeat (any_goals (first|assumption|wp_step))
   refine Fb (codeAny_call_builtin (R:=wants (λr M=>r=.none/\∃h' tk,M={ s with heap:=h',toks:=tk }/\gM knd h' s.heap.objs.size us /\
    (∀b o,b<s.heap.objs.size->s.heap.get? b=some o->h'.get? b=some o)) E) BW.init.plain F.entry_set_init (check_set_init_1 hT ?_)) λq7 M B=>?_
   . obtain⟨ol,q5,q1,nl,hdl⟩:=hl;obtain⟨z3,q0,w6,I⟩:=ol;simp only at q1 hdl;subst q1;subst hdl;have q6:(s.heap.push { cls:=.type "set",dict:=none,data:=.set #[] 0 (.fresh 0 0 led) }).get? l=some { cls:=.type "list",dict:=q0,data:=.seq items nl,slots:=I }:=Ab _ q5;have z1:=PySem.F.sub_list_set;have z0:=PySem.F.sub_list_frozenset;have z7:(Ff "list" == Ff "dict")=false:=by decide
     have q2:(s.heap.push { cls:=.type "set",dict:=none,data:=.set #[] 0 (.fresh 0 0 led) }).IsList l items:=⟨_,q6,rfl,nl,rfl⟩
     unfold Cz.«set.__init__» noKeywords Jo;generalize q8:H0=PI
     wp_walk
     subst q8;refine FB q2 ?_;refine Aa (JJ ?_);have q3:l<s.heap.objs.size:=Am q5;have q9:A.in1.in1.in1.handled=none:=by simp[hh]
     have hsz:(s.heap.push { cls:=.type "set",dict:=none,data:=.set #[] 0 (.fresh 0 0 led) }).objs.size=s.heap.objs.size+1:=Cc _ _;refine aBZ ((Walks.list q9 _ l (by rw[hsz];exact A4 (B8 q3)) items).toS) (hu _ (by show A.units+1+1+1<=A.units+20;omega)) s.heap.objs.size
      (by
       rw[hsz];intro z;rcases Au.mp z with q|q;exact absurd q (A4 (Cs _));exact absurd (Ai.mp q) (CH q3)) us
      (λi v hv=>by
       have G:items.toList[i]? = some v:=by rw[AT];exact hv
       rw[hi,A2] at G;cases q:us[i]? with
       | none=>rw[q] at G;cases G|some x=>rw[q] at G;cases G;exact⟨x,rfl,rfl⟩) hn
      s.heap hK (λb o e z=>by
       have:=Am e;rw[hsz] at z;rcases Au.mp z with q|q;exact absurd q (A4 this);exact absurd (Ai.mp q) (A4 (B8 this))) ks w4 w1 (items.size-0) 0 _ (by omega) (AL _)
      ⟨⟨_,Ao _ rfl,rfl,rfl⟩,(q2.push _)⟩ ?hS0 ?hK0 ?hR
     case hS0=>refine⟨[],7,[],0,0,⟨⟨0,by decide,rfl⟩,C6,rfl,Fm,(show 0*5<7*3 by decide),λi x j hx=>by simp at hx⟩,?_,λx hx=>by simp at hx,λy hy=>by simp at hy⟩;unfold bK jS;rw[q4];exact Ab _ hS
     case hK0=>exact λb o e=>Ab _ (Ab _ e)
     case hR=>intro s' hm W;obtain⟨h',g',d',w8,w7⟩:=s';have eg:g'=s.gens:=hm.gens;have ed:d'=s.drawn:=hm.drawn;have eo:w7=s.os:=hm.os;subst eg;subst ed;subst eo;show Al _ _ _ _ _ _;refine Ad ?_;show Al _ _ (ret B5) _ _ _;refine Ad ⟨rfl,h',w8,rfl,W,λb o hb e=>?_⟩;refine hm.heap b o ?_ (Ab _ (Ab _ e));rw[hsz];intro z;rcases Au.mp z with q|q;exact absurd q (A4 hb);exact absurd (Ai.mp q) (A4 (B8 hb))
   . cases q7 with
     | error e=>exact B|ok U=>
      cases U with
      | ret r=>
       obtain⟨rfl,h',tk,rfl,W,w3⟩:=B
       repeat (any_goals (first|assumption|wp_step))
       exact h _ _ W w3
      | _=>exact B.elim
  | _=>exact hr.elim
end
end L2
namespace L2
open PySem PySem.Spec PyProof.Rows
set_option maxRecDepth 100000
theorem cC:Slot "set_iterator" "__next__" "set_iterator.__next__" :=
 .of (owner:= "set_iterator") (n:= "__next__") (by rw[Jp,GA];kernel_rfl) (by decide +kernel) (by decide +kernel) (by decide +kernel)
  (by first|exact .inl (by decide +kernel)|exact .inr (by decide +kernel)) (by rw[Fz];kernel_rfl)
theorem gN:La table "set_iterator.__next__" = some Cz.«set_iterator.__next__»:=entryFor_of_tree (by kernel_rfl)
theorem hX(a:Value):Lw "set_iterator.__next__" ⟨[a],[]⟩:=by unfold Lw;kernel_rfl
theorem pT:La table "set.__iter__" = some Cz.«frozenset.__iter__»:=
 JK (id':= "frozenset.__iter__") (by kernel_rfl) rfl (by decide +kernel) (by kernel_rfl)
theorem hZ:Slot "set_iterator" "__iter__" "set_iterator.__iter__" :=
 .of (owner:= "set_iterator") (n:= "__iter__") (by rw[Jp,GA];kernel_rfl) (by decide +kernel) (by decide +kernel) (by decide +kernel)
  (by first|exact .inl (by decide +kernel)|exact .inr (by decide +kernel)) (by rw[Fz];kernel_rfl)
theorem nO:La table "set_iterator.__iter__" = some Cz.«dict_keyiterator.__iter__»:=
 JK (id':= "dict_keyiterator.__iter__") (by kernel_rfl) rfl (by decide +kernel) (by kernel_rfl)
theorem pU(a:Value):Lw "set_iterator.__iter__" ⟨[a],[]⟩:=by unfold Lw;kernel_rfl
theorem pV{α:Type}:∀(l:List α) (j:Nat) (h:j<l.length),(l[j]::l.eraseIdx j).Perm l
 | [],_,h=>absurd h (Db _)|a::l,0,_=>Cf _|a::l,j+1,h=>(JL a (l[j]'(by simpa using h)) _).trans ((pV l j (by simpa using h)).cons a)
theorem sH{α:Type}(next:Nat->Nat):∀(q k:Nat) (l:List α) (out:Array α),l.length=q->(Iy next q k l out).toList.Perm (out.toList++l)
 | 0,_,l,out,h=>by have:l=[]:=List.eq_nil_of_length_eq_zero h;subst this;rw[Iy,AV]|q+1,k,l,out,h=>by
  have B:next k % l.length<l.length:=Gu _ (by omega)
  rw[Iy,Ae B];dsimp only;refine(sH next q (k+1) _ _ (by rw[List.length_eraseIdx_of_lt B];omega)).trans ?_;rw[Dh,AD];exact BP _ (pV _ _ B)
noncomputable def pW(w:AN)(S:Addr)(ep:Nat)(es:Array (Int×Value)):Array (Int×Value):=if dO w then pickOrder (w.params.setOrder S ep) es else es
theorem xK(w:AN)(S:Addr)(ep:Nat)(es:Array (Int×Value)):(pW w S ep es).toList.Perm es.toList:=by unfold pW;split;unfold pickOrder;refine(sH _ _ _ _ _ (by rw[AK])).trans ?_;simp;exact Cf _
theorem kQ(w:AN)(S:Addr)(ep:Nat)(es:Array (Int×Value)):(pW w S ep es).size=es.size:=by rw[<-AK,(xK w S ep es).length_eq,AK]
noncomputable def zX(ps:List Nat):Nat->Nat
 | 0=>0|i+1=>ps.getD i 0+1
noncomputable def slotV(w:AN)(ps:List Nat)(i:Nat):Nat:=if dO w then 0 else zX ps i
theorem aCb{ps:List Nat}(G:gF ps):∀i,i<=ps.length->DZ ps.toArray (zX ps i)=i
 | 0,_=>by obtain⟨M,B,I⟩:=bel G 0;rcases Nat.eq_zero_or_pos (DZ ps.toArray 0) with z|z;exact z;exact absurd (B 0 _ z (Ae (by omega))) (Db _)
 | i+1,hi=>by
  show DZ ps.toArray (ps.getD i 0+1)=i+1;obtain⟨M,B,I⟩:=bel G (ps.getD i 0+1);have L:ps[i]? = some (ps.getD i 0):=by rw[CU,Ae (by omega)];rfl
  rcases FD (DZ ps.toArray (ps.getD i 0+1)) (i+1) with z|z|z;have:=I i _ (by omega) L;omega;exact z;have q:=Ae (l:=ps) (i:=i+1) (by omega);have:=B (i+1) _ z q;have:=G.lt (Cs i) L q;omega
section
variable {prog:A0} {w:AN} {K:Type} [DecidableEq K] {knd:SK prog w K} {A:AQ} {E:Value->Ac->Prop} {s:Ac}
noncomputable def mJ(w:AN)(S:Addr)(ep:Nat)(ps:List Nat)(i:Nat):Obj:={ cls:=.type "set_iterator",dict:=none,data:=.fields #[C0 (slotV w ps i),C0 i,.ref S,C0 ps.length,C0 ep],slots:=#[] }
variable {S I:Addr} {ep i m mv:Nat} {ps ds:List Nat} {xs:List (K×Addr)}
theorem aHn{Q:Option (Value×Nat)->Ac->Prop}(T:TD knd xs m ps ds)(M:s.heap.get? S=some (jS knd xs ep m ps ds mv))(hi:i<=ps.length)
 (h:Q (((pW w S ep (sen knd xs))[i]?).map λe=>(e.2,slotV w ps (i+1))) s):Al (A6 prog w) A (K7 S (slotV w ps i) i ep) Q E s:=by
 have L:(tmd m ps ds mv (!dO w)).fits (sen knd xs).size=true:=T.fits;unfold K7;refine Aa (Ch M rfl L ?_);dsimp only;unfold JM;refine Aa (Aa (Ed (Ad ?_)));show Al _ _ (if dO w=true then _ else _) _ _ s;unfold pW slotV at h;unfold slotV;cases q:dO w with
 | true=>rw[q,if_pos rfl,if_pos rfl] at h;rw[if_pos rfl,if_pos rfl];rw[if_neg (by simp)];unfold setWalk;refine Aa (Aa (Ch M rfl L ?_));dsimp only;unfold JM;refine Aa (Aa (Ed (Ad ?_)));show Al _ _ (if dO w=true then _ else _) _ _ s;rw[q,if_pos rfl];refine Aa (Ed (Ad ?_));exact Ad h|false=>
  rw[q,if_neg bN,if_neg bN] at h;rw[if_neg bN,if_neg bN];show Al _ _ (if (!true&&decide ((sen knd xs).size>1))=true then _ else _) _ _ s;rw[if_neg (by simp)];refine Aa ?_;show Al _ _ (if (!(!false)&&!(sen knd xs).isEmpty)=true then _ else _) _ _ s;rw[if_neg (by simp)];refine Ad ?_;have B:=aCb T.rise i hi;show Al _ _ (pure (match (sen knd xs)[DZ ps.toArray (zX ps i)]?,ps.toArray[DZ ps.toArray (zX ps i)]? with
   | some (_,x),some j=>some (x,j+1)|_,_=>none)) _ _ s
  rw[B];refine Ad ?_;have e:(match (sen knd xs)[i]?,ps.toArray[i]? with|some (_,x),some j=>some (x,j+1)|_,_=>none)=((sen knd xs)[i]?).map λe=>(e.2,zX ps (i+1)):=by
   by_cases l:i<ps.length;have G:i<xs.length:=by have:=T.len;omega
   rw[pS,Ae G,Ck,Ae l];simp[zX,l];have G:xs.length<=i:=by have:=T.len;omega
   rw[pS,EB G];rfl
  rw[e];exact h
theorem aLo{e:Int×Value}{Q:Option Value->Ac->Prop}(T:TD knd xs m ps ds)(G:s.heap.get? S=some (jS knd xs ep m ps ds mv))(l:s.heap.get? I=some (mJ w S ep ps i))(q1:S≠I)(B:(pW w S ep (sen knd xs))[i]? = some e)
 (hQ:∀h',h'.get? I=some (mJ w S ep ps (i+1))->CF I s.heap h'->Q (some e.2) { s with heap:=h' }):Al (A6 prog w) A (Ex (.ref I)) Q E s:=by
 have hf:(tmd m ps ds mv (!dO w)).fits (sen knd xs).size=true:=T.fits;have q:s.TypeIs (.ref I) "set_iterator" := ⟨_,l,rfl⟩
 have q0:i<ps.length:=by have:=(Ce.mp B).1;rw[kQ,bW] at this;have:=T.len;omega
 unfold Ex;refine Aa (Ek (Bl (name:=Dd "__next__") q cC (Bb cC q gN ?_ (hX _))));unfold Cz.«set_iterator.__next__» Lb;simp only[EF,Bh,bF,↓reduceIte,bind_assoc,lN,bne_self_eq_false];refine Aa (Ad ?_)
 try dsimp only
 refine Aa (GX l rfl ?_);show Al _ _ (setEntries S >>= _) _ _ s;refine Aa (EZ G rfl hf ?_);rw[if_neg (by rw[bW,T.len];simp)];show Al _ _ (K7 S ((slotV w ps i:Int).toNat) ((i:Int).toNat) ((ep:Int).toNat) >>= _) _ _ s;rw[Bx,Bx,Bx];refine Aa (aHn T G (by omega) ?_);rw[B];dsimp only[DA];refine Aa (BE l (by simp) λW M b1=>?_);refine Aa (BE (s:={ s with heap:=W }) M (by simp) λh2 U L=>?_);refine Ad ⟨e.2,rfl,Ad (hQ h2 ?_ (b1.trans L))⟩;rw[U];simp[mJ,C0]
theorem aNy{Q:Option Value->Ac->Prop}(B:A.handled=none)(T:TD knd xs m ps ds)(G:s.heap.get? S=some (jS knd xs ep m ps ds mv))(l:s.heap.get? I=some (mJ w S ep ps ps.length))
 (L:∀h',GP I s.heap h'->Q none { s with heap:=h' }):Al (A6 prog w) A (Ex (.ref I)) Q E s:=by
 have U:(tmd m ps ds mv (!dO w)).fits (sen knd xs).size=true:=T.fits;have q:s.TypeIs (.ref I) "set_iterator" := ⟨_,l,rfl⟩
 have M:(pW w S ep (sen knd xs))[ps.length]? = none:=by rw[Fy,kQ,bW,T.len];exact Ah _
 unfold Ex;refine Aa (Ek (Bl (name:=Dd "__next__") q cC (Bb cC q gN ?_ (hX _))));unfold Cz.«set_iterator.__next__» Lb;simp only[EF,Bh,bF,↓reduceIte,bind_assoc,lN,bne_self_eq_false];refine Aa (Ad ?_)
 try dsimp only
 refine Aa (GX l rfl ?_);show Al _ _ (setEntries S >>= _) _ _ s;refine Aa (EZ G rfl U ?_);rw[if_neg (by rw[bW,T.len];simp)];show Al _ _ (K7 S ((slotV w ps ps.length:Int).toNat) ((ps.length:Int).toNat) ((ep:Int).toNat) >>= _) _ _ s;rw[Bx,Bx,Bx];refine Aa (aHn T G (Ah _) ?_);rw[M];dsimp only[Option.map_none];refine Aa (BE l (by simp) λh1 W b1=>?_);show Al _ _ (JD (.type "StopIteration") [] >>= _) _ _ _;refine Aa ?_;simp only[JD,KY];refine Aa (Bd ?_ (by size_fits));refine Aa (m:=DU _ _) (GQ (a:=B5) (by first|rfl|(simp only[DU];rfl)) ?_);refine Bd ?_ (by size_fits);simp only[KZ];refine Aa (Hm ?_)
 first|rw[show A.in1.handled=none from B]|rw[B]
 refine Aa (Ad (Jd ?_));refine Aa (Cr (T:= "StopIteration") (b:=true) ⟨_,Ao _ rfl,rfl⟩ GU ?_);exact Ad (L _ ((b1.extBut.push _).push _))
theorem aIT(U:A.handled=none)(T:TD knd xs m ps ds)(B:S≠I):Walks prog w A I [I,S] [I] ps.length (λi v=>∃e,(pW w S ep (sen knd xs))[i]? = some e/\v=e.2) (λi h=>h.get? I=some (mJ w S ep ps i)/\h.get? S=some (jS knd xs ep m ps ds mv)) where
 sub:=λb M=>by rw[Ai.mp M];exact Ak
 frame:=λi h h' st k=>⟨k I Ak _ st.1,k S (Ag _ (Ai.mpr rfl)) _ st.2⟩
 item:=λi s Q E hi st l=>by
  have q:i<(pW w S ep (sen knd xs)).size:=by rw[kQ,bW,<-T.len];exact hi
  refine aLo T st.2 st.1 B (AO q) λh' g b=>l _ h' s.toks ⟨_,AO q,rfl⟩ ⟨g,?_⟩ λc o L e=>?_;rw[b.2 S B];exact st.2;rw[b.2 c λz=>L (by rw[z];exact Ai.mpr rfl)];exact e
 done:=λs Q E st l=>aNy U T st.2 st.1 λh' b=>l h' s.toks λc o L e=>b c o (λz=>L (by rw[z];exact Ai.mpr rfl)) e
 self:=λi s Q E st l=>by
  have G:s.TypeIs (.ref I) "set_iterator" := ⟨_,st.1,rfl⟩
  refine FE G hZ (Bb hZ G nO ?_ (pU _));show Al _ _ (ret (.ref I)) _ _ s;exact Ad ⟨_,rfl, "set_iterator",_,G,cC.lookup,l⟩
theorem aLp{Q:Value->Ac->Prop}(T:TD knd xs m ps ds)(l:s.heap.get? S=some (jS knd xs ep m ps ds mv))(h:Q (.ref s.heap.objs.size) { s with heap:=s.heap.push (mJ w S ep ps 0) }):Al (A6 prog w) A (H0 (.ref S)) Q E s:=by
 have q:(tmd m ps ds mv (!dO w)).fits (sen knd xs).size=true:=T.fits;have B:s.TypeIs (.ref S) "set" := ⟨_,l,rfl⟩
 refine FE B GB (Bb GB B pT ?_ (PySem.F.args_set_iter_1 _));unfold Cz.«frozenset.__iter__» Kw Lb;simp only[EF,Bh,bF,↓reduceIte,bind_assoc,lN,bne_self_eq_false];unfold Kh Ki;refine Aa (Ad ?_)
 try dsimp only
 refine Aa (Ad ?_);refine Aa (Aa (EZ l rfl q (Ad ?_)));unfold setDrawn JM;refine Aa (Aa (Ch l rfl q ?_));dsimp only;refine Aa (Aa (Ed (Ad ?_)));refine Ad ?_;show Al _ _ (if (!dO w&&(!true&&decide ((sen knd xs).size>1)))=true then _ else _) _ _ s;rw[if_neg (by simp)];refine Aa (Ad ?_);refine Aa (wpAny_setEpoch_of l rfl q ?_);refine Aa (Bd ?_);have e:(#[C0 0,C0 0,A9 S,C0 ((sen knd xs).size:Int),C0 (ep:Int)]:Array Value)=#[C0 (slotV w ps 0),C0 ((0:Nat):Int),.ref S,C0 ps.length,C0 ep]:=by
  rw[bW,T.len];have:slotV w ps 0=0:=by unfold slotV zX;split <;> rfl
  rw[this];rfl
 refine Ad ⟨_,rfl, "set_iterator",_,⟨_,Ao _ rfl,rfl⟩,cC.lookup,?_⟩;show Q (.ref s.heap.objs.size) { s with heap:=s.heap.push { cls:=.type "set_iterator",data:=.fields #[C0 0,C0 0,A9 S,C0 ((sen knd xs).size:Int),C0 (ep:Int)] } };rw[e];exact h
theorem sJ{P:Nat->Value->Prop}{acc:Array Value}{m:Nat}{od:List (Int×Value)}(q:∀i v,P i v->∃e,od[i]? = some e/\v=e.2)(h:ItemsOf P acc m)(M:od.length=m):acc.toList=od.map (·.2):=by refine Iq λj=>?_;rw[AT,A2];by_cases l:j<acc.size;obtain⟨e,B,G⟩:=q j acc[j] (h.2 j _ (AO l));rw[AO l,B,G];rfl;have L:=h.1;rw[Gx (by omega),EB (by omega)];rfl
theorem aDL{Q:List Value->Ac->Prop}(hh:A.handled=none)(T:TD knd xs m ps ds)(ho:s.heap.get? S=some (jS knd xs ep m ps ds mv))
 (hQ:∀B acc,(∀b o,s.heap.get? b=some o->B.heap.get? b=some o)->(s.heap.objs.size<B.heap.objs.size/\∃tk h',B={ s with heap:=h',toks:=tk })->acc=(pW w S ep (sen knd xs)).toList.map (·.2)->Q acc B):Al (A6 prog w) A (collect (.ref S)) Q E s:=by
 have hT:s.TypeIs (.ref S) "set" := ⟨_,ho,rfl⟩
 have q:S<s.heap.objs.size:=Am ho;unfold collect;refine Aa (JJ (DC F.entry_proto_collect ?_));rw[Dl F.plain_proto_collect _];show Al _ A.in1 (L5 [] >>= λl=>again (.builtin "list.__iadd__" ⟨[l,.ref S],[]⟩)) _ _ s;refine Aa (Bd ?_);refine Ad ⟨EK Iz _,DC F.entry_list_iadd ?_⟩;rw[Dl Iz _];have L:(s.heap.push { cls:=.type "list",data:=.seq ([]:List Value).toArray }).get? S=some (jS knd xs ep m ps ds mv):=Ab _ ho;have w5:FM { s with heap:=s.heap.push { cls:=.type "list",data:=.seq ([]:List Value).toArray } } (.ref S) "set" := ⟨_,L,rfl⟩
 have q9:(s.heap.push { cls:=.type "list",data:=.seq ([]:List Value).toArray }).get? s.heap.objs.size=some { cls:=.type "list",data:=.seq ([]:List Value).toArray }:=Ao _ rfl;have h1:Dq (.ref s.heap.objs.size) (.ref S)=false:=by simp only[Dq,beq_eq_false_iff_ne];exact CH q
 show Al _ A.in1 (CL (.ref s.heap.objs.size) (.ref S) (.ref s.heap.objs.size)) _ _ _;unfold CL;refine Aa (De w5 ?_);rw[if_neg (by rw[h1];decide)];refine Aa (aLp T L ?_);refine Aa (Br ?_);have q8:((s.heap.push { cls:=.type "list",data:=.seq ([]:List Value).toArray }).push (mJ w S ep ps 0)).get? S=some (jS knd xs ep m ps ds mv):=Ab _ L;have G:FM { s with heap:=(s.heap.push { cls:=.type "list",data:=.seq ([]:List Value).toArray }).push (mJ w S ep ps 0) } (.ref S) "set" := ⟨_,q8,rfl⟩
 unfold Fe;refine Aa (C9 G PySem.F.slot_set_len.lookup ?_);generalize q6:("set.__len__" : String)=id0
 wp_delta
 rw[show splitId id0=some ("set", "__len__") from by subst q6;decide +kernel];subst q6;refine Aa (Cr (b:=true) G (by rw[Fz];kernel_rfl) ?_);rw[if_neg (by decide)];dsimp only;rw[if_pos (by decide +kernel)];refine Aa (De G ?_);refine Ad ?_;rw[if_pos (by decide +kernel)];refine Aa (Cq ?_);unfold Gy;have q2:((s.heap.push { cls:=.type "list",data:=.seq ([]:List Value).toArray }).push (mJ w S ep ps 0)).get? s.heap.objs.size=some { cls:=.type "list",data:=.seq ([]:List Value).toArray }:=Ab _ q9;refine Aa (Aa (Dr (f:=λx=>x.push B5) q2 rfl ?_));have q3:=DD (c:= "list") (xs:=#[]) (n:=0) q2 (λx=>x.push B5);refine Dr (f:=λx=>x.pop) q3 rfl ?_;have w1:=DD q3 (λx=>x.pop);have q1:(s.heap.push { cls:=.type "list",data:=.seq ([]:List Value).toArray }).objs.size=s.heap.objs.size+1:=HL _ _;have q0:((s.heap.push { cls:=.type "list",data:=.seq ([]:List Value).toArray }).push (mJ w S ep ps 0)).get? (s.heap.push { cls:=.type "list",data:=.seq ([]:List Value).toArray }).objs.size=some (mJ w S ep ps 0):=Ao _ rfl;rw[q1] at q0 ⊢;have keep:∀b o,b≠s.heap.objs.size->((s.heap.push { cls:=.type "list",data:=.seq ([]:List Value).toArray }).push (mJ w S ep ps 0)).get? b=some o->((((s.heap.push { cls:=.type "list",data:=.seq ([]:List Value).toArray }).push (mJ w S ep ps 0)).update s.heap.objs.size (BD λx=>x.push B5)).update s.heap.objs.size (BD λx=>x.pop)).get? b=some o:=λb o M e=>by rw[Cj _ _ _ _ M,Cj _ _ _ _ M];exact e
 have w3:S≠s.heap.objs.size+1:=λz=>Gm.mpr (GO _) (z▸q);have w4:s.heap.objs.size∉[s.heap.objs.size+1,S]:=λU=>by rcases Au.mp U with z|z;exact absurd z (by omega);rw[<-Ai.mp z] at q;exact AY _ q
 have q7:ps.length<=5000:=by have:=T.lt;have:=T.m2.le;omega
 refine Ad ⟨EK Hg _,GY (aIT (A:=A.in1) (ep:=ep) (I:=s.heap.objs.size+1) hh T w3).toS (AC q7 (by decide)) _ w4 _ ps.length 0 _ #[] 2 (Gp _) (AL _) ⟨keep _ _ (by omega) q0,keep _ _ (A4 q) q8⟩ w1 (Lc _) λB W c' U q4 q5=>?_⟩;show Al _ A (load s.heap.objs.size >>= _) _ _ B;refine Aa (wpAny_load q4 ?_);refine Ad (hQ B W.toList (λb o e=>?_) ?_ ?_);have M:b<s.heap.objs.size:=Am e;refine U.heap b o (λz=>?_) (keep b o (A4 M) (Ab _ (Ab _ e)));rcases Au.mp z with z|z;exact A4 M z;exact Gm.mpr (GO _) (Ai.mp z▸M);obtain⟨h',g',d',w7,w6⟩:=B;have eg:g'=s.gens:=U.gens;have ed:d'=s.drawn:=U.drawn;have eo:w6=s.os:=U.os;subst eg;subst ed;subst eo;exact⟨Am q4,w7,h',rfl⟩;exact sJ (P:=λi v=>∃e,(pW w S ep (sen knd xs))[i]? = some e/\v=e.2) (λi v ⟨e,he,hv⟩=>⟨e,by rw[AT];exact he,hv⟩) q5 (by rw[AK,kQ,bW,T.len])
end
end L2
namespace L2
open PySem PySem.Spec PyProof.Rows SetTable
set_option maxRecDepth 100000
section
variable {prog:A0} {w:AN} {K:Type} [DecidableEq K] {knd:SK prog w K} {A:AQ} {E:Value->Ac->Prop} {s:Ac} {S O:Addr} {xs ys:List (K×Addr)} {m mv ep m' mv' ep':Nat} {ps ps':List Nat}
theorem nC{α M:Type}{f:α->M}{l ys:List M}(h:l.Perm ys):∀{xs:List α},ys=xs.map f->∃us:List α,us.Perm xs/\l=us.map f:=by
 induction h with
 | nil=>
  intro xs e;cases xs with
  | nil=>exact⟨[],Cf _,rfl⟩|cons _ _=>cases e
 | cons x _ ih=>
  intro xs e;cases xs with
  | nil=>cases e|cons y ys=>obtain⟨B,G⟩:=El e;obtain⟨us,p,q⟩:=ih G;exact⟨y::us,p.cons y,by rw[mC,<-q,B]⟩
 | swap x y l=>
  intro xs e
  match xs,e with
  | a::b::r,e=>obtain⟨B,G⟩:=El e;obtain⟨U,W⟩:=El G;exact⟨b::a::r,JL _ _ _,by rw[mC,mC,B,U,W]⟩|[_],e=>cases(El e).2|[],e=>cases e
 | trans _ _ I L=>intro xs e;obtain⟨us,p,q⟩:=L e;obtain⟨vs,p',q'⟩:=I q;exact⟨vs,p'.trans p,q'⟩
end
set_option maxRecDepth 100000
set_option maxRecDepth 100000
end L2
namespace L2
open PySem PySem.Spec PyProof.Rows SetTable PySem.W
open Hp (lexG ltI lexJ lexN)
set_option maxRecDepth 100000
structure LO {α:Type} (lt:α->α->Bool):Prop where
 tr:∀{a b c},lt a b=true->lt b c=true->lt a c=true
 ir:∀a,lt a a=false
 tot:∀{a b},a≠b->lt a b=false->lt b a=true
theorem LO.as{α:Type}{lt:α->α->Bool}(L:LO lt){a b:α}(h:lt a b=true):lt b a=false:=by
 cases q:lt b a with
 | false=>rfl|true=>have:=L.tr h q;rw[L.ir] at this;cases this
theorem aIU:LO ltI:=⟨λl q=>by unfold ltI at*;simp only[Aq] at*;omega,λa=>by unfold ltI;simp,λl q=>by unfold ltI at*;simp only[Aq,Bw] at*;omega⟩
theorem aAU{α:Type}[DecidableEq α]{lt:α->α->Bool}(L:LO lt):∀{a b c:List α},lexG lt a b=true->lexG lt b c=true->lexG lt a c=true
 | [],[],_,h,_=>by cases h|[],_::_,[],_,h=>by cases h|[],_::_,_::_,_,_=>rfl|_::_,[],_,h,_=>by cases h|_::_,_::_,[],_,h=>by cases h|x::xs,y::ys,z::zs,h1,h2=>by rw[lexG] at h1 h2 ⊢;by_cases q:x=y;subst q;rw[if_pos rfl] at h1;by_cases l:x=z;rw[if_pos l] at h2 ⊢;exact aAU L h1 h2;rw[if_neg l] at h2 ⊢;exact h2;rw[if_neg q] at h1;by_cases l:y=z;subst l;rw[if_neg q];exact h1;rw[if_neg l] at h2;have B:=L.tr h1 h2;rw[if_neg (λe=>by subst e;rw[L.as h1] at h2;cases h2)];exact B
theorem aAV{α:Type}[DecidableEq α]{lt:α->α->Bool}:∀a:List α,lexG lt a a=false
 | []=>rfl|x::xs=>by rw[lexG,if_pos rfl];exact aAV xs
theorem xL{α:Type}[DecidableEq α]{lt:α->α->Bool}(L:LO lt):∀{a b:List α},a≠b->lexG lt a b=false->lexG lt b a=true
 | [],[],h,_=>absurd rfl h|[],_::_,_,h=>by cases h|_::_,[],_,_=>rfl|x::xs,y::ys,h,h2=>by rw[lexG] at h2 ⊢;by_cases l:x=y;subst l;rw[if_pos rfl] at h2 ⊢;exact xL L (λe=>h (by rw[e])) h2;rw[if_neg l] at h2;rw[if_neg (DI l)];exact L.tot l h2
theorem LO.lex{α:Type}[DecidableEq α]{lt:α->α->Bool}(L:LO lt):LO (lexG lt):=⟨λl q=>aAU L l q,aAV,λl q=>xL L l q⟩
theorem iT:LO lexN:=aIU.lex.lex
theorem aAW:∀(ns l:List Int),HT.lexLt ns l=lexJ ns l
 | [],[]=>rfl|[],_::_=>rfl|_::_,[]=>rfl|x::xs,y::ys=>by rw[HT.lexLt_cons,lexJ,lexG,aAW xs ys];rfl
noncomputable def rk{α:Type}(lt:α->α->Bool)(ks:List α)(k:α):Nat:=ks.countP λy=>lt y k
theorem sK{α:Type}{lt:α->α->Bool}(L:LO lt){x y:α}(h:lt x y=true):∀{ks:List α},x∈ks->rk lt ks x<rk lt ks y
 | z::ks,l=>by unfold rk;rw[IT,IT];have mono:ks.countP (λq=>lt q x)<=ks.countP λq=>lt q y:=List.countP_mono_left λq _ B=>L.tr B h;rcases Au.mp l with rfl|l;rw[if_neg (by rw[L.ir];exact bN),if_pos h];omega;have:=sK L h l;unfold rk at this;by_cases q:lt z x=true;rw[if_pos q,if_pos (L.tr q h)];omega;rw[if_neg q];split <;> omega
theorem aIV{α:Type}[DecidableEq α]{lt:α->α->Bool}(L:LO lt){ks:List α}{x y:α}(l:x∈ks)(B:y∈ks):decide (rk lt ks x<rk lt ks y)=lt x y:=by
 cases h:lt x y with
 | true=>exact A8 (sK L h l)|false=>refine Az λq=>?_;by_cases e:x=y;subst e;omega;have:=sK L (L.tot e h) B;omega
abbrev rfs{K:Type}(us:List (K×Addr)):List Value:=us.map λx=>A9 x.2
section
variable {prog:A0} {w:AN} {K:Type} [DecidableEq K] {A:AQ} {E:Value->Ac->Prop} {s:Ac} {lt:K->K->Bool}
noncomputable def rOf(lt:K->K->Bool)(us:List (K×Addr))(p:A3):Nat:=match p.1 with
 | .ref b=>(match us.find? (λy=>y.2==b) with|some x=>rk lt (us.map (·.1)) x.1|none=>0)
 | _=>0
theorem aAX:∀{us:List (K×Addr)},(us.map (·.2)).Nodup->∀{x:K×Addr},x∈us->us.find? (λy=>y.2==x.2)=some x
 | y::us,h,x,l=>by rw[mC,B2] at h;rw[G5];rcases Au.mp l with rfl|l;rw[show(x.2==x.2)=true from beq_self_eq_true _];rw[show(y.2==x.2)=false from beq_eq_false_iff_ne.mpr λe=>h.1 (Ax.mpr ⟨x,l,e.symm⟩)];exact aAX h.2 l
theorem xM(L:LO lt){a:Addr}{us:List (K×Addr)}{n:Nat}{P:LH->Ac->Prop}(κ:DB)(ho:s.heap.get? a=some (C3 "list" (rfs us).toArray n))(na:(us.map (·.2)).Nodup)(nd:(us.map (·.1)).Nodup)(hz:us.length<=1000000)
 (U:∀M:Heap,(∀b o,b≠a->s.heap.get? b=some o->M.get? b=some o)->0<us.length->∀Q:DB->Ac->Prop,Q κ { s with heap:=M }->Al (A6 prog w) A (keyKind' (rfs us).toArray) Q E { s with heap:=M })
 (q4:∀M:Heap,(∀b o,b≠a->s.heap.get? b=some o->M.get? b=some o)->∀x∈us,∀y∈us,∀Q:Bool->Ac->Prop,Q (lt x.1 y.1) { s with heap:=M }->Al (A6 prog w) A (keyLt' κ (.ref x.2) (.ref y.2)) Q (λ_ _=>False) { s with heap:=M })
 (h:∀l:List (K×Addr),l.Perm us->(l.Pairwise λx y=>lt x.1 y.1=true)->P (.done (.ret .none)) { s with heap:=JN s.heap a (rfs us) (rfs l).toArray }) :
 Al (A6 prog w) A (Cz.«list.sort» ⟨[.ref a],[]⟩) P E s:=by
 rw[list_sort_plain];have ha:a<s.heap.objs.size:=Am ho;have q1:(rfs us).length=us.length:=by rw[lM]
 refine Aa (K8 ho rfl ?_);refine Aa (Dr ho rfl ?_ (by rw[Af,BB];omega) (AL _));obtain⟨e1,q2⟩:∃e1,(s.heap.update a (BD λ_=>(#[]:Array Value))).get? a=some (C3 "list" #[] e1):=⟨_,DD ho λ_=>#[]⟩
 refine Aa (Jf q2 rfl ?_);refine Aa (JE ?_ (by show(rfs us).length<=_;rw[BB];omega));refine Aa (Hu ?_ (AL _));refine Br ?_;have keep:∀b o,b≠a->s.heap.get? b=some o->(((s.heap.update a (BD λ_=>(#[]:Array Value))).push (C3 "tuple" (rfs us).toArray 0)).push (C3 "list" #[] 0)).get? b=some o:=λb o hb e=>Ab _ (Ab _ (by rw[Cj _ _ _ _ hb];exact e));have I:(((s.heap.update a (BD λ_=>(#[]:Array Value))).push (C3 "tuple" (rfs us).toArray 0)).push (C3 "list" #[] 0)).get? a=some (C3 "list" #[] e1):=Ab _ (Ab _ q2);show Al (A6 prog w) A _ P E { s with heap:=((s.heap.update a (BD λ_=>(#[]:Array Value))).push (C3 "tuple" (rfs us).toArray 0)).push (C3 "list" #[] 0) };dsimp only;have W:∀l:List (K×Addr),l.Perm us->(l.Pairwise λx y=>lt x.1 y.1=true)->∀out:Array Value,out=(rfs l).toArray->P (.done (.ret .none)) { s with heap:=JN s.heap a (rfs us) out }:=λl a b out e=>e▸h l a b;by_cases G:(rfs us).toArray.size<2;rw[if_pos G,if_pos G];refine Aa (Ad ?_);rw[StateT.run_pure];refine Aa (Ad ?_);dsimp only;refine Aa (Jf I rfl ?_);refine Aa (Dr I rfl ?_ (AL _) (by rw[Array.size_map];show(pairsOf (rfs us)).size<=_;rw[pairsOf_size,BB];omega));simp only[bne_self_eq_false,bF,if_false];refine Ad (W us (Cf _) ?_ _ ?_)
 . rw[Af,q1] at G
   match us,G with
   | [],_=>exact .nil|[x],_=>exact B9 _ _|_::_::_,G=>simp at G;omega
 apply Ec.mp;show((pairsOf (rfs us)).map (·.2)).toList=_;rw[EG,pairsOf_toList];exact List.map_snd_zip (Ah _);rw[if_neg G,if_neg G];have q7:2<=us.length:=by rw[Af,q1] at G;omega
 refine Aa (U _ keep (by omega) _ ?_);have e0:((rfs us).toArray.zip (rfs us).toArray).toList=us.map λx=>(A9 x.2,A9 x.2):=by rw[Array.toList_zip,Ei];unfold rfs;rw[List.zip_map']
 have q3:∀x∈us,us.find? (λy=>y.2==x.2)=some x:=λx B=>aAX na B;have rv:∀x∈us,rOf lt us (A9 x.2,A9 x.2)=rk lt (us.map (·.1)) x.1:=λx B=>by unfold rOf;dsimp only;rw[q3 x B]
 have C:Ts.Cmp (A6 prog w) A E { s with heap:=((s.heap.update a (BD λ_=>(#[]:Array Value))).push (C3 "tuple" (rfs us).toArray 0)).push (C3 "list" #[] 0) } κ (λp=>∃x∈us,p=(A9 x.2,A9 x.2)) (rOf lt us):=by rintro _ _ ⟨x,B,rfl⟩ ⟨y,hy,rfl⟩ st Q hk q;rw[rv x B,rv y hy,aIV L (ks:=us.map (·.1)) (x:=x.1) (y:=y.1) (Ax.mpr ⟨x,B,rfl⟩) (Ax.mpr ⟨y,hy,rfl⟩)] at q;rw[lt'_eq];refine An (Fd ?_);rw[hk];refine An (FU (Ek (CQ (q4 _ keep x B y hy (λb s'=>s'=_/\b=lt x.1 y.1) ⟨rfl,rfl⟩) (λb s' z=>⟨z.1,z.2▸Ay q⟩) λ_ _ z=>z.elim)))
 have hsz:((rfs us).toArray.zip (rfs us).toArray).size=us.length:=by rw[<-AK,e0,lM]
 refine Aa (CQ (Ts.wpS_sortRuns (r:=rOf lt us) C (st:=JH κ ((rfs us).toArray.zip (rfs us).toArray) #[] 7 none) (Q:=λ_ st'=>DV st'=none/\∃l:List (K×Addr),l.Perm us/\(l.Pairwise λx y=>lt x.1 y.1=true)/\(arrOf st').map (·.2)=(rfs l).toArray) rfl rfl rfl (λi p hp=>?_) ?_ λst' pm hf sg=>⟨hf,?_⟩) ?_ λ_ _ e=>e);have:p∈((rfs us).toArray.zip (rfs us).toArray).toList:=DX.mpr (DH hp);rw[e0] at this;obtain⟨x,B,rfl⟩:=Ax.mp this;exact⟨x,B,rfl⟩;show(((rfs us).toArray.zip (rfs us).toArray).toList.map (rOf lt us)).Nodup;rw[e0,A7];have:us.map (rOf lt us∘λx=>(A9 x.2,A9 x.2))=(us.map (·.1)).map (rk lt (us.map (·.1))):=by rw[A7];exact CB λx B=>rv x B
 rw[this];exact(Dj.mpr (Kj (λ{x y} B hy q5 e=>q5 (by
  by_cases q:x=y;exact q;cases c:lt x y with
  | true=>have:=sK L c B;omega|false=>have:=sK L (L.tot q c) hy;omega)) nd))
 obtain⟨l,u1,u2⟩:=nC (pm.trans (Jl (show(arrOf (JH κ ((rfs us).toArray.zip (rfs us).toArray) #[] 7 none)).toList=_ from rfl))) (xs:=us) (f:=λx=>(A9 x.2,A9 x.2)) e0;refine⟨l,u1,?_,?_⟩;have q6:(arrOf st').size=l.length:=by rw[<-AK,u2,lM]
 refine B0.mpr λi j hi hj q0=>?_;have at':∀i (hi:i<l.length),(arrOf st')[i]? = some (A9 l[i].2,A9 l[i].2):=λi hi=>by rw[<-AT,u2,A2,Ae hi];rfl
 have q:=sg i j (AL _) (Cy q0) (by show j<((rfs us).toArray.zip (rfs us).toArray).size;rw[hsz,<-u1.length_eq];exact hj);have mi:=u1.mem_iff.mp (AG hi);have mj:=u1.mem_iff.mp (AG hj);rw[Ts.kr_at (at' i hi),Ts.kr_at (at' j hj),rv _ mi,rv _ mj] at q;have ne:l[i].1≠l[j].1:=by have:=B0.mp ((u1.map (·.1)).nodup_iff.mpr nd) i j (by simpa using hi) (by simpa using hj) q0;simpa using this
 cases c:lt l[i].1 l[j].1 with
 | true=>rfl|false=>have:=sK L (L.tot ne c) (ks:=us.map (·.1)) (Ax.mpr ⟨_,mj,rfl⟩);omega
 apply Ec.mp;rw[EG,u2,A7];rfl;rintro ⟨⟨⟩,st'⟩ s' ⟨rfl,hf,l,g1,g2,g3⟩;dsimp only;refine Aa (Jf I rfl ?_);refine Aa (Dr I rfl ?_ (AL _) (by rw[g3,Af,lM,g1.length_eq,BB];omega));rw[hf];simp only[bne_self_eq_false,bF,if_false];exact Ad (W l g1 g2 _ g3)
end
set_option maxRecDepth 100000
section
variable {prog:A0} {w:AN} {A:AQ} {E:Value->Ac->Prop} {s:Ac}
abbrev IsT(prog:A0)(w:AN)(h:Heap)(k:List Int)(a:Addr):Prop:=JA (CD prog w) h k a
abbrev IsN(prog:A0)(w:AN)(h:Heap)(k:List (List Int))(a:Addr):Prop:=dQ (Cm (CD prog w)) h k a
theorem aDM(n:Nat){v:Value}(h:DT v=true):Cg n v=pure false:=by
 cases v with
 | ref a=>simp[DT] at h|_=>first|rfl|simp[Cg]|(unfold Cg;rfl)
theorem aDN{n:Nat}{k:List Int}{a:Addr}{Q:Bool->Ac->Prop}(I:IsT prog w s.heap k a)(h:Q false s):Al (A6 prog w) A (Cg (n+1) (.ref a)) Q E s:=by have L:=I.typeIs;obtain⟨o,items,n,M,_,hd,hi⟩:=I;unfold Cg;refine Aa (De L ?_);dsimp only;rw[if_pos (by decide +kernel)];refine Aa (Ad ?_);rw[if_neg (by decide)];refine Aa (Bv M hd ?_);dsimp only;rw[<-Cp];refine Aa (BH _ (λrest r G=>r.1=none/\G=s/\∀v∈rest,DT v=true) _ ?_ ?_ _ _ ⟨rfl,rfl,hi.byValue⟩);rintro v rest r G ⟨q,rfl,l⟩;rw[aDM _ (l v Ak)];refine Aa (Ad ?_);rw[if_neg (by decide)];exact Ad ⟨rfl,rfl,λu B=>l u (Ag _ B)⟩;rintro ⟨U,W⟩ G ⟨q,rfl,_⟩;simp only at q;subst q;exact Ad h
theorem aDO{k:List (List Int)}{a:Addr}{Q:Bool->Ac->Prop}(G:IsN prog w s.heap k a)(h:Q false s):Al (A6 prog w) A (Cg 8 (.ref a)) Q E s:=by
 have L:=G.typeIs;obtain⟨o,items,n,U,_,hd,hi⟩:=G;unfold Cg;refine Aa (De L ?_);dsimp only;rw[if_pos (by decide +kernel)];refine Aa (Ad ?_);rw[if_neg (by decide)];refine Aa (Bv U hd ?_);dsimp only;rw[<-Cp];refine Aa (BH _ (λrest r B=>r.1=none/\B=s/\∃ks',bJ (Cm (CD prog w)) s.heap ks' rest) _ ?_ ?_ _ _ ⟨rfl,rfl,k,hi⟩);rintro v rest r B ⟨q,rfl,ks',M⟩;cases M with
 | cons I l=>refine Aa (aDN (n:=6) I ?_);rw[if_neg (by decide)];exact Ad ⟨rfl,rfl,_,l⟩
 rintro ⟨W,r2⟩ B ⟨q,rfl,_⟩;simp only at q;subst q;exact Ad h
theorem aHo{k:Int}{v:Value}(h:(CD prog w).is k v=true):∃t,v=.int k t:=by change IY k v=true at h;cases v <;> simp[IY] at h;exact⟨_,by rw[h]⟩
theorem aIW{n:Nat}{k:List Int}{a:Addr}{Q:Bool->Ac->Prop}(G:IsT prog w s.heap k a)(h:Q true s):Al (A6 prog w) A (Et (n+1) (.ref a)) Q E s:=by
 have M:=G.typeIs;obtain⟨o,items,W,U,_,hd,hi⟩:=G;unfold Et;refine Aa (C9 M FW.lookup ?_);dsimp only;refine Aa (Bv U hd ?_);dsimp only[Dw];rw[<-Cp];refine Aa (BH _ (λrest r B=>r.1=none/\B=s/\∃ks,ItemsAre (CD prog w) ks rest) _ ?_ ?_ _ _ ⟨rfl,rfl,_,hi⟩);rintro v rest r B ⟨q,rfl,ks,l⟩;cases l with
 | cons I L=>obtain⟨tk,rfl⟩:=aHo I;rw[show Et n (.int _ tk)=pure true by unfold Et;cases n <;> rfl];refine Aa (Ad ?_);rw[if_neg (by decide)];exact Ad ⟨rfl,rfl,_,L⟩
 rintro ⟨r1,r2⟩ B ⟨q,rfl,_⟩;simp only at q;subst q;exact Ad h
theorem aIX{k:List (List Int)}{a:Addr}{Q:Bool->Ac->Prop}(G:IsN prog w s.heap k a)(h:Q true s):Al (A6 prog w) A (Et 8 (.ref a)) Q E s:=by
 have L:=G.typeIs;obtain⟨o,items,W,U,_,hd,hi⟩:=G;unfold Et;refine Aa (C9 L FW.lookup ?_);dsimp only;refine Aa (Bv U hd ?_);dsimp only[Dw];rw[<-Cp];refine Aa (BH _ (λrest r B=>r.1=none/\B=s/\∃ks',bJ (Cm (CD prog w)) s.heap ks' rest) _ ?_ ?_ _ _ ⟨rfl,rfl,k,hi⟩);rintro v rest r B ⟨q,rfl,ks',M⟩;cases M with
 | cons I l=>refine Aa (aIW (n:=6) I ?_);rw[if_neg (by decide)];exact Ad ⟨rfl,rfl,_,l⟩
 rintro ⟨r1,r2⟩ B ⟨q,rfl,_⟩;simp only at q;subst q;exact Ad h
theorem IsT.keep{h h':Heap}{k:List Int}{a:Addr}(q:IsT prog w h k a)(e:∀b o,h.get? b=some o->h'.get? b=some o):IsT prog w h' k a:=by obtain⟨o,l,n,B,r⟩:=q;exact⟨o,l,n,e _ _ B,r⟩
theorem sL{h h':Heap}(e:∀b o,h.get? b=some o->h'.get? b=some o):∀{ks:List (List Int)} {vs:List Value},bJ (Cm (CD prog w)) h ks vs->bJ (Cm (CD prog w)) h' ks vs
 | _,_,.nil=>.nil|_,_,.cons q r=>.cons (IsT.keep q e) (sL e r)
noncomputable def iA(prog:A0)(w:AN):SK prog w (List (List Int)):={ oR (CD prog w) with
 noCl:=λha h=>aDO ha h
 byV:=λha h=>aIX ha h
 keepT:=λ{h h' k a} q e=>by
  obtain⟨o,its,n,ho,hc,hd,hi⟩:=q;exact⟨o,its,n,e _ _ ho,hc,hd,sL e hi⟩ }
theorem uL:∀{ks:List Int} {vs:List Value},ItemsAre (CD prog w) ks vs->Ez vs ks
 | _,_,.nil=>.nil|_,_,.cons h1 h2=>by obtain⟨t,rfl⟩:=aHo h1;exact .cons _ _ (uL h2)
theorem aGi(L:A.units+10<Dz){Q:Bool->Ac->Prop}{ks:List (List Int)}{vs:List Value}(hv:bJ (Cm (CD prog w)) s.heap ks vs):∀{I:List (List Int)} {us:List Value} (L:bJ (Cm (CD prog w)) s.heap I us) (i:Nat) (l:Bool),l=decide (vs.length<us.length)->Q (lexN ks I) s->KatLex prog w A false l Q (vs.zip us) i s:=by
 induction hv with
 | nil=>
  intro I us L i l G q;cases L with
  | nil=>rw[G];exact q|cons _ _=>rw[G];exact q
 | @cons k a ks vs h1 _ ih=>
  intro I us B i l G q;cases B with
  | nil=>rw[G];exact q|@cons j b I us h2 B=>rw[AE];refine kat_cons ((Cm (CD prog w)).eqBool (show A.units<Dz by omega) h1 h2 ?_);unfold lexN lexG at q;by_cases c:k=j;rw[if_pos c] at q;rw[A8 c];exact kat_yes (ih B (i+1) l (by rw[G,lC,lC];simp) q);rw[if_neg c] at q;rw[Az c];refine kat_no ?_;obtain⟨o1,i1,n1,M,U,W,g4⟩:=h1;obtain⟨o2,i2,n2,f1,f2,f3,f4⟩:=h2;refine kat_one _ _ (HT.lt_tupInts ⟨o1,M,U,n1,W⟩ ⟨o2,f1,f2,n2,f3⟩ (uL g4) (uL f4) (by omega) ?_);rw[aAW];exact q
theorem aNz(I:A.units+10<Dz){x y:List (List Int)×Addr}{Q:Bool->Ac->Prop}(L:IsN prog w s.heap x.1 x.2)(M:IsN prog w s.heap y.1 y.2)(h:Q (lexN x.1 y.1) s):Al (A6 prog w) A (keyLt' (L7 false) (.ref x.2) (.ref y.2)) Q E s:=by obtain⟨o,U,n,G,_,hd,hi⟩:=L;obtain⟨o',its',W,B,_,l,q⟩:=M;exact kat_lt G hd B l (aGi I hi q 0 _ (by rw[AK,AK]) h)
theorem aDP:∀{us:List (List (List Int)×Addr)},(∀x∈us,IsN prog w s.heap x.1 x.2)->(∀x∈us,x.1≠[])->∃fs:List Value,KatTups s.heap (us.map λx=>A9 x.2) fs/\fs.length=us.length/\∀v∈fs,∃k a,v=A9 a/\IsT prog w s.heap k a
 | [],_,_=>⟨[],KatTups.nil,rfl,λv hv=>by simp at hv⟩
 | x::us,h,hne=>by
  obtain⟨fs,L,M,U⟩:=aDP (us:=us) (λy B=>h y (Ag _ B)) (λy B=>hne y (Ag _ B));obtain⟨o,G,n,ho,W,hd,hi⟩:=h x Ak;cases I:x.1 with
  | nil=>exact absurd I (hne x Ak)|cons k ks=>
   rw[I] at hi;cases q:G.toList with
   | nil=>rw[q] at hi;cases hi|cons v vs=>
    rw[q] at hi;cases hi with
    | @cons _ a _ _ g1 g2=>refine⟨.ref a::fs,KatTups.cons ho W hd (by rw[<-AT,q];rfl) L,by rw[lC,lC,M],λu l=>?_⟩;rcases Au.mp l with rfl|l;exact⟨k,a,rfl,g1⟩;exact U u l
theorem aIY{us:List (List (List Int)×Addr)}(h:∀x∈us,IsN prog w s.heap x.1 x.2)(l:∀x∈us,x.1≠[])(hl:0<us.length){Q:DB->Ac->Prop}(L:Q (L7 false) s):Al (A6 prog w) A (keyKind' (us.map λx=>A9 x.2).toArray) Q E s:=by obtain⟨fs,q,W,B⟩:=aDP h l;refine kat_kind (T:=.type "tuple") q (by omega) (λv M=>?_) (by decide) L;obtain⟨k,a,rfl,o,U,n,I,G,_⟩:=B v M;have:Looks (A6 prog w) s.heap (typeOf (.ref a)) o.cls:=(Looks.ld I).andThen .now;rwa [G] at this
abbrev KN:=List (List Int)×Addr
theorem aAY:∀{us:List KN},(∀x∈us,IsN prog w s.heap x.1 x.2)->(us.map (·.1)).Nodup->(us.map (·.2)).Nodup
 | [],_,_=>Fm|x::us,h,nd=>by rw[mC,B2] at nd ⊢;refine⟨λq=>?_,aAY (λy l=>h y (Ag _ l)) nd.2⟩;obtain⟨y,l,e⟩:=Ax.mp q;have B:=h y (Ag _ l);rw[e] at B;exact nd.1 (Ax.mpr ⟨y,l,B.inj (h x Ak)⟩)
theorem nD(hu:A.units+10<Dz){a:Addr}{us:List KN}{n:Nat}{P:LH->Ac->Prop}(ho:s.heap.get? a=some (C3 "list" (rfs us).toArray n))(hK:∀x∈us,IsN prog w s.heap x.1 x.2)(W:∀x∈us,x.1≠[])(nd:(us.map (·.1)).Nodup)(hz:us.length<=1000000)
 (h:∀B:List KN,B.Perm us->(B.Pairwise λx y=>lexN x.1 y.1=true)->P (.done (.ret .none)) { s with heap:=JN s.heap a (rfs us) (rfs B).toArray }) :
 Al (A6 prog w) A (Cz.«list.sort» ⟨[.ref a],[]⟩) P E s:=by
 have kp:∀l:Heap,(∀b o,b≠a->s.heap.get? b=some o->l.get? b=some o)->∀x∈us,IsN prog w l x.1 x.2:=λl e x I=>by
  obtain⟨o,G,n',L,M,g3,U⟩:=hK x I;have tup:∀b o',s.heap.get? b=some o'->o'.cls=.type "tuple" -> b≠a:=λb o' q q' z=>by subst z;rw[ho] at q;cases q;exact absurd (show Ff "list" = Ff "tuple" from q') (by decide)
  refine⟨o,G,n',e _ _ (tup _ _ L M) L,M,g3,?_⟩;clear L M g3 I;generalize G.toList=vs at U;generalize x.1=ks at U
  induction U with
  | nil=>exact .nil|cons q _ ih=>obtain⟨o',its',q0,f1,f2,f3⟩:=q;exact .cons ⟨o',its',q0,e _ _ (tup _ _ f1 f2) f1,f2,f3⟩ ih
 exact xM iT (L7 false) ho (aAY hK nd) nd hz (λl e hl Q q=>aIY (s:={ s with heap:=l }) (kp l e) W hl q) (λl e x I y hy Q q=>aNz (s:={ s with heap:=l }) hu (kp l e x I) (kp l e y hy) q) h
theorem xN{S:Addr}{us:List KN}{Q:Value->Ac->Prop}(hh:A.handled=none)(hu:A.units+20<Dz)(hS:aIS (iA prog w) s.heap S us)(hK:∀x∈us,IsN prog w s.heap x.1 x.2)(q1:∀x∈us,x.1≠[])
 (h:∀(h':Heap) (tk:Nat) (L:Addr) (xs:List KN) (n:Nat),s.heap.objs.size<=L->(∀b o,s.heap.get? b=some o->h'.get? b=some o)->h'.get? L=some (C3 "list" (rfs xs).toArray n)->(∀x∈xs,x∈us)->(∀y∈us,y.1∈xs.map (·.1))->(xs.Pairwise λx y=>lexN x.1 y.1=true)->Q (.ref L) { s with heap:=h',toks:=tk }) :
 Al (A6 prog w) A (call (.builtin "sorted") [.ref S]) Q E s:=by
 obtain⟨xs,m,ps,ds,mv,ep,T,ho,r1,r2⟩:=hS;refine F5 Ld K9 KA (KB _) ?_;unfold Cz.«sorted»;refine Aa (m:=checkCount "sorted" 1 1 _) (Ad ?_);refine Aa (aDL hh T ho λs' acc hk q2 M=>?_);obtain⟨q0,tk,I,rfl⟩:=q2;obtain⟨ys,U,y2⟩:=nC (f:=λx:KN=>((iA prog w).hash x.1,A9 x.2)) (xK w S ep (sen (iA prog w) xs)) (xs:=xs) (by unfold sen;rw[Ei]);have l:acc=rfs ys:=by rw[M,y2,A7];rfl
 subst l;have hl:ys.length<=5000:=by rw[U.length_eq,<-T.len];have:=T.lt;have:=T.m2.le;omega
 refine Aa (Hu ?_ (by rw[lM,BB];omega));have B:(I.push (C3 "list" (rfs ys).toArray 0)).get? I.objs.size=some (C3 "list" (rfs ys).toArray 0):=Ao _ rfl;have W:∀x∈ys,x∈us:=λx G=>r1 x (U.mem_iff.mp G);refine Aa (Br (Bb (s:={ s with heap:=I.push (C3 "list" (rfs ys).toArray 0),toks:=tk }) JO ⟨_,B,rfl⟩ Jq (nD (by show A.units+1+1+10<Dz;omega) B (λx G=>(iA prog w).keepT (hK x (W x G)) λb o e=>Ab _ (hk b o e)) (λx G=>q1 x (W x G)) ((U.map _).nodup_iff.mpr T.nd) (by omega) λzs z1 z2=>⟨_,rfl,?_⟩) (JP _)));obtain⟨n,hL⟩:=Kk (out:=(rfs zs).toArray) B;refine Ad ⟨_,rfl,h _ _ I.objs.size zs n (Cy q0) (λb o q=>?_) hL (λx G=>W x (z1.mem_iff.mp G)) (λy hy=>(z1.map _).mem_iff.mpr ((U.map _).mem_iff.mpr (r2 y hy))) z2⟩;have hb:b<I.objs.size:=Am (hk b o q);rw[JQ (A4 hb) (by rw[HL];exact B8 hb)];exact Ab _ (hk b o q)
end
set_option maxRecDepth 100000
set_option maxHeartbeats 4000000
section
variable {prog:A0} {w:AN} {A:AQ} {E:Value->Ac->Prop} {s:Ac} {it d:Addr} {i ep:Nat} {o:Obj} {es:Array DE}
theorem aLq{Q:Value->Ac->Prop}(hd:(d==CP)=false)(B:s.heap.get? d=some o)(I:o.ExactDict)(l:o.data=.dict es ep)
 (G:Q (.ref s.heap.objs.size) { s with heap:=s.heap.push { cls:=.type "dict_keyiterator",data:=.fields #[.ref d,.int 0 0,.int es.size 0,.int ep 0] } }):Al (A6 prog w) A (H0 (.ref d)) Q E s:=by
 have q:s.TypeIs (.ref d) "dict" := ⟨o,B,I.1⟩
 refine FE q Gz (Bb Gz q PySem.F.entry_dict_iter ?_ (PySem.F.args_dict_iter_1 _));unfold Cz.«dict.__iter__»;refine Aa ?_;unfold JV;refine Aa (wpAny_notOrdered_dict q ?_);show Al _ _ (pure (A9 d)) _ _ s;refine Ad ?_;show Al _ _ (GC d >>= _) _ _ s;unfold GC;rw[if_neg (by rw[hd];exact bN)];refine Aa (Ad (Aa (IA B l (Aa (Jr B l ?_)))));exact Aa (Bd (Ad ⟨_,rfl, "dict_keyiterator",_,⟨_,Ao _ rfl,rfl⟩,CV.lookup,G⟩))
theorem aHp{Q:Option Value->Ac->Prop}(hh:A.handled=none)(l:s.heap.IsKeyIter it d i es.size ep)(L:s.heap.get? d=some o)(B:o.data=.dict es ep)
 (U:∀e h',es[i]? = some e->h'.IsKeyIter it d (i+1) es.size ep->CF it s.heap h'->Q (some e.key) { s with heap:=h' })
 (W:∀h',es.size<=i->GP it s.heap h'->Q none { s with heap:=h' }):Al (A6 prog w) A (Ex (.ref it)) Q E s:=by
 obtain⟨oi,M,hc,hd⟩:=id l;unfold Ex;refine Aa (Ek (Bl (name:=Dd "__next__") l.typeIs CV (Bb CV l.typeIs PySem.F.entry_dict_keyiterator_next ?_ (PySem.F.args_dict_keyiterator_next_1 _))));refine Aa (Ad (Aa (Aa ?_)));refine Aa (D1 l.typeIs (Ad ?_));refine Aa (GX M hd ?_);simp only[show Js "dict_keyiterator" = false by decide,bF,if_false];show Al _ _ (if (A9 d==B5)=true then _ else _) _ _ s;rw[if_neg (show ¬ ((A9 d==B5)=true) from bN)];refine Aa (Ad (Aa (IA L B ?_)));rw[if_neg (by simp)];refine Aa (Ad (Aa (Jr L B ?_)));rw[if_neg (by simp)];refine Ad ?_;rcases BU i es.size with I|G;simp only[show ¬ ((i:Int)<0) from by omega,if_false,Bx,AO I];refine Aa (Aa (D1 l.typeIs (Ad ?_)));refine Aa (GD l.typeIs ?_);show Al _ _ (setField (.ref it) 1 (C0 ((i:Int)+1)) >>= _) _ _ s;refine Aa (Fo M hd (by simp) ?_);have q:(s.heap.update it (Kl (·.setIfInBounds 1 (C0 ((i:Int)+1))))).IsKeyIter it d (i+1) es.size ep:=
  ⟨_,DG _ M (G9 (En hd _)),(Il ..).trans hc,by rw[En hd];simp[C0]⟩
 refine Aa (Br ?_);refine Aa (GD (s:={ s with heap:=s.heap.update it (Kl (·.setIfInBounds 1 (C0 ((i:Int)+1)))) }) q.typeIs ?_);show Al _ _ (pure es[i].key) _ _ _;exact Ad (Ad ⟨_,rfl,Ad (U es[i] _ (AO I) q (Ci ..))⟩);simp only[show ¬ ((i:Int)<0) from by omega,if_false,Bx,Gx G];refine Aa (Aa (D1 l.typeIs (Ad ?_)));show Al _ _ (setField (.ref it) 0 .none >>= _) _ _ s;refine Aa (Fo M hd (by simp) ?_);show Al _ _ (JD (.type "StopIteration") [] >>= _) _ _ _;refine Aa ?_;simp only[JD,KY];refine Aa (Bd ?_ (by size_fits));refine Aa (m:=DU _ _) (GQ (a:=B5) (by first|rfl|(simp only[DU];rfl)) ?_);refine Bd ?_ (by size_fits);simp only[KZ];refine Aa (Hm ?_);rw[show A.in1.handled=none from hh];refine Aa (Ad (Jd ?_));refine Aa (Cr (T:= "StopIteration") (b:=true) ⟨_,Ao _ rfl,rfl⟩ GU ?_);exact Ad (W _ G (((Ci ..).extBut.push _).push _))
theorem aIZ(hh:A.handled=none)(I d:Addr)(W:d≠I)(B:o.data=.dict es ep):Walks prog w A I [I,d] [I] es.size (λi v=>∃e,es[i]? = some e/\v=e.key) (λi h=>h.IsKeyIter I d i es.size ep/\h.get? d=some o) where
 sub:=λb l=>by simp at l;simp[l]
 frame:=λ_ _ _ st hk=>⟨st.1.at λo e=>hk I (by simp) o e,hk d (by simp) o st.2⟩
 item:=λi s Q E hi st q=>aHp hh st.1 st.2 B (λe h' M G L=>q e.key h' s.toks ⟨e,M,rfl⟩ ⟨G,by rw[L.2 d W];exact st.2⟩ λb o l e=>L.extBut b o (λh=>l (by simp[h])) e) λh' z=>absurd hi (by omega)
 done:=λs Q E st q=>aHp hh st.1 st.2 B (λe h' M=>absurd (Ce.mp M).1 (AY _)) λh' _ U=>q h' s.toks λb o l e=>U b o (λh=>l (by simp[h])) e
 self:=λ_ _ _ _ st q=>wpAny_pyIter_keyiter st.1 q
theorem aDQ{R:GI->Ac->Prop}{S D:Addr}{l:Nat}{o:Obj}{es:Array DE}{ep:Nat}(hh:A.handled=none)(hz:es.size<=5000)(hn:(D==CP)=false)(G:D≠S)(hS:s.heap.get? S=some (C3 "list" #[] l))(g1:s.heap.get? D=some o)(g2:o.ExactDict)(g3:o.data=.dict es ep)
 (hR:∀h' tk L,(∀b o',b≠S->s.heap.get? b=some o'->h'.get? b=some o')->h'.get? S=some (C3 "list" (es.map (·.key)) L)->R (.ok (.ret .none)) { s with heap:=h',toks:=tk }) :
 Al (A6 prog w) A.in1 (CL (.ref S) (.ref D) .none)
  (λq5 B=>match q5 with|.done f=>R (.ok f) B|.again L=>L.quiet=true/\EH (A6 prog w) A L R B) (λe B=>R (.error e) B) s:=by
 have ty:∀{B:Ac},B.heap.get? D=some o->B.TypeIs (.ref D) "dict" := λq=>⟨_,q,g2.1⟩
 have q6:D<s.heap.objs.size:=Am g1;have q1:S<s.heap.objs.size:=Am hS;have h1:Dq (.ref S) (.ref D)=false:=by simp only[Dq,beq_eq_false_iff_ne];exact DI G
 unfold CL;refine Aa (De (ty g1) ?_);rw[if_neg (by rw[h1];decide)];refine Aa (aLq hn g1 g2 g3 ?_);generalize hI:({ cls:=Ff "dict_keyiterator",data:=Ja #[A9 D,FO 0 0,FO (es.size:Int) 0,FO (ep:Int) 0] }:Obj)=oI;refine Aa (Br ?_);have q4:(s.heap.push oI).get? D=some o:=Ab _ g1;have I:FM { s with heap:=s.heap.push oI } (.ref D) "dict" := ty q4;unfold Fe;refine Aa (C9 I PySem.F.slot_dict_len.lookup ?_);generalize q3:("dict.__len__" : String)=id0
 wp_delta
 rw[show splitId id0=some ("dict", "__len__") from by subst q3;decide +kernel];subst q3;refine Aa (Cr (b:=true) I (by rw[Fz];kernel_rfl) ?_);rw[if_neg (by decide)];dsimp only;rw[if_pos (by decide +kernel)];refine Aa (De I ?_);refine Ad ?_;rw[if_pos (by decide +kernel)];refine Aa (Cq ?_);unfold Gy;have W:(s.heap.push oI).get? S=some (C3 "list" #[] l):=Ab _ hS;refine Aa (Aa (Dr (f:=λx=>x.push B5) W rfl ?_));have q0:=DD (c:= "list") (xs:=#[]) (n:=l) W (λx=>x.push B5);refine Dr (f:=λx=>x.pop) q0 rfl ?_;have q8:=DD q0 (λx=>x.pop);have q7:(s.heap.push oI).get? s.heap.objs.size=some oI:=Ao _ (by rw[<-hI];rfl);have keep:∀b o,b≠S->(s.heap.push oI).get? b=some o->(((s.heap.push oI).update S (BD λx=>x.push B5)).update S (BD λx=>x.pop)).get? b=some o:=λb o hb e=>by rw[Cj _ _ _ _ hb,Cj _ _ _ _ hb];exact e
 have w1:D≠s.heap.objs.size:=A4 q6;have w3:S∉[s.heap.objs.size,D]:=λM=>by rcases Au.mp M with z|z;exact A4 q1 z;exact G (Ai.mp z).symm
 refine Ad ⟨EK Hg _,GY (aIZ (A:=A.in1) hh s.heap.objs.size D w1 g3).toS (AC hz (by decide)) _ w3 _ es.size 0 _ #[] _ (Gp _) (AL _) ⟨⟨oI,keep _ _ (DI (A4 q1)) q7,by rw[<-hI],by rw[<-hI];rfl⟩,keep _ _ G q4⟩ q8 (Lc _) λB U L M q9 q2=>?_⟩;have w4:U=es.map (·.key):=by have e:=sJ (P:=λi v=>∃e,es[i]? = some e/\v=e.key) (od:=es.toList.map λe=>(e.hash,e.key)) (λi v ⟨e,he,hv⟩=>⟨_,by rw[A2,AT,he];rfl,hv⟩) q2 (by rw[lM,AK]);apply Ec.mp;rw[e,A7,EG];rfl
 obtain⟨h',g',d',w7,w6⟩:=B;have eg:g'=s.gens:=M.gens;have ed:d'=s.drawn:=M.drawn;have eo:w6=s.os:=M.os;subst eg;subst ed;subst eo;refine hR h' w7 L (λb o hb e=>?_) (by rw[<-w4];exact q9);have w5:b<s.heap.objs.size:=Am e;refine M.heap b o (λz=>?_) (keep b o hb (Ab _ e));rcases Au.mp z with z|z;exact hb z;exact A4 w5 (Ai.mp z)
end
section
variable {prog:A0} {w:AN} {A:AQ} {E:Value->Ac->Prop} {s:Ac}
theorem aCc{D:Addr}{o:Obj}{es:Array DE}{ep:Nat}{Q:Value->Ac->Prop}(hh:A.handled=none)(hz:es.size<=5000)(hn:(D==CP)=false)(U:s.heap.get? D=some o)(W:o.ExactDict)(g3:o.data=.dict es ep)
 (hQ:∀h' tk L,(∀b o',s.heap.get? b=some o'->h'.get? b=some o')->h'.get? s.heap.objs.size=some (C3 "list" (es.map (·.key)) L)->Q (.ref s.heap.objs.size) { s with heap:=h',toks:=tk }) :
 Al (A6 prog w) A (call (.type "list") [.ref D]) Q E s:=by
 have q:D≠s.heap.objs.size:=λe=>AY _ (e▸Am U);refine callType_codes (Q₁:=λobj l=>obj=.ref s.heap.objs.size/\l={ s with heap:=s.heap.push { cls:=.type "list",data:=.seq #[] } }) F.called_list (F.typeCall_list_1 _) F.entry_list_init
  (code_list_new _ ⟨rfl,rfl⟩) λobj l B=>?_
 obtain⟨rfl,rfl⟩:=B;have G:(s.heap.push { cls:=.type "list",data:=.seq #[] }).get? s.heap.objs.size=some { cls:=.type "list",data:=.seq #[] }:=Ao _ rfl;refine⟨⟨_,G,rfl⟩,F.args_list_init_2 _ _,?_⟩;refine Aa (K8 G rfl ?_);refine Aa (Dr G rfl ?_ (AL _) (AL _));refine Aa (GS ?_);have M:=DD (c:= "list") (xs:=#[]) (n:=0) G (λ_=>(#[]:Array Value));have kp:∀b o',b≠s.heap.objs.size->s.heap.get? b=some o'->((s.heap.push { cls:=.type "list",data:=.seq #[] }).update s.heap.objs.size (BD λ_=>(#[]:Array Value))).get? b=some o':=λb o' I e=>by rw[Cj _ _ _ _ I];exact Ab _ e
 refine aDQ (A:=A.in1) (s:={ s with heap:=(s.heap.push { cls:=.type "list",data:=.seq #[] }).update s.heap.objs.size (BD λ_=>(#[]:Array Value)) }) hh hz hn q M (kp D o q U) W g3 λh' tk L k1 k2=>⟨rfl,hQ h' tk L (λb o' e=>?_) k2⟩
 have I:b≠s.heap.objs.size:=A4 (Am e);exact k1 b o' I (kp b o' I e)
theorem uM{l:Addr}{us:List KN}{n:Nat}{Q:Value->Ac->Prop}(hu:A.units+20<Dz)(ho:s.heap.get? l=some (C3 "list" (rfs us).toArray n))(W:∀x∈us,IsN prog w s.heap x.1 x.2)(M:∀x∈us,x.1≠[])(nd:(us.map (·.1)).Nodup)(hz:us.length<=5000)
 (h:∀(h':Heap) (L:Addr) (xs:List KN) (n:Nat),s.heap.objs.size<=L->(∀b o,s.heap.get? b=some o->h'.get? b=some o)->h'.get? L=some (C3 "list" (rfs xs).toArray n)->xs.Perm us->(xs.Pairwise λx y=>lexN x.1 y.1=true)->Q (.ref L) { s with heap:=h' }) :
 Al (A6 prog w) A (call (.builtin "sorted") [.ref l]) Q E s:=by
 refine F5 Ld K9 KA (KB _) ?_;unfold Cz.«sorted»;refine Aa (m:=checkCount "sorted" 1 1 _) (Ad ?_);refine Aa (collect_list (vs:=rfs us) ⟨_,ho,rfl,n,rfl⟩ ?_);refine Aa (Hu ?_ (by rw[lM,BB];omega));generalize G:(s.heap.push (C3 "list" #[] 0)).update s.heap.objs.size (BD (·++(rfs us).toArray))=h1;have hsz:h1.objs.size=s.heap.objs.size+1:=by rw[<-G,Heap.size_update,HL]
 have I:∀b o,s.heap.get? b=some o->h1.get? b=some o:=λb o e=>by rw[<-G,Cj _ _ _ _ (A4 (Am e))];exact Ab _ e
 have B:(h1.push (C3 "list" (rfs us).toArray 0)).get? h1.objs.size=some (C3 "list" (rfs us).toArray 0):=Ao _ rfl;refine Aa (Br (Bb (s:={ s with heap:=h1.push (C3 "list" (rfs us).toArray 0) }) JO ⟨_,B,rfl⟩ Jq (nD (by show A.units+1+1+10<Dz;omega) B (λx hx=>(iA prog w).keepT (W x hx) λb o e=>Ab _ (I b o e)) M nd (by omega) λzs z1 z2=>⟨_,rfl,?_⟩) (JP _)));obtain⟨n',hL⟩:=Kk (out:=(rfs zs).toArray) B;refine Ad ⟨_,rfl,h _ h1.objs.size zs n' (by omega) (λb o q=>?_) hL z1 z2⟩;have U:b<h1.objs.size:=Am (I b o q);rw[JQ (A4 U) (by rw[HL];exact B8 U)];exact Ab _ (I b o q)
end
end L2
noncomputable section
set_option maxHeartbeats 4000000
namespace Hp
open PySem PySem.Spec PyProof.Rows L2
theorem jT{α:Type}{lt:α->α->Bool}(L:LO lt):∀{as bs:List α},as.Pairwise (lt · ·=true)->bs.Pairwise (lt · ·=true)->(∀x,x∈as↔x∈bs)->as=bs
 | [],[],_,_,_=>rfl|[],b::bs,_,_,h=>absurd ((h b).mpr Ak) (by simp)|a::as,[],_,_,h=>absurd ((h a).mp Ak) (by simp)|a::as,b::bs,ha,hb,h=>by
  have B:=Cu.mp ha;have G:=Cu.mp hb;have e:a=b:=by rcases Au.mp ((h a).mp Ak) with q|q;exact q;rcases Au.mp ((h b).mpr Ak) with r|r;exact r.symm;have l:=G.1 a q;rw[L.as (B.1 b r)] at l;cases l
  subst e;rw[jT L B.2 G.2 λx=>?_];constructor;intro q;rcases Au.mp ((h x).mp (Ag _ q)) with rfl|r;have l:=B.1 _ q;rw[L.ir] at l;cases l;exact r;intro q;rcases Au.mp ((h x).mpr (Ag _ q)) with rfl|r;have l:=G.1 _ q;rw[L.ir] at l;cases l;exact r
theorem insN_mem{k x:NK}:∀{ks:List NK},x∈wK k ks↔x=k\/x∈ks
 | []=>by simp[wK]|y::ys=>by unfold wK;split;simp;split;rename_i e;subst e;simp;rw[Au,insN_mem (ks:=ys),Au];constructor;rintro (z|z|z);exact .inr (.inl z);exact .inl z;exact .inr (.inr z);rintro (z|z|z);exact .inr (.inl z);exact .inl z;exact .inr (.inr z)
theorem sM{k:NK}:∀{ks:List NK},ks.Pairwise (lexN · ·=true)->(wK k ks).Pairwise (lexN · ·=true)
 | [],_=>B9 _ _|y::ys,h=>by
  obtain⟨q,G⟩:=Cu.mp h;unfold wK;split;rename_i c;exact Cu.mpr ⟨λz l=>by
   rcases Au.mp l with rfl|l;exact c;exact iT.tr c (q z l),h⟩
  rename_i c;split;exact h;rename_i B;refine Cu.mpr ⟨λz l=>?_,sM G⟩;rcases insN_mem.mp l with rfl|l;exact iT.tot B (by simpa using c);exact q z l
theorem fM{x:NK}:∀{ks:List NK},x∈ssN ks↔x∈ks
 | []=>by simp[ssN]|k::ks=>by show x∈wK k (ssN ks)↔_;rw[insN_mem,fM (ks:=ks),Au]
theorem iB:∀ks:List NK,(ssN ks).Pairwise (lexN · ·=true)
 | []=>.nil|k::ks=>sM (iB ks)
theorem aDR{ks l:List NK}(q:l.Pairwise (lexN · ·=true))(B:∀x,x∈l↔x∈ks):l=ssN ks:=jT iT q (iB ks) λx=>by rw[B,fM]
theorem pX:∀us:List KN,aO (us.map λx=>V.ref x.2) (us.map λx=>A9 x.2)
 | []=>.nil|_::us=>.cons rfl (pX us)
theorem pY:∀{us:List KN} {vs:List Value},aO (us.map λx=>V.ref x.2) vs->vs=us.map λx=>A9 x.2
 | [],_,h=>by cases h;rfl|x::us,_,h=>by
  rw[mC] at h;cases h with
  | cons r t=>cases r;rw[mC,pY t]
section
variable {K:Fg} {H:Hp} {ex:Addr->Prop}
theorem pZ:∀{ds:List D} {ks:List NK} {xs:List V},gK ds=some ks->Reps K H ex ds xs->∃us:List KN,us.map (·.1)=ks/\xs=us.map (λx=>V.ref x.2)/\∀x∈us,cE K H x.1 x.2
 | [],ks,xs,h,r=>by cases h;exact⟨[],rfl,r,λx M=>by cases M⟩|d::ds,ks,xs,h,r=>by
  obtain⟨x,r',e,G,I⟩:=r;subst e;unfold gK at h;split at h;rename_i k js q B;cases h;obtain⟨us,U,rfl,W⟩:=pZ B I;obtain⟨b,rfl,L⟩:=aDp q G;exact⟨(k,b)::us,by rw[mC,U],rfl,λy l=>by
   rcases Au.mp l with rfl|l;exact L;exact W y l⟩
  cases h
theorem sN:∀is:List Int,Reps K H ex (is.map D.int) (is.map V.int)
 | []=>.nil|_::is=>.cons rfl (sN is)
theorem sO:∀{k:NK} {bs:List Addr},CO (λis c=>SqT K H c (is.map V.int)) k bs->Reps K H ex (k.map λt=>D.tup (t.map .int)) (bs.map V.ref)
 | _,_,.nil=>.nil|_,_,.cons h t=>.cons ⟨_,_,rfl,h,sN _⟩ (sO t)
theorem aGj{k:NK}{b:Addr}(h:cE K H k b):Rep K H ex (aH k) (.ref b):=by obtain⟨bs,q,p⟩:=h;exact⟨b,_,rfl,q,sO p⟩
theorem qB:∀{us:List KN},(∀x∈us,cE K H x.1 x.2)->Reps K H ex ((us.map (·.1)).map aH) (us.map λx=>V.ref x.2)
 | [],_=>.nil|x::us,h=>.cons (aGj (h x Ak)) (qB λy l=>h y (Ag _ l))
theorem sP:∀{xs:List NE} {vs:List (NK×Addr×Value)},CO kC xs vs->vs.map (λe=>A9 e.2.1)=xs.map λx=>A9 x.2.1
 | _,_,.nil=>rfl|_,_,.cons h t=>by rw[mC,mC,sP t,h.2.1]
theorem aDS{ks:List NK}(h:neN ks=true):∀k∈ks,k≠[]:=λk l z=>by have:=Bo.mp h k l;rw[z] at this;cases this
end
section
variable {X:Cx} {P:Pg} {Γ:Ct} {n:Nat} {RT Y old:Addr->Prop} {Z:Sg} {pos:DK}
theorem sQ{pins:List (Addr×Obj)}{ZV:L2.St}{H H1:Hp}{s:Ac}{q:Heap}{l:Nat}{L:Addr}{ys:List KN}{m:Nat}{Q:VK}(I:L2.Inv X pins ZV H1 s)(sm:aL H H1)(U:s.heap.objs.size<=L)(B:∀b o,s.heap.get? b=some o->q.get? b=some o)(G:q.get? L=some (C3 "list" (rfs ys).toArray m))(hl:ys.length<=5000)(hK:∀y∈ys,cE X.K H1 y.1 y.2)
 (h:Wn X RT Y old Z ZV H Q (⟨.lst ((ys.map (·.1)).map aH),true,false,[]⟩:Vl)):EP X pins ZV Q (.ref L) { s with heap:=q,toks:=l }:=by have W:H1 L=none:=I.hok.fresh U;have M:L2.Inv X pins ZV (upd H1 L (.lst (ys.map λx=>V.ref x.2))) { s with heap:=q,toks:=l }:=I.laid B U ⟨by rw[lM,BB];omega,rfs ys,m,pX ys,G⟩;have s3:aL H1 (upd H1 L (.lst (ys.map λx=>V.ref x.2))):=aL.new W;refine⟨.ref L,_,M,rfl,?_⟩;exact h _ _ M.tk ⟨sm.trans s3,by rw[if_pos rfl];exact⟨L,_,_,rfl,rfl,sm.free W,bP,qB λy hy=>cE.imp (λ_ _ r=>aL.seqT s3 r) (hK y hy)⟩⟩
theorem aJa(M:Mc X P Γ n){j:Nat}{x f g:Str}{pf pg U G:DK}(hf:f=("sorted" : Str))(hg:cW Γ f=true)(q0:g=("list" : Str))(q1:cW Γ g=true)(l:cI Γ j x=true) :
 PE X (.Call (.Name f pf) [.Call (.Name g pg) [.Name x U] [] G] [] pos) (WE X P n RT Y old Z (.srtD j)):=by
 subst hf q0;have hu:=M.units;unfold cI at l;simp only[bA] at l;obtain⟨⟨x1,x2⟩,x3⟩:=l;intro pins s ZV H Q I hw;obtain⟨S,h⟩:=hw;have h:=(show RE (match Z[j]? with|some (.dct ks)=>R.iff (neN (ks.map (·.1))&&decide (ks.length<=700)) (R.ok (⟨.lst ((ssN (ks.map (·.1))).map aH),true,false,[]⟩:Vl))|_=>.bad) _ from h)
 split at h;rename_i ks e1;obtain⟨hc,h⟩:=h.iff;rw[bA,Aq] at hc;obtain⟨q4,q6⟩:=hc;obtain⟨ad,xs,g1,g2,g3,g4,g5,g6⟩:=S.dx.at' j ks e1;have q7:xs.length=ks.length:=by have:=congrArg F9 g5;rwa [lM,lM] at this
 refine BC (eY I (M.gl hg) (M.md.blt _ (by decide +kernel)) Le ?_ (by decide +kernel) (by decide +kernel));refine Co ?_ (aC (e:=.Call (.Name "list" pg) [.Name x U] [] G) (es:=[]) rfl) rfl;rw[aC (e:=.Call (.Name "list" pg) [.Name x U] [] G) (es:=[]) rfl];show Al _ _ (Ha ((false,DM (.Call (.Name "list" pg) [.Name x U] [] G) X.env)::Ew pos (Bg [] X.env))) _ _ s;refine D4 (BC (eY I (M.gl q1) (M.md.blt _ (by decide +kernel)) (show Cw "list" = some (.type "list") by kernel_rfl) ?_ (by decide +kernel) (by decide +kernel)));refine B6 (thn (iK (es:=[]) (tG (by rw[M.N];exact eq_of_beq x1) (M.vis x2) (aY x3) (iO x3)) lL rfl G pins s ZV H (λus H1=>us=[.ref ad]/\H1=H) I ⟨.ref ad,g1,rfl,rfl⟩) λus s1 ⟨vs,H1,W,r1,e2,e3⟩=>?_) rfl rfl;subst e2 e3;obtain⟨u',rfl,ru⟩:=r1.one;cases ru;obtain⟨d1,d2,vs,hp,o,es,ep,d3,d4,d5,d6,d7,d8⟩:=aAB W g2 g6;have q8:es.size=xs.length:=by rw[<-AK,d6,lM,<-(FH hp)]
 refine aCc (W.ok.hd M.calm) (by omega) d1 d3 d4 d5 λh' tk c' q2 B=>?_;have I2:L2.Inv X pins ZV H1 { s1 with heap:=h',toks:=tk }:=W.kept q2;refine Ey ?_;obtain⟨us,u1,u2,u3⟩:∃us:List KN,us.map (·.1)=xs.map (·.1)/\(es.map (·.key))=(rfs us).toArray/\∀x∈us,cE X.K H1 x.1 x.2:=by refine⟨xs.map λx=>(x.1,x.2.1),by rw[A7];rfl,?_,λx l=>?_⟩;apply Ec.mp;rw[EG,d6,A7,Ei];unfold rfs;rw[A7];exact sP hp;obtain⟨y,hy,rfl⟩:=Ax.mp l;exact g6 y hy
 rw[u2] at B;have q:us.map (·.1)=ks.map (·.1):=u1.trans (aFQ g5);have q9:us.length=ks.length:=by have:=congrArg F9 q;rwa [lM,lM] at this
 have nd:(us.map (·.1)).Nodup:=by rw[u1];exact(iN hp)▸d8
 refine uM (s:={ s1 with heap:=h',toks:=tk }) (by omega) B (λx l=>oT I2 (u3 x l)) (λx l=>aDS q4 x.1 (by rw[<-q];exact Ax.mpr ⟨x,l,rfl⟩)) nd (by omega) λh2 L ys m hL q3 q5 y1 y2=>?_;have e4:ys.map (·.1)=ssN (ks.map (·.1)):=aDR (Dj.mpr y2) λz=>by rw[<-q];exact(y1.map _).mem_iff
 rw[<-e4] at h;exact sQ I2 (aL.refl H1) hL q3 q5 (by rw[y1.length_eq];omega) (λy hy=>u3 y (y1.mem_iff.mp hy)) h;exact h.elim
theorem aJb(M:Mc X P Γ n){G:Aw}{g:Str}{pg p2:DK}(L:g=("set" : Str))(U:cW Γ g=true){a:E}(ha:PE X G (WE X P n RT Y old Z a))(hp:aV G=true){pins:List (Addr×Obj)}{s:Ac}{ZV:L2.St}{H:Hp}(I:L2.Inv X pins ZV H s)(S:Sx X.K RT Y old Z ZV H)
 {x:Vl} (ex:ev P (call P n) Z a=.ok x) {ds:List D} (hd:x.d=.lst ds) {ks:List NK} (hk:gK ds=some ks) (h7:(ssN ks).length<=700) {Q:Value->Ac->Prop}
 (h:∀s1 H1 us (h':Heap) (tk:Nat),L2.Inv X pins ZV H1 s1->aL H H1->us.map (·.1)=ks->(∀x∈us,cE X.K H1 x.1 x.2)->gM (iA X.prog X.w) h' s1.heap.objs.size us->(∀b o,s1.heap.get? b=some o->h'.get? b=some o)->Tk X.K H1->Q (.ref s1.heap.objs.size) { s1 with heap:=h',toks:=tk }) :
 Al (A6 X.prog X.w) X.A (DM (.Call (.Name g pg) [G] [] p2) X.env) Q X.xe s:=by subst L;have hu:=M.units;refine BC (eY I (M.gl U) (M.md.blt _ (by decide +kernel)) (show Cw "set" = some (.type "set") by kernel_rfl) ?_ (by decide +kernel) (by decide +kernel));refine B6 (thn (iK (es:=[]) ha lL (aC hp) p2 pins s ZV H (λus H1=>∃u,us=[u]/\Tk X.K H1/\Ro X.K RT Y old Z ZV H H1 x u) I ⟨S,?_⟩) λus s1 ⟨vs,H1,B,r1,u,e1,t1,ro⟩=>?_) (aC hp) rfl;rw[ex];intro u H1 t1 ro;exact⟨u,rfl,t1,ro⟩;subst e1;obtain⟨u',rfl,ru⟩:=r1.one;obtain⟨b,xs,rfl,hS,_,rr⟩:=(ro.rv S).lst hd;cases ru;obtain⟨q0,r2,p,_⟩:=B.list hS;obtain⟨us,u1,rfl,u3⟩:=pZ hk rr;refine aCa (knd:=iA X.prog X.w) (us:=us) (B.ok.hd M.calm) (λA' hA=>show A'.units+8<Dz by omega) p.isList (by rw[Ei];exact pY r2) (λx W=>oT B (u3 x W)) (ssN ks) h7 (λx W=>fM.mpr (by rw[<-u1];exact Ax.mpr ⟨x,W,rfl⟩)) λh' tk q l=>?_;exact h s1 H1 us h' tk B ro.1 u1 u3 q (λb o e=>l b o (Am e) e) t1
theorem aGk{ks:List NK}(h:ks.Pairwise (lexN · ·=true)):ks.Nodup:=h.imp λ{p q} c e=>by rw[e,iT.ir] at c;cases c
theorem aJc(l:List NK):(ssN l).Nodup:=aGk (iB l)
theorem aJd(M:Mc X P Γ n){pins:List (Addr×Obj)}{ZV:L2.St}{H B:Hp}{s:Ac}{S:Addr}{zs:List KN}{r:List NK}{Q:VK}(I:L2.Inv X pins ZV B s)(sm:aL H B)(hz:aIS (iA X.prog X.w) s.heap S zs)(kN:∀x∈zs,x.1≠[])(kA:∀x∈zs,cE X.K B x.1 x.2)(z2:∀k,k∈zs.map (·.1)↔k∈r)(z3:r.Pairwise (lexN · ·=true))(hl:r.length<=5000)
 (h:Wn X RT Y old Z ZV H Q (⟨.lst (r.map aH),true,false,[]⟩:Vl)):Al (A6 X.prog X.w) X.A (Ha (Ew pos (Bg [] X.env))) (λW s'=>Al (A6 X.prog X.w) X.A (HE (.builtin "sorted") (.ref S::W)) (EP X pins ZV Q) X.xe s') X.xe s:=by
 have hu:=M.units;refine Ey ?_;refine xN (I.ok.hd M.calm) (by omega) hz (λx hx=>oT I (kA x hx)) kN λh4 q0 L ys m hL G U y1 y2 y3=>?_;have e4:ys.map (·.1)=r:=jT iT (Dj.mpr y3) z3 λk=>by rw[<-z2];constructor;intro q;obtain⟨w,l,rfl⟩:=Ax.mp q;exact Ax.mpr ⟨w,y1 w l,rfl⟩;intro q;obtain⟨w,l,rfl⟩:=Ax.mp q;exact y2 w l
 rw[<-e4] at h hl;exact sQ I sm hL G U (by rwa [lM] at hl) (λw l=>kA w (y1 w l)) h
theorem aLr(M:Mc X P Γ n){a:E}{q:Aw}{f g:Str}{pf B G:DK}(hf:f=("sorted" : Str))(hg:cW Γ f=true)(W:g=("set" : Str))(q0:cW Γ g=true)(ha:PE X q (WE X P n RT Y old Z a))(hp:aV q=true) :
 PE X (.Call (.Name f pf) [.Call (.Name g B) [q] [] G] [] pos) (WE X P n RT Y old Z (.sst a)):=by
 subst hf;intro pins s ZV H Q I hw;obtain⟨S,h⟩:=hw;have h:=RE.bind' (show RE (ev P (call P n) Z a >>= λx=>(match x.d with
  | .lst as=>(match gK as with
   | some ks=>R.iff (neN ks&&decide ((ssN ks).length<=700)) (R.ok (⟨.lst ((ssN ks).map aH),true,false,[]⟩:Vl))|_=>.bad)
  | _=>.bad)) _ from h)
 obtain⟨x,ex,h⟩:=h.eq;split at h;rename_i as L;split at h;rename_i ks ka;obtain⟨U,h⟩:=h.iff;rw[bA,Aq] at U;refine BC (eY I (M.gl hg) (M.md.blt _ (by decide +kernel)) Le ?_ (by decide +kernel) (by decide +kernel));refine Co ?_ (aC (e:=.Call (.Name g B) [q] [] G) (es:=[]) rfl) rfl;rw[aC (e:=.Call (.Name g B) [q] [] G) (es:=[]) rfl];show Al _ _ (Ha ((false,DM (.Call (.Name g B) [q] [] G) X.env)::Ew pos (Bg [] X.env))) _ _ s;refine D4 (aJb M W q0 ha hp I S ex L ka U.2 λs1 H1 us h1 q3 I1 q2 u1 u3 l q1 t1=>?_);exact aJd M (s:={ s1 with heap:=h1,toks:=q3 }) (I1.kept q1) q2 l.toD (λx hx=>aDS U.1 x.1 (by rw[<-u1];exact Ax.mpr ⟨x,hx,rfl⟩)) u3 (λk=>by rw[u1,fM]) (iB _) (by omega) h;exact h.elim;exact h.elim
end
end Hp
end
namespace Hp
open PySem PySem.Spec PyProof.Rows L2
section
variable {X:Cx} {P:Pg} {Γ:Ct} {n:Nat} {RT Y old:Addr->Prop} {Z:Sg} {tg:Aw} {pos:DK}
theorem aAZ{α:Type}:∀l:List α,(AF l.length).filterMap (λm=>l[m]?)=l
 | []=>rfl|a::l=>by rw[lC,E5,FN (f:=λm=>(a::l)[m]?) (a:=0) (b:=a) rfl,Fk];exact congrArg (a::·) (aAZ l)
theorem xO{α B:Type}{f g:α->Option B}:∀{l:List α},(∀x∈l,f x=g x)->l.filterMap f=l.filterMap g
 | [],_=>rfl|a::l,h=>by rw[BL,BL,h a Ak,xO λx q=>h x (Ag _ q)]
theorem aDT(l:List Value):IH l.toArray none none (some (-1))=l.reverse.toArray:=by
 unfold IH DQ sliceRange;simp only[Dw,Af]
 congr 1
 simp only[show ¬ ((-1:Int)>0) by decide,if_false];have e:(if (l.length:Int)-1>-1 then ((l.length:Int)-1 - -1 - -1-1) / (- -1) else 0).toNat=l.length:=by
  by_cases h:(l.length:Int)-1>-1;rw[if_pos h];have:((l.length:Int)-1 - -1 - -1-1) / (- -1)=(l.length:Int):=by rw[show(- -1:Int)=1 by decide,Kz];omega
  rw[this,Bx];rw[if_neg h];omega
 rw[e,Fk];have z:=aAZ l.reverse;rw[Fa] at z;refine Eq.trans (xO λm q=>?_) z;have q:m<l.length:=BA.mp q;show l.toArray[((l.length:Int)-1+-1*(m:Int)).toNat]? = l.reverse[m]?;rw[List.getElem?_reverse q,show((l.length:Int)-1+-1*(m:Int)).toNat=l.length-1-m by omega];simp
theorem xP:∀{ds es:List D},noLs ds=true->noLs es=true->noLs (ds++es)=true
 | [],_,_,h=>h|d::ds,es,h1,h2=>by rw[IU,noLs];rw[noLs,bA] at h1;rw[h1.1,xP h1.2 h2];rfl
theorem xQ:∀{ds:List D},noLs ds=true->noLs ds.reverse=true
 | [],h=>h|d::ds,h=>by rw[DJ];rw[noLs,bA] at h;exact xP (xQ h.2) (by rw[noLs,h.1];rfl)
theorem aLs{a:E}{ea:Aw}{kk:Nat}{p p2 p3:DK}(ha:PE X ea (WE X P n RT Y old Z a)):PE X (.Subscript ea (.Slice none none (some (.UnaryOp .USub (.Constant (.int 1) kk p) p3)) p2) pos) (WE X P n RT Y old Z (.rvs a)):=by
 intro pins s ZV H Q I hw;obtain⟨S,h⟩:=hw;have h:=RE.bind' (show RE (ev P (call P n) Z a >>= λx=>(match x.d with
  | .lst ds=>R.ok (⟨.lst ds.reverse,true,x.pa&&!noLs ds,if noLs ds then [] else x.al⟩:Vl)|_=>.bad)) _ from h)
 refine J5 (thn (ha pins s ZV H (λu H1=>∃l xs,u=.ref l/\SqL X.K H1 l xs/\∀p,H1 p=none->Tk X.K (upd H1 p (.lst xs.reverse))->Q (.ref p) (upd H1 p (.lst xs.reverse))) I (wE.one S h λx u H1 U t1 S1 G=>?_)) λv s1 ⟨x,H1,I1,G,l,xs,e,hq,q⟩=>?_);split at U;rename_i ds d1;obtain⟨l,xs,e,qq,_,r⟩:=(G.rv S).lst d1;refine⟨l,xs,e,qq,λp hp t'=>(show Wn X RT Y old Z ZV H Q _ from U) _ _ t' ((Ro.fresh hp t' rfl rfl S1 ?_).from G.1)⟩;have rr:=r.reverse;by_cases hn:noLs ds=true;exact Reps.free _ _ (xQ hn) rr;show Reps X.K H1 (exV RT Y old Z ZV (x.pa&&!noLs ds) (if noLs ds=true then [] else x.al)) _ _;have M:noLs ds=false:=by simpa using hn
 rw[M,if_neg bN,DS,DF];exact rr;exact U.elim;subst e;cases G;refine KP ?_;rw[Hl];refine Ad (Ad ?_);rw[Kb];refine thn (aGV aCC aCt pins s1 ZV H1 (λv H'=>v=.int (-1)/\H'=H1) I1 ?_) λvk s2 ⟨y,H2,I2,r2,e1,e2⟩=>?_;exact⟨1,rfl,rfl,rfl⟩;subst e1 e2;obtain⟨tk,rfl⟩:=r2;have L:L2.Inv X pins ZV H2 { s2 with heap:=s2.heap.push { cls:=.type "slice",data:=.fields #[.none,.none,.int (-1) tk] } }:=I2.kept (t':=s2.toks) λb ob q=>Ab _ q;obtain⟨B,rv,ht,hz⟩:=L.list hq;have q0:=rv.length;refine KQ (ops:=[.ref l,.ref s2.heap.objs.size]) ht.isList.typeIs FA.lookup ?_ (by with_unfolding_all rfl);refine FI ht.isList (HB ..) .none .none (.int (-1) tk) (by intro z;cases z) ?_ (by rw[Af] <;> omega);rw[aDT B];have l2:aO xs.reverse B.reverse:=rv.reverse;have W:=L.laid (t':=s2.toks) (o:=.lst xs.reverse) (h':=_) (λb ob q=>Ab _ q) (Ah _) ⟨by rw[Fa];exact hz,_,0,l2,Ao _ rfl⟩;exact⟨.ref _,_,W,rfl,q _ (L.hok.fresh (Ah _)) W.tk⟩
end
end Hp
noncomputable section
set_option maxHeartbeats 8000000
namespace Hp
open PySem PySem.Spec PyProof.Rows L2
section
variable {P:Pg} {n:Nat}
theorem xR{X:Cx}{Γ:Ct}(M:Mc X P Γ n)(scope:DL):(Jv scope X.env).names=oY Γ.sc scope.names:=by
 unfold Jv oY;simp only;refine CB λp B=>?_;obtain⟨m,k⟩:=p;have l:(X.env.scope.kind==Lx)=true:=by rw[M.fk];rfl
 have q:X.env.kindOf m=Γ.sc.lookup m:=by unfold Env.kindOf;rw[M.sc]
 simp only[l,q,DF]
abbrev chN(Γ:Ct)(tg:Aw)(caps:List Nat):List Str:=fQ tg++caps.filterMap λi=>Γ.N[i]?
abbrev zY(Γ:Ct)(tg:Aw)(caps:List Nat)(scope:DL):Ct:={ Γ with N:=chN Γ tg caps,sc:=oY Γ.sc scope.names,fn:=false }
structure aDU (Γ:Ct) (tg:Aw) (caps:List Nat) (scope:DL) (k:Nat) (t:T):Prop where
 len:(fQ tg).length=k
 lt:∀i∈caps,i<Γ.N.length
 ndc:caps.Nodup
 kind:scope.kind=.function
 nd:(chN Γ tg caps).Nodup
 cap:∀x∈caps.filterMap (λi=>Γ.N[i]?),scope.names.lookup x=some .free/\Γ.sc.lookup x=some .cell
 all:∀p∈scope.names,p.2≠.cell/\(p.2=.local->scope.names.lookup p.1=some .local)/\(p.2=.free->Γ.sc.lookup p.1=some .cell)
 tk:∀i∈tIx t,i<k
theorem uN{N:List Str}:∀{caps:List Nat},(∀i∈caps,i<N.length)->∀{j i:Nat},caps[j]? = some i->(caps.filterMap λi=>N[i]?)[j]? = N[i]?/\(caps.filterMap λi=>N[i]?).length=caps.length
 | [],_,_,_,h=>by simp at h|c::cs,hl,j,i,h=>by
  have q:N[c]? = some N[c]! := by have:=hl c Ak;simp[this]
  rw[FN q];have l:∀i∈cs,i<N.length:=λi hi=>hl i (Ag _ hi);have len:(cs.filterMap λi=>N[i]?).length=cs.length:=by
   cases cs with
   | nil=>rfl|cons B G=>exact(uN l (j:=0) (i:=B) rfl).2
  refine⟨?_,by rw[lC,lC,len]⟩;cases j with
  | zero=>
   have e:c=i:=by simpa using h
   subst e;rw[gZ,q]
  | succ j=>rw[gS];exact(uN l (j:=j) (i:=i) (by simpa using h)).1
theorem aJe{N:List Str}{caps:List Nat}(h:∀i∈caps,i<N.length):(caps.filterMap λi=>N[i]?).length=caps.length:=by
 cases caps with
 | nil=>rfl|cons c cs=>exact(uN h (j:=0) (i:=c) rfl).2
theorem aDU.scope{X:Cx}{Γ:Ct}{tg:Aw}{caps:List Nat}{scope:DL}{k:Nat}{t:T}(O:aDU Γ tg caps scope k t)(M:Mc X P Γ n):cT X scope k caps (chN Γ tg caps) where
 kind:=O.kind
 nocell:=λy q=>(O.all y q).1
 loc:=λy q e=>(O.all y q).2.1 e
 free:=λm L=>.inl (by
  have:=(O.all _ L).2.2 rfl;show X.env.scope.names.lookup m=_;rw[M.sc];exact this)
 len:=by rw[lA,O.len,aJe O.lt]
 cap:=λj i e=>by have hi:=O.lt i (mG e);have B:Γ.N[i]? = some Γ.N[i]:=Ae hi;have l:=(uN O.lt e).1;rw[B] at l;obtain⟨G,I⟩:=O.cap _ (mG l);refine⟨Γ.N[i],?_,by rw[M.N];exact B,G,?_⟩;show(fQ tg++_)[k+j]? = _;rw[A1 (by rw[O.len];omega),O.len,Bm];exact l;show X.env.scope.names.lookup _=_;rw[M.sc];exact I
 ndp:=M.nd
theorem aDU.mc{X:Cx}{Γ:Ct}{tg:Aw}{caps:List Nat}{scope:DL}{k:Nat}{t:T}(O:aDU Γ tg caps scope k t)(M:Mc X P Γ n)(C:Addr)(s₀:Ac)(H₀:Hp)(ex:List Addr) :
 Mc (dN X scope (chN Γ tg caps) C s₀ H₀ ex) P (zY Γ tg caps scope) n where
 md:=⟨M.md.fn,M.md.blt,M.md.cns,M.md.tab⟩
 N:=rfl
 nd:=O.nd
 sc:=xR M scope
 calm:=M.calm
 room:=M.room
 xe:=rfl
 st:=λx h=>.inr (by
  show(Jv scope X.env).names.lookup x=_;rw[xR M scope];unfold wL at h;have h:(match (oY Γ.sc scope.names).lookup x with|some .local=>true|some .cell=>false|_=>false)=true:=h;split at h;rename_i e;exact e;cases h;cases h)
 fk:=O.kind
theorem xS{Γ:Ct}{tt:Bool}{a b:E}{e:Aw}:chkI Γ tt (.rng a b) e=oS (oZ e) λp=>(p.1==("range" : Str))&&cW Γ p.1&&(match p.2 with
 | [x]=>zJ a&&aR Γ b x|[x,y]=>aR Γ a x&&aR Γ b y|_=>false):=rfl
theorem xT{Γ:Ct}{tt:Bool}{a b:E}{e:Aw}:chkI Γ tt (.zip a b) e=oS (oZ e) λp=>(match p.2 with
 | [x,y]=>tt&&(p.1==("zip" : Str))&&cW Γ p.1&&aR Γ a x&&aR Γ b y|_=>false):=rfl
theorem jU{Γ:Ct}{tt:Bool}{it:Hp.It}{e:Aw}(h:chkI Γ tt it e=true):aV e=true:=by
 cases it with
 | seq c=>exact aP (c:=c) (by exact h)|rng a b=>rw[xS] at h;obtain⟨_,⟨_,_,rfl⟩,_⟩:=aD h;rfl|zip a b=>rw[xT] at h;obtain⟨_,⟨_,_,rfl⟩,_⟩:=aD h;rfl|enum a=>cases h|rev a=>cases h
theorem aGl{X:Cx}{e:Aw}{c:E}{RT Y old:Addr->Prop}{Z:Sg}(h:tst P (call P n) Z c=.bad):PT X e (WT X P n RT Y old Z c):=λpins s ZV H Q I ⟨S,l⟩=>by rw[h] at l;exact l.elim
theorem fT{a b c:Bool}(h:(a&&b&&c)=true):a=true/\b=true/\c=true:=by cases a <;> cases b <;> cases c <;> first|exact⟨rfl,rfl,rfl⟩|cases h
theorem eQ{a b:Bool}(h:(a&&b)=true):a=true/\b=true:=by cases a <;> cases b <;> first|exact⟨rfl,rfl⟩|cases h
theorem aLt{a b c d:Bool}(h:(a&&b&&c&&d)=true):a=true/\b=true/\c=true/\d=true:=by obtain⟨l,q,B⟩:=fT h;obtain⟨l,G⟩:=eQ l;exact⟨l,G,q,B⟩
theorem zZ{a b c d e:Bool}(h:(a&&b&&c&&d&&e)=true):a=true/\b=true/\c=true/\d=true/\e=true:=by obtain⟨l,q,B,G⟩:=aLt h;obtain⟨l,I⟩:=eQ l;exact⟨l,I,q,B,G⟩
theorem aBa{Γ:Ct}{k:Nat}{caps:List Nat}{t:T}{it:Hp.It}{cond:Es}{elt:E}{e:Aw}(h:aR Γ (.comp k caps t it cond elt) e=true) :
 ∃B tg l q scope pos,e=.ListComp B [⟨tg,l,q,0⟩] scope pos/\aDU Γ tg caps scope k t/\q.length<=1/\nM (zY Γ tg caps scope) t tg=true/\chkI Γ (rZ tg) it l=true/\chkEs (zY Γ tg caps scope) cond q=true/\aR (zY Γ tg caps scope) elt B=true:=by
 obtain⟨⟨B,gens,scope⟩,G,g⟩:=aD h;clear h;obtain⟨pos,rfl⟩:=G;have h:=g;clear g;rcases gens with _|⟨⟨tg,l,q,as⟩,_|⟨_,_⟩⟩
 cases h;have h:(as==0&&(fQ tg).length==k&&(caps.all λi=>decide (i<Γ.N.length))&&decide caps.Nodup&&scope.kind==.function&&decide (fQ tg++caps.filterMap λi=>Γ.N[i]?).Nodup &&
  ((caps.filterMap λi=>Γ.N[i]?).all λx=>scope.names.lookup x==some .free&&Γ.sc.lookup x==some .cell) &&
  (scope.names.all λp=>p.2 != .cell&&(p.2 != .local||scope.names.lookup p.1==some .local)&&(p.2 != .free||Γ.sc.lookup p.1==some .cell)) &&
  ((tIx t).all λi=>decide (i<k))&&decide (q.length<=1) &&
  nM (zY Γ tg caps scope) t tg&&chkI Γ (rZ tg) it l&&chkEs (zY Γ tg caps scope) cond q&&aR (zY Γ tg caps scope) elt B)=true:=by exact h
 simp only[bA,beq_iff_eq,Bo,Aq,BG,bne_iff_ne,ne_eq] at h;obtain⟨⟨⟨⟨⟨⟨⟨⟨⟨⟨⟨⟨⟨W,G⟩,h2⟩,h3⟩,h4⟩,h5⟩,h6⟩,h7⟩,h8⟩,h9⟩,I⟩,L⟩,M⟩,U⟩:=h;subst W;refine⟨B,tg,l,q,scope,pos,rfl,⟨G,h2,h3,h4,h5,h6,λp hp=>?_,h8⟩,h9,I,L,M,U⟩;obtain⟨⟨q1,q2⟩,q3⟩:=h7 p hp;exact⟨q1,λe=>q2.resolve_left λz=>z e,λe=>q3.resolve_left λz=>z e⟩;cases h
abbrev PEc(P:Pg)(n:Nat)(c:E):Prop:=∀{X:Cx} {Γ:Ct},Mc X P Γ n->∀{e:Aw},aR Γ c e=true->∀(RT Y old:Addr->Prop) (Z:Sg),PE X e (WE X P n RT Y old Z c)
abbrev PTc(P:Pg)(n:Nat)(c:E):Prop:=∀{X:Cx} {Γ:Ct},Mc X P Γ n->∀{e:Aw},aR Γ c e=true->∀(RT Y old:Addr->Prop) (Z:Sg),PT X e (WT X P n RT Y old Z c)
abbrev PWc(P:Pg)(n:Nat)(c:E):Prop:=∀{X:Cx} {Γ:Ct},Mc X P Γ n->∀{o:Lr} {xs:List Aw} {pos:DK},aR Γ c (.BoolOp o xs pos)=true->∀(RT Y old:Addr->Prop) (Z:Sg),PW X (.BoolOp o xs pos) (WT X P n RT Y old Z c)
structure Q3 (P:Pg) (n:Nat) (c:E):Prop where
 e:PEc P n c
 t:PTc P n c
 w:PWc P n c
structure QA (P:Pg) (n:Nat) (cs:Es):Prop where
 a:∀{X:Cx} {Γ:Ct},Mc X P Γ n->∀{es:List Aw},chkEs Γ cs es=true->∀(RT Y old:Addr->Prop) (Z:Sg),PA X es (WA X P n RT Y old Z cs)
 o:∀{X:Cx} {Γ:Ct},Mc X P Γ n->∀{e:Option Aw},chkO Γ cs e=true->∀(RT Y old:Addr->Prop) (Z:Sg),PO X e (wO X P n RT Y old Z cs)
 ts:∀{X:Cx} {Γ:Ct},Mc X P Γ n->∀{es:List Aw},es.length<=1->chkEs Γ cs es=true->∀(RT Y old:Addr->Prop) (Z:Sg),PTs X es (wTs X P n RT Y old Z cs)
abbrev QI(P:Pg)(n:Nat)(it:Hp.It):Prop:=∀{X:Cx} {Γ:Ct},Mc X P Γ n->∀{tg e:Aw},chkI Γ (rZ tg) it e=true->∀(RT Y old:Addr->Prop) (Z:Sg),PI X tg e (wI X P n RT Y old Z it)
theorem Q3.of{c:E}(h:PEc P n c)(hd:∀Z,tst P (call P n) Z c=.bad)(l:∀{Γ:Ct} {o:Lr} {xs:List Aw} {pos:DK},aR Γ c (.BoolOp o xs pos)=false):Q3 P n c:=
 ⟨h,λ{X Γ} M {e} z RT Y old Z=>aGl (hd Z),λ{X Γ} M {o xs pos} z RT Y old Z=>absurd (l.symm.trans z) bN⟩
theorem n_c{d:D}:Q3 P n (.c d):=by
 have I:∀{Γ:Ct} {e:Aw},aR Γ (.c d) e=true->(∃c k p,e=.Constant c k p/\eqC d c=true)\/∃x p,e=.Name x p/\cW Γ x=true/\cH x=true/\∃d',Γ.cns.lookup x=some d'/\eqK d d'=true:=λ{Γ e} h=>by rcases(BG _ _).mp (show(oS (asC e) (eqC d)||oS (asN e) λx=>cW Γ x&&cH x&&oB (Γ.cns.lookup x) (eqK d))=true from h) with h|h;obtain⟨c,l,g⟩:=aD h;clear h;obtain⟨k,p,rfl⟩:=l;have h:=g;clear g;exact .inl ⟨c,k,p,rfl,h⟩;obtain⟨x,l,g⟩:=aD h;clear h;obtain⟨p,rfl⟩:=l;have h:=g;clear g;obtain⟨l,B,G⟩:=fT h;obtain⟨d',q1,q2⟩:=aDn G;exact .inr ⟨x,p,rfl,l,B,d',q1,q2⟩
 have k:PEc P n (.c d):=λ{X Γ} M {e} h RT Y old Z=>by
  rcases I h with⟨c,j,p,rfl,g⟩|⟨x,p,rfl,l,B,d',q,G⟩
  exact s_c g;have e:=aIv G;subst e;obtain⟨u,v,m,r,W⟩:=M.md.cns x d q;refine(aAu (M.gl l) m r (aY B)).imp λZV H Q t ⟨S,L⟩ t'=>?_;exact(show Wn _ RT Y old Z ZV H Q (Vl.cl d) from L) v H t' (Ro.val (aL.refl H) (W H))
 refine⟨k,λ{X Γ} M {e} h RT Y old Z=>?_,λ{X Γ} M {o xs pos} h RT Y old Z=>absurd h bN⟩;refine sB (k M h RT Y old Z) ?_ λp U=>U;rcases I h with⟨c,j,p,rfl,h⟩|⟨x,p,rfl,_⟩ <;> (intro _;rfl)
theorem n_v{i:Nat}:Q3 P n (.v i):=by
 have k:PEc P n (.v i):=λ{X Γ} M {e} h RT Y old Z=>by obtain⟨x,l,g⟩:=aD h;clear h;obtain⟨p,rfl⟩:=l;have h:=g;clear g;have h:cI _ i x=true:=h;unfold cI at h;obtain⟨l,B,q⟩:=fT h;exact s_v (by rw[M.N];exact eq_of_beq l) (M.vis B) (aY q) (iO q)
 refine⟨k,λ{X Γ} M {e} h RT Y old Z=>?_,λ{X Γ} M {o xs pos} h RT Y old Z=>absurd h bN⟩;refine sB (k M h RT Y old Z) ?_ λp G=>RE.bind' (show RE (bH Z i >>= λx=>fP x) p from G);obtain⟨x,⟨p,rfl⟩,_⟩:=aD h;intro _;rfl
theorem aNA{o:Operator}{a b:E}(I:Q3 P n a)(L:Q3 P n b):Q3 P n (.op o a b):=Q3.of (λ{X Γ} M {e} h RT Y old Z=>by
 obtain⟨⟨l,o',r⟩,q,g⟩:=aD h;clear h;obtain⟨p,rfl⟩:=q;have h:=g;clear g;obtain⟨q,B,G⟩:=fT h;have e:o=o':=eq_of_beq q;subst e;exact aNu (I.e M B RT Y old Z) (L.e M G RT Y old Z)) (λ_=>rfl) rfl
theorem aLu{a:E}(B:Q3 P n a):Q3 P n (.neg a):=Q3.of (λ{X Γ} M {e} h RT Y old Z=>by
 obtain⟨⟨o,x⟩,l,g⟩:=aD h;clear h;obtain⟨p,rfl⟩:=l;have h:=g;clear g;obtain⟨l,q⟩:=eQ h;have e:o=.USub:=eq_of_beq l;subst e;exact aKW (B.e M q RT Y old Z)) (λ_=>rfl) rfl
theorem aNB{a:E}(B:Q3 P n a):Q3 P n (.nt a):=by
 have q:∀{Γ:Ct} {e:Aw},aR Γ (.nt a) e=true->∃x p,e=.UnaryOp .Not x p/\aR Γ a x=true:=λ{Γ e} h=>by obtain⟨⟨o,x⟩,l,g⟩:=aD h;clear h;obtain⟨p,rfl⟩:=l;have h:=g;clear g;obtain⟨l,G⟩:=eQ h;have e:o=.Not:=eq_of_beq l;subst e;exact⟨x,p,rfl,G⟩
 refine⟨λ{X Γ} M {e} h RT Y old Z=>?_,λ{X Γ} M {e} h RT Y old Z=>?_,λ{X Γ} M {o xs pos} h RT Y old Z=>absurd h bN⟩;obtain⟨x,p,rfl,g⟩:=q h;exact aKX (B.e M g RT Y old Z);obtain⟨x,p,rfl,g⟩:=q h;exact pH (B.t M g RT Y old Z)
theorem aBb{Γ:Ct}{a b:E}{w:Lr}{xs:List Aw}{p:DK}(h:(match xs with
 | [x,y]=>aR Γ a x&&aR Γ b y|x::y::z::r=>aR Γ a x&&aR Γ b (.BoolOp w (y::z::r) p)|_=>false)=true):∃x y r,xs=x::y::r/\aR Γ a x=true/\((r=[]/\aR Γ b y=true)\/aR Γ b (.BoolOp w (y::r) p)=true):=by
 rcases xs with _|⟨x,_|⟨y,_|⟨z,r⟩⟩⟩
 cases h;cases h;obtain⟨l,q⟩:=eQ h;exact⟨x,y,[],rfl,l,.inl ⟨rfl,q⟩⟩;obtain⟨l,q⟩:=eQ h;exact⟨x,y,z::r,rfl,l,.inr q⟩
theorem aNC{a b:E}(G:Q3 P n a)(I:Q3 P n b):Q3 P n (.an a b):=by
 have U:PWc P n (.an a b):=λ{X Γ} M {o xs pos} h RT Y old Z=>by obtain⟨B,L⟩:=eQ h;have e:o=.And:=eq_of_beq B;subst e;obtain⟨x,y,r,rfl,q,l⟩:=aBb L;rcases l with⟨rfl,l⟩|l;exact aLf (G.t M q RT Y old Z) (aFf (I.t M l RT Y old Z));exact aLf (G.t M q RT Y old Z) (I.w M l RT Y old Z)
 refine⟨λ{X Γ} M {e} h RT Y old Z=>?_,λ{X Γ} M {e} h RT Y old Z=>?_,U⟩;obtain⟨⟨o,xs,pos⟩,B,g⟩:=aD h;clear h;obtain rfl:=B;have h:=g;clear g;obtain⟨B,L⟩:=eQ h;have e:o=.And:=eq_of_beq B;subst e;obtain⟨x,y,r,e,q,l⟩:=aBb L;have e:xs=x::y::r:=e;subst e;rcases l with⟨rfl,l⟩|l;exact aKY (G.e M q RT Y old Z) (aCu (I.e M l RT Y old Z));exact aKY (G.e M q RT Y old Z) (I.e M l RT Y old Z);obtain⟨⟨o,xs,pos⟩,rfl,_⟩:=aD h;exact(U M h RT Y old Z).pt
theorem aLv{a b:E}(G:Q3 P n a)(I:Q3 P n b):Q3 P n (.orr a b):=by
 have U:PWc P n (.orr a b):=λ{X Γ} M {o xs pos} h RT Y old Z=>by obtain⟨B,L⟩:=eQ h;have e:o=.Or:=eq_of_beq B;subst e;obtain⟨x,y,r,rfl,q,l⟩:=aBb L;rcases l with⟨rfl,l⟩|l;exact aHk (G.t M q RT Y old Z) (aHJ (I.t M l RT Y old Z));exact aHk (G.t M q RT Y old Z) (I.w M l RT Y old Z)
 refine⟨λ{X Γ} M {e} h RT Y old Z=>?_,λ{X Γ} M {e} h RT Y old Z=>?_,U⟩;obtain⟨⟨o,xs,pos⟩,B,g⟩:=aD h;clear h;obtain rfl:=B;have h:=g;clear g;obtain⟨B,L⟩:=eQ h;have e:o=.Or:=eq_of_beq B;subst e;obtain⟨x,y,r,e,q,l⟩:=aBb L;have e:xs=x::y::r:=e;subst e;rcases l with⟨rfl,l⟩|l;exact aHj (G.e M q RT Y old Z) (aCu (I.e M l RT Y old Z));exact aHj (G.e M q RT Y old Z) (I.e M l RT Y old Z);obtain⟨⟨o,xs,pos⟩,rfl,_⟩:=aD h;exact(U M h RT Y old Z).pt
theorem aLw{t a b:E}(L:Q3 P n t)(G:Q3 P n a)(I:Q3 P n b):Q3 P n (.ife t a b):=Q3.of (λ{X Γ} M {e} h RT Y old Z=>by
 obtain⟨⟨t',U,W⟩,l,g⟩:=aD h;clear h;obtain⟨p,rfl⟩:=l;have h:=g;clear g;obtain⟨l,q,B⟩:=fT h;exact aKZ (L.t M l RT Y old Z) (G.e M q RT Y old Z) (I.e M B RT Y old Z)) (λ_=>rfl) rfl
theorem aLx{o:CmpOp}{a b:E}(L:Q3 P n a)(U:Q3 P n b):Q3 P n (.cmp o a b):=by
 have I:∀{Γ:Ct} {e:Aw},aR Γ (.cmp o a b) e=true->∃l r p,e=.Compare l [o] [r] p/\aR Γ a l=true/\aR Γ b r=true:=λ{Γ e} h=>by
  obtain⟨⟨l,os,rs⟩,G,g⟩:=aD h;clear h;obtain⟨p,rfl⟩:=G;have h:=g;clear g;rcases os with _|⟨o',_|⟨_,_⟩⟩
  cases h;rcases rs with _|⟨r,_|⟨_,_⟩⟩
  cases h;obtain⟨G,B,q⟩:=fT h;have e:o=o':=eq_of_beq G;subst e;exact⟨l,r,p,rfl,B,q⟩;cases h;cases h
 refine⟨λ{X Γ} M {e} h RT Y old Z=>?_,λ{X Γ} M {e} h RT Y old Z=>?_,λ{X Γ} M {o xs pos} h RT Y old Z=>absurd h bN⟩;obtain⟨l,r,p,rfl,B,q⟩:=I h;exact aLa M (L.e M B RT Y old Z) (U.e M q RT Y old Z) (aP q);obtain⟨l,r,p,rfl,B,q⟩:=I h;exact eW M (L.e M B RT Y old Z) (U.e M q RT Y old Z) (aP q)
theorem aJf{j:Nat}:Q3 P n (.srtD j):=Q3.of (λ{X Γ} M {e} h RT Y old Z=>by
 obtain⟨⟨f,xs⟩,B,g⟩:=aD h;clear h;obtain⟨p1,p2,rfl⟩:=B;rcases xs with _|⟨s,_|⟨_,_⟩⟩
 cases g;obtain⟨⟨f2,ys⟩,⟨p3,p4,l⟩,g⟩:=aD g;have l:s=.Call (.Name f2 p3) ys [] p4:=l;subst l;obtain⟨B,I,L,U,G⟩:=zZ g;rcases ys with _|⟨x,_|⟨_,_⟩⟩
 cases G;obtain⟨y,⟨p5,q⟩,W⟩:=aD G;have q:x=.Name y p5:=q;subst q;exact aJa M (eq_of_beq B) I (eq_of_beq L) U W;cases G;cases g) (λ_=>rfl) rfl
theorem aLy{a:E}(B:Q3 P n a):Q3 P n (.rvs a):=Q3.of (λ{X Γ} M {e} h RT Y old Z=>by
 obtain⟨⟨x,ix⟩,q,g⟩:=aD h;clear h;obtain⟨p,rfl⟩:=q;obtain⟨c,⟨_,_,_,_,l⟩,g⟩:=aD g;have l:ix=_:=l;subst l;exact aLs (B.e M g RT Y old Z)) (λ_=>rfl) rfl
theorem aLz{a:E}(U:Q3 P n a):Q3 P n (.sst a):=Q3.of (λ{X Γ} M {e} h RT Y old Z=>by
 obtain⟨⟨f,xs⟩,B,g⟩:=aD h;clear h;obtain⟨p1,p2,rfl⟩:=B;rcases xs with _|⟨s,_|⟨_,_⟩⟩
 cases g;obtain⟨⟨f2,ys⟩,⟨W,p4,q⟩,g⟩:=aD g;have q:s=.Call (.Name f2 W) ys [] p4:=q;subst q;obtain⟨B,G,I,L,l⟩:=zZ g;rcases ys with _|⟨x,_|⟨_,_⟩⟩
 cases l;exact aLr M (eq_of_beq B) G (eq_of_beq I) L (U.e M l RT Y old Z) (aP l);cases l;cases g) (λ_=>rfl) rfl
theorem aJg{I L:CmpOp}{a b c:E}(ha:Q3 P n a)(hb:Q3 P n b)(hc:Q3 P n c):Q3 P n (.cmp2 I L a b c):=by
 have h0:∀{Γ:Ct} {e:Aw},aR Γ (.cmp2 I L a b c) e=true->∃l m r p,e=.Compare l [I,L] [m,r] p/\aR Γ a l=true/\aR Γ b m=true/\aR Γ c r=true:=λ{Γ e} h=>by
  obtain⟨⟨l,os,rs⟩,U,g⟩:=aD h;clear h;obtain⟨p,rfl⟩:=U;have h:=g;clear g;rcases os with _|⟨W,_|⟨q0,_|⟨_,_⟩⟩⟩
  cases h;cases h;rcases rs with _|⟨m,_|⟨r,_|⟨_,_⟩⟩⟩
  cases h;cases h;obtain⟨U,h2,B,G,q⟩:=zZ h;have e:I=W:=eq_of_beq U;subst e;have e:L=q0:=eq_of_beq h2;subst e;exact⟨l,m,r,p,rfl,B,G,q⟩;cases h;cases h
 refine⟨λ{X Γ} M {e} h RT Y old Z=>?_,λ{X Γ} M {e} h RT Y old Z=>?_,λ{X Γ} M {o xs pos} h RT Y old Z=>absurd h bN⟩;obtain⟨l,m,r,p,rfl,B,G,q⟩:=h0 h;exact aIy M (ha.e M B RT Y old Z) (hb.e M G RT Y old Z) (hc.e M q RT Y old Z) (aP q);obtain⟨l,m,r,p,rfl,B,G,q⟩:=h0 h;exact aIz M (ha.e M B RT Y old Z) (hb.e M G RT Y old Z) (hc.e M q RT Y old Z) (aP q)
theorem aLA{a b:E}(G:Q3 P n a)(I:Q3 P n b):Q3 P n (.idx a b):=by
 have k:PEc P n (.idx a b):=λ{X Γ} M {e} h RT Y old Z=>by obtain⟨⟨x,i⟩,l,g⟩:=aD h;clear h;obtain⟨p,rfl⟩:=l;have h:=g;clear g;obtain⟨l,B⟩:=eQ h;exact aLb (G.e M l RT Y old Z) (I.e M B RT Y old Z) (aP B)
 refine⟨k,λ{X Γ} M {e} h RT Y old Z=>?_,λ{X Γ} M {o xs pos} h RT Y old Z=>absurd h bN⟩;refine sB (k M h RT Y old Z) ?_ λp q=>?_;obtain⟨⟨x,i⟩,⟨p,rfl⟩,_⟩:=aD h;intro _;rfl;have q:=RE.bind' (show RE (ev P (call P n) Z a >>= λx=>ev P (call P n) Z b >>= λy=>cP x y >>= λz=>fP z) p from q);show RE (ev P (call P n) Z a >>= λx=>ev P (call P n) Z b >>= λy=>cP x y) _;rw[RE.bind];refine q.mono λx L=>?_;rw[RE.bind];exact(RE.bind' L).mono λy U=>RE.bind' U
theorem aLB{a:E}{lo hi:Es}(L:Q3 P n a)(W:QA P n lo)(U:QA P n hi):Q3 P n (.sli a lo hi):=Q3.of (λ{X Γ} M {e} h RT Y old Z=>by
 obtain⟨⟨x,i⟩,q,g⟩:=aD h;clear h;obtain⟨p,rfl⟩:=q;have h:=g;clear g;obtain⟨⟨l,u⟩,q,g⟩:=aD h;clear h;obtain⟨p2,B⟩:=q;have h:=g;clear g;have B:i=.Slice l u none p2:=B;subst B;obtain⟨q,G,I⟩:=fT h;exact aLi (L.e M q RT Y old Z) (W.o M G RT Y old Z) (U.o M I RT Y old Z)) (λ_=>rfl) rfl
theorem aLC{es:Es}(B:QA P n es):Q3 P n (.tup es):=Q3.of (λ{X Γ} M {e} h RT Y old Z=>by
 obtain⟨xs,l,g⟩:=aD h;clear h;obtain⟨k,p,rfl⟩:=l;have h:=g;clear g;obtain⟨l,q⟩:=eQ h;exact aLc (B.a M q RT Y old Z) q (of_decide_eq_true l)) (λ_=>rfl) rfl
theorem aLD{es:Es}(B:QA P n es):Q3 P n (.lst es):=Q3.of (λ{X Γ} M {e} h RT Y old Z=>by
 obtain⟨xs,l,g⟩:=aD h;clear h;obtain⟨p,rfl⟩:=l;have h:=g;clear g;obtain⟨l,q⟩:=eQ h;exact aLd (B.a M q RT Y old Z) q (of_decide_eq_true l)) (λ_=>rfl) rfl
theorem aJh{f:Nat}{es:Es}(L:QA P n es):Q3 P n (.call f es):=by
 have k:PEc P n (.call f es):=λ{X Γ} M {e} h RT Y old Z=>by obtain⟨⟨x,xs⟩,l,g⟩:=aD h;clear h;obtain⟨p1,p2,rfl⟩:=l;have h:=g;clear g;obtain⟨l,G,I,q⟩:=aLt h;exact aIw M (eq_of_beq l) G I (L.a M q RT Y old Z) (gX q) q
 refine⟨k,λ{X Γ} M {e} h RT Y old Z=>?_,λ{X Γ} M {o xs pos} h RT Y old Z=>absurd h bN⟩;refine sB (k M h RT Y old Z) ?_ λp B=>?_;obtain⟨⟨x,xs⟩,⟨p1,p2,rfl⟩,_⟩:=aD h;intro _;rfl;have B:=RE.bind' (show RE (evs P (call P n) Z es >>= λvs=>call P n f (vs.map (·.d)) >>= λr=>fP (gO vs r)) p from B);show RE (evs P (call P n) Z es >>= λvs=>call P n f (vs.map (·.d)) >>= λr=>R.ok (gO vs r)) _;rw[RE.bind];refine B.mono λx U=>?_;rw[RE.bind];exact(RE.bind' U).mono λy W=>W
theorem aND{b:Bi}{es:Es}(W:QA P n es):Q3 P n (.bi b es):=by
 have k:PEc P n (.bi b es):=λ{X Γ} M {e} h RT Y old Z=>by
  obtain⟨⟨x,xs⟩,l,g⟩:=aD h;clear h;obtain⟨p1,p2,rfl⟩:=l;have h:=g;clear g;obtain⟨h,B⟩:=eQ h;obtain⟨l,G,I,L,U⟩:=zZ h;cases xs with
  | nil=>cases U|cons y ys=>exact aNv M l (eq_of_beq G) I L (W.a M B RT Y old Z) (gX B)
 refine⟨k,λ{X Γ} M {e} h RT Y old Z=>?_,λ{X Γ} M {o xs pos} h RT Y old Z=>absurd h bN⟩;refine sB (k M h RT Y old Z) ?_ λp q=>?_;obtain⟨⟨x,xs⟩,⟨p1,p2,rfl⟩,_⟩:=aD h;intro _;rfl;have q:=RE.bind' (show RE (evs P (call P n) Z es >>= λvs=>biD b vs >>= λx=>fP x) p from q);show RE (evs P (call P n) Z es >>= λvs=>biD b vs) _;rw[RE.bind];exact q.mono λx hx=>RE.bind' hx
theorem aLE{a:E}{cs:List Cl}(ha:Q3 P n a):Q3 P n (.isi a cs):=by
 have k:PEc P n (.isi a cs):=λ{X Γ} M {e} h RT Y old Z=>by
  obtain⟨⟨f,xs⟩,G,g⟩:=aD h;clear h;obtain⟨p1,p2,rfl⟩:=G;have h:=g;clear g;rcases cs with _|⟨c,_|⟨_,_⟩⟩
  cases h;rcases xs with _|⟨x,_|⟨y,_|⟨_,_⟩⟩⟩
  cases h;cases h;obtain⟨G,h2,h3,W,l⟩:=zZ h;unfold aHg at l;split at l;rename_i z p3;obtain⟨q1,q2,q3⟩:=fT l;have I:∃U,wU c=some U:=by cases c <;> first|exact⟨_,rfl⟩|cases h3
  obtain⟨U,I⟩:=I;exact aLe M (eq_of_beq G) h2 I (eq_of_beq q1) q2 q3 (ha.e M W RT Y old Z) (aP W);cases l;cases h;cases h
 refine⟨k,λ{X Γ} M {e} h RT Y old Z=>?_,λ{X Γ} M {o xs pos} h RT Y old Z=>absurd h bN⟩;refine sB (k M h RT Y old Z) ?_ λp L=>?_;obtain⟨⟨x,xs⟩,⟨p1,p2,rfl⟩,_⟩:=aD h;intro _;rfl;have L:=RE.bind' (show RE (ev P (call P n) Z a >>= λx=>(match isI cs P x.d with|some k=>R.ok k|none=>.bad)) p from L);show RE (ev P (call P n) Z a >>= λx=>(match isI cs P x.d with|some k=>R.ok (Vl.cl (.bl k))|none=>.bad)) _;rw[RE.bind];refine L.mono λx B=>?_;cases q:isI cs P x.d with
 | none=>rw[q] at B;exact B.elim|some k=>rw[q] at B;exact B
theorem aJi{k:Nat}{caps:List Nat}{t:T}{it:Hp.It}{cond:Es}{elt:E}(hi:QI P n it)(hc:QA P n cond)(he:Q3 P n elt):Q3 P n (.comp k caps t it cond elt):=Q3.of (λ{X Γ} M {e} h RT Y old Z=>by
 obtain⟨el,tg,G,q0,scope,pos,rfl,O,I,L,B,U,W⟩:=aBa h;refine aIJ M (O.scope M) O.ndc O.tk (hi M B RT Y old Z) (λC s₀ H₀ ex=>?_) (lT (jU B));have l:=O.mc M C s₀ H₀ ex;exact⟨aDC l L,λRT Y old q=>hc.ts l I U RT Y old q,λRT Y old q=>he.e l W RT Y old q⟩) (λ_=>rfl) rfl
theorem aJj{i:Nat}{a:E}(ha:Q3 P n a):Q3 P n (.tget i a):=Q3.of (λ{X Γ} M {e} h RT Y old Z=>by
 obtain⟨⟨o,m,xs,l⟩,q,g⟩:=aD h;clear h;obtain⟨ap,cp,rfl,I⟩:=q;have h:=g;clear g;obtain⟨x,q,g⟩:=aD h;clear h;obtain⟨p,G⟩:=q;have h:=g;clear g;have G:o=.Name x p:=G;subst G;obtain⟨h,B⟩:=eQ h;obtain⟨q,L,U,W,h5⟩:=zZ h;rw[show l=true from h5] at I;rcases xs with _|⟨y,_|⟨_,_⟩⟩
 cases B;exact aIx M (eq_of_beq q) (eq_of_beq L) U W I (ha.e M B RT Y old Z) (aP B);cases B) (λ_=>rfl) rfl
theorem fC{c:E}(h:∀{Γ:Ct} {e:Aw},aR Γ c e=false):Q3 P n c:=
 ⟨λ{X Γ} M {e} z=>absurd (h.symm.trans z) bN,λ{X Γ} M {e} z=>absurd (h.symm.trans z) bN,λ{X Γ} M {o xs pos} z=>absurd (h.symm.trans z) bN⟩
theorem aLF:QA P n .nil:=by
 refine⟨λ{X Γ} M {es} h RT Y old Z=>?_,λ{X Γ} M {e} h RT Y old Z=>?_,λ{X Γ} M {es} l h RT Y old Z=>?_⟩;cases es with
 | nil=>exact aAI|cons _ _=>exact nf h
 cases e with
 | none=>exact aLg|some _=>exact nf h
 cases es with
 | nil=>exact aIH|cons _ _=>exact nf h
theorem aJk{c:E}{cs:Es}(B:Q3 P n c)(hs:QA P n cs):QA P n (.cons c cs):=by
 refine⟨λ{X Γ} M {es} h RT Y old Z=>?_,λ{X Γ} M {e} h RT Y old Z=>?_,λ{X Γ} M {es} G h RT Y old Z=>?_⟩;cases es with
 | nil=>exact nf h|cons e es=>obtain⟨l,q⟩:=eQ h;exact lU (B.e M l RT Y old Z) (hs.a M q RT Y old Z) (aP l)
 cases cs with
 | nil=>cases e with|none=>exact nf h|some e=>exact aLh (B.e M (by exact h) RT Y old Z)
 | cons _ _=>cases e <;> exact nf h
 cases es with
 | nil=>exact nf h|cons e es=>
  obtain⟨l,q⟩:=eQ h;cases es with
  | nil=>cases cs with|nil=>exact aII (B.t M l RT Y old Z)|cons _ _=>exact absurd q bN
  | cons _ _=>simp at G
theorem aLG{c:E}(l:Q3 P n c):QI P n (.seq c):=λ{X Γ} M {tg e} h RT Y old Z=>aLj (l.e M (by exact h) RT Y old Z)
theorem aLH{a b:E}(U:Q3 P n a)(I:Q3 P n b):QI P n (.rng a b):=λ{X Γ} M {tg e} h RT Y old Z=>by
 rw[xS] at h;obtain⟨⟨f,xs⟩,B,g⟩:=aD h;clear h;obtain⟨W,p2,rfl⟩:=B;have h:=g;clear g;obtain⟨B,G,l⟩:=fT h;rcases xs with _|⟨x,_|⟨y,_|⟨_,_⟩⟩⟩
 cases l;obtain⟨l,q⟩:=eQ l;have L:a=.c (.int 0):=by unfold zJ at l;split at l;rw[eq_of_beq l];cases l
 rw[L];exact aIF M (eq_of_beq B) G (I.e M q RT Y old Z) (aP q);obtain⟨l,q⟩:=eQ l;exact aIG M (eq_of_beq B) G (U.e M l RT Y old Z) (I.e M q RT Y old Z) (aP l) (aP q);cases l
theorem aLI{a b:E}(L:Q3 P n a)(U:Q3 P n b):QI P n (.zip a b):=λ{X Γ} M {tg e} h RT Y old Z=>by
 rw[xT] at h;obtain⟨⟨f,xs⟩,q,g⟩:=aD h;clear h;obtain⟨W,p2,rfl⟩:=q;have h:=g;clear g;rcases xs with _|⟨x,_|⟨y,_|⟨_,_⟩⟩⟩
 cases h;cases h;obtain⟨l,q,I,B,G⟩:=zZ h;unfold rZ at l;split at l;exact aLk M (eq_of_beq q) I (L.e M B RT Y old Z) (U.e M G RT Y old Z) (aP B) (aP G);cases l;cases h
theorem aHq{it:Hp.It}(z:∀Γ tt e,chkI Γ tt it e=false):QI P n it:=by intro X Γ M tg e h RT Y old Z;rw[z] at h;cases h
mutual
theorem qE:(c:E)->Q3 P n c
 | .c _=>n_c|.v _=>n_v|.op _ a b=>aNA (qE a) (qE b)|.neg a=>aLu (qE a)|.nt a=>aNB (qE a)|.an a b=>aNC (qE a) (qE b)|.orr a b=>aLv (qE a) (qE b)|.ife t a b=>aLw (qE t) (qE a) (qE b)|.cmp _ a b=>aLx (qE a) (qE b)|.dnin _ _=>fC rfl|.dget _ _=>fC rfl|.dlen _=>fC rfl|.din _ _=>fC rfl|.dgd _ _ _=>fC rfl|.srtD _=>aJf|.rvs a=>aLy (qE a)|.sst a=>aLz (qE a)|.sop _ _ _=>fC rfl|.cmp2 _ _ a b c=>aJg (qE a) (qE b) (qE c)|.idx a b=>aLA (qE a) (qE b)|.sli a lo hi=>aLB (qE a) (qA lo) (qA hi)|.tup es=>aLC (qA es)|.lst es=>aLD (qA es)|.dic _ _=>fC rfl|.call _ es=>aJh (qA es)|.bi _ es=>aND (qA es)|.mth _ _ _=>fC rfl|.isi a _=>aLE (qE a)|.attr _ _=>fC rfl|.comp _ _ _ it cond elt=>aJi (qI it) (qA cond) (qE elt)|.numset _=>fC rfl|.tget _ a=>aJj (qE a)|.lzip _ _=>fC rfl
theorem qA:(cs:Es)->QA P n cs
 | .nil=>aLF|.cons c cs=>aJk (qE c) (qA cs)
theorem qI:(it:Hp.It)->QI P n it
 | .seq c=>aLG (qE c)|.rng a b=>aLH (qE a) (qE b)|.zip a b=>aLI (qE a) (qE b)|.enum _=>aHq λ_ _ _=>rfl|.rev _=>aHq λ_ _ _=>rfl
end
theorem sE(c:E):PEc P n c:=(qE c).e
theorem sT(c:E):PTc P n c:=(qE c).t
theorem sTs(cs:Es):∀{X:Cx} {Γ:Ct},Mc X P Γ n->∀{es:List Aw},es.length<=1->chkEs Γ cs es=true->∀(RT Y old:Addr->Prop) (Z:Sg),PTs X es (wTs X P n RT Y old Z cs):=(qA cs).ts
theorem sI(it:Hp.It):QI P n it:=qI it
end
end Hp
end
noncomputable section
set_option maxHeartbeats 4000000
namespace Hp
open PySem PySem.Spec PyProof.Rows L2
noncomputable def cZ(K:Fg)(RT Y old:Addr->Prop)(H:Hp)(Z':Sg)(Q:L2.St->Hp->Prop):Prop:=
 ∀(RT':Addr->Prop) (ZV':L2.St) (H':Hp),Kp RT H H'->(∀b,RT' b->RT b\/H b=none)->Sx K RT' Y old Z' ZV' H'->Q ZV' H'
noncomputable def Rtv(K:Fg)(Y old:Addr->Prop)(H':Hp)(v:Vl)(u:V):Prop:=
 if v.fr=true then ∃a xs ds,u=.ref a/\v.d=.lst ds/\¬ old a/\H' a=some (.lst xs)/\Reps K H' (λb=>b=a\/exB Y old v.pa b) ds xs
 else Rep K H' (exB Y old v.pa) v.d u
noncomputable def qC(K:Fg)(RT Y old:Addr->Prop)(H:Hp)(v:Vl)(Q:VK):Prop:=∀(u:V) (H':Hp),Kp RT H H'->Tk K H'->Rtv K Y old H' v u->Q u H'
noncomputable def OE(K:Fg)(RT Y old:Addr->Prop)(H:Hp)(o:O)(D:Ends):Prop:=match o with|.next Z'=>cZ K RT Y old H Z' D.nx|.brk Z'=>cZ K RT Y old H Z' D.bk|.cnt Z'=>cZ K RT Y old H Z' D.ct|.ret v=>qC K RT Y old H v D.rt|.exc _ _=>False|.bad=>False
noncomputable def wS(X:Cx)(RT Y old:Addr->Prop)(Z:Sg)(o:O):TS:=λD ZV H=>Sx X.K RT Y old Z ZV H/\OE X.K RT Y old H o D
section
variable {K:Fg} {RT RT' RT'' Y old:Addr->Prop} {Z:Sg} {ZV:L2.St} {H H1 H2:Hp} {o:O} {D D':Ends}
theorem Kp.chain(a:Kp RT H H1)(s:∀b,RT' b->RT b\/H b=none)(b:Kp RT' H1 H2):Kp RT H H2:=λc o e n=>b c o (a c o e n) λz=>(s c z).elim n λq=>by rw[q] at e;cases e
theorem mK(a:Kp RT H H1)(s1:∀b,RT' b->RT b\/H b=none)(s2:∀b,RT'' b->RT' b\/H1 b=none):∀b,RT'' b->RT b\/H b=none:=λb z=>by
 rcases s2 b z with q|q;exact s1 b q;by_cases l:RT b;exact .inl l;refine .inr ?_;cases e:H b with
 | none=>rfl|some o=>rw[a b o e l] at q;cases q
theorem cZ.mono{Z':Sg}{Q:L2.St->Hp->Prop}(a:Kp RT H H1)(s:∀b,RT' b->RT b\/H b=none)(h:cZ K RT Y old H Z' Q):cZ K RT' Y old H1 Z' Q:=λl q H2 k n S=>h l q H2 (a.chain s k) (mK a s n) S
theorem OE.mono(a:Kp RT H H1)(s:∀b,RT' b->RT b\/H b=none)(h:OE K RT Y old H o D):OE K RT' Y old H1 o D:=by
 cases o with
 | next Z'=>exact cZ.mono a s h|brk Z'=>exact cZ.mono a s h|cnt Z'=>exact cZ.mono a s h|ret v=>exact λu H2 k t r=>(show qC K RT Y old H v D.rt from h) u H2 (a.chain s k) t r|exc x Z'=>exact h|bad=>exact h
theorem bI:∀b,RT b->RT b\/H b=none:=λ_ z=>.inl z
noncomputable def tkE(K:Fg)(D:Ends):Ends:=⟨λZ H=>Tk K H->D.nx Z H,λv H=>Tk K H->D.rt v H,λZ H=>Tk K H->D.bk Z H,λZ H=>Tk K H->D.ct Z H⟩
theorem OE.from{α:Type}{x:R α}{f:α->O}(h:OE K RT Y old H (O.from Z x f) D):RE x λa=>OE K RT Y old H (f a) D:=by
 cases x with
 | ok a=>exact h|exc e=>exact h|bad=>exact h
end
section
variable {X:Cx} {st:CG} {t t':TS}
theorem aHr{pins:List (Addr×Obj)}{D:Ends}{f:Flow}{l:Ac}(h:SP X pins (tkE X.K D) f l):SP X pins D f l:=by
 cases f with
 | next=>obtain⟨Z',H',I,q⟩:=h;exact⟨Z',H',I,q I.tk⟩|brk=>obtain⟨Z',H',I,q⟩:=h;exact⟨Z',H',I,q I.tk⟩|cont=>obtain⟨Z',H',I,q⟩:=h;exact⟨Z',H',I,q I.tk⟩|ret u=>obtain⟨v,Z',H',I,r,q⟩:=h;exact⟨v,Z',H',I,r,q I.tk⟩
theorem cB(h:PS X st t)(f:∀D ZV H,Tk X.K H->t' D ZV H->t (tkE X.K D) ZV H):PS X st t':=λpins s ZV H D I l=>thn (h pins s ZV H _ I (f D ZV H I.tk l)) λfl B q=>aHr q
theorem uO{l:List CG}(h:PSs X l t)(f:∀D ZV H,Tk X.K H->t' D ZV H->t (tkE X.K D) ZV H):PSs X l t':=λpins s ZV H D I B=>thn (h pins s ZV H _ I (f D ZV H I.tk B)) λfl G q=>aHr q
theorem aBc{Y old:Addr->Prop}{l:List CG}{f:Sg->O}(h:∀RT Z,PSs X l (wS X RT Y old Z (f Z))):PSs X l (λD ZV H=>∃RT Z,wS X RT Y old Z (f Z) D ZV H):=λpins s ZV H D I ⟨RT,Z,q⟩=>h RT Z pins s ZV H D I q
end
section
variable {X:Cx} {P:Pg} {Γ:Ct} {n:Nat} {RT Y old:Addr->Prop} {Z:Sg} {pos:DK}
theorem cZ.tkE{Z':Sg}{Q:L2.St->Hp->Prop}{H:Hp}(h:cZ X.K RT Y old H Z' Q):cZ X.K RT Y old H Z' λZ H=>Tk X.K H->Q Z H:=λl q H' k n S _=>h l q H' k n S
theorem OE.tkE{o:O}{D:Ends}{H:Hp}(h:OE X.K RT Y old H o D):OE X.K RT Y old H o (tkE X.K D):=by
 cases o with
 | next Z'=>exact cZ.tkE h|brk Z'=>exact cZ.tkE h|cnt Z'=>exact cZ.tkE h|ret v=>exact λu l k t r _=>(show qC X.K RT Y old H v D.rt from h) u l k t r|exc x Z'=>exact h|bad=>exact h
theorem aLJ:PSs X [] (wS X RT Y old Z (exs P (call P n) Z .nil)):=uO aFg λD ZV H t ⟨S,h⟩ _=>(show cZ X.K RT Y old H Z D.nx from h) RT ZV H (Kp.refl RT H) bI S
theorem aJl{s:S}{ss:Ss}{x:CG}{xs:List CG}(I:∀RT Z,PS X x (wS X RT Y old Z (ex P (call P n) Z s)))(L:∀RT Z,PSs X xs (wS X RT Y old Z (exs P (call P n) Z ss))) :
 PSs X (x::xs) (wS X RT Y old Z (exs P (call P n) Z (.cons s ss))):=by
 refine uO (aCw (I RT Z) (aBc L)) λD ZV H t ⟨S,h⟩=>?_;have h:OE X.K RT Y old H ((ex P (call P n) Z s).on λZ'=>exs P (call P n) Z' ss) D:=h;refine⟨S,?_⟩;cases q:ex P (call P n) Z s with
 | next Z'=>rw[q] at h;exact λl G H' k M B=>⟨l,Z',B,(OE.mono k M (show OE X.K RT Y old H (exs P (call P n) Z' ss) D from h)).tkE⟩
 | brk Z'=>rw[q] at h;exact OE.tkE (D:=D) (o:=.brk Z') h|cnt Z'=>rw[q] at h;exact OE.tkE (D:=D) (o:=.cnt Z') h|ret v=>rw[q] at h;exact OE.tkE (D:=D) (o:=.ret v) h|exc e Z'=>rw[q] at h;exact h|bad=>rw[q] at h;exact h
theorem aJm:PS X (.Pass pos) (wS X RT Y old Z (ex P (call P n) Z .pass)):=cB aFh λD ZV H t ⟨S,h⟩ _=>(show cZ X.K RT Y old H Z D.nx from h) RT ZV H (Kp.refl RT H) bI S
theorem aLK:PS X (.Break pos) (wS X RT Y old Z (ex P (call P n) Z .brk)):=cB aCx λD ZV H t ⟨S,h⟩ _=>(show cZ X.K RT Y old H Z D.bk from h) RT ZV H (Kp.refl RT H) bI S
theorem aLL:PS X (.Continue pos) (wS X RT Y old Z (ex P (call P n) Z .cnt)):=cB vR λD ZV H t ⟨S,h⟩ _=>(show cZ X.K RT Y old H Z D.ct from h) RT ZV H (Kp.refl RT H) bI S
theorem aLM{st:CG}{c:Nat}{k:Bool}{es:Es}:PS X st (wS X RT Y old Z (ex P (call P n) Z (.rse c k es))):=cB aCz λD ZV H t ⟨S,h⟩=>by have h:OE X.K RT Y old H (O.from Z (evs P (call P n) Z es) λvs=>.exc (.err c (if k then vs.map (·.d) else [])) Z) D:=h;obtain⟨vs,_,q⟩:=(OE.from h).eq;exact q
theorem aBd{pa:Bool}{al:List Nat}{ZV:L2.St}{b:Addr}(h:exB Y old pa b):exV RT Y old Z ZV pa al b:=.inr h
theorem Ro.rtv{H H':Hp}{ZV:L2.St}{v:Vl}{u:V}(S:Sx X.K RT Y old Z ZV H)(ro:Ro X.K RT Y old Z ZV H H' v u):Rtv X.K Y old H' v u:=by unfold Rtv;by_cases l:v.fr=true;rw[if_pos l];obtain⟨s,h⟩:=ro;rw[if_pos l] at h;obtain⟨a,xs,ds,q,B,G,I,r⟩:=h;exact⟨a,xs,ds,q,B,λz=>S.trk a (.inr (.inr z)) G,I,r.weak λb z=>z.elim .inl λz=>.inr (aBd z)⟩;rw[if_neg l];exact Rep.weak (ro.rv S) λb z=>aBd z
theorem aLN{c:E}{e:Aw}(q:PE X e (WE X P n RT Y old Z c)):PS X (.Return (some e) pos) (wS X RT Y old Z (ex P (call P n) Z (.ret c))):=by
 refine cB (aCy q) λD ZV H t ⟨S,h⟩=>?_;have h:=OE.from (show OE X.K RT Y old H (O.from Z (ev P (call P n) Z c) .ret) D from h)
 exact wE.one S h λx u H1 B G I l _=>(show qC X.K RT Y old H x D.rt from B) u H1 (Kp.same l.1) G (l.rtv S)
theorem aJn:PS X (.Return none pos) (wS X RT Y old Z (ex P (call P n) Z .retN)):=cB aFi λD ZV H t ⟨S,h⟩ _=>(show qC X.K RT Y old H (.cl .non) D.rt from h) .non H (Kp.refl RT H) t rfl
theorem aJo{i:Nat}{x:Str}{p:DK}(M:Mc X P Γ n)(I:cI Γ i x=true):PS X (.Return (some (.Name x p)) pos) (wS X RT Y old Z (ex P (call P n) Z (.retv i))):=by
 have G:PE X (.Name x p) (aHG i):=by unfold cI at I;obtain⟨q,l,B⟩:=fT I;exact tG (by rw[M.N];exact eq_of_beq q) (M.vis l) (aY B) (iO B)
 refine cB (aCy G) λD ZV H t ⟨S,h⟩=>?_;have h:OE X.K RT Y old H (match Z[i]? with|some (.own pa ds)=>.ret ⟨.lst ds,true,pa,[]⟩|_=>O.from Z (bH Z i) .ret) D:=h;unfold bH at h;cases e:Z[i]? with
 | none=>rw[e] at h;exact h.elim|some sl=>
  rw[e] at h;cases sl with
  | dead=>exact h.elim|dct _=>exact h.elim|own pa ds=>obtain⟨a,xs,q,l,B,L,U⟩:=S.own i pa ds e;refine⟨.ref a,q,λ_=>(show qC X.K RT Y old H ⟨.lst ds,true,pa,[]⟩ D.rt from h) _ H (Kp.refl RT H) t ?_⟩;unfold Rtv;rw[if_pos rfl];exact⟨a,xs,ds,rfl,rfl,L,l,U.weak λb z=>z.elim (λz=>.inl (by rw[z];exact B)) .inr⟩|sh pa d=>
   obtain⟨v,q,l⟩:=S.sh i pa d e;refine⟨v,q,λ_=>(show qC X.K RT Y old H ⟨d,false,pa&&!noL d,[]⟩ D.rt from h) v H (Kp.refl RT H) t ?_⟩;unfold Rtv;rw[if_neg bN];show Rep X.K H (exB Y old (pa&&!noL d)) d v;cases W:noL d with
   | true=>exact Rep.free d v W l|false=>refine l.weak λb z=>.inr ?_;rw[DS,DF] at z;exact z
theorem aNE{c:E}{e:Aw}(q:PE X e (WE X P n RT Y old Z c))(hs:gR e=false):PS X (.Expr e pos) (wS X RT Y old Z (ex P (call P n) Z (.ex c))):=by
 refine cB (nQ q (by cases e <;> first|rfl|cases hs)) λD ZV H t ⟨S,h⟩=>?_;have h:=OE.from (show OE X.K RT Y old H (O.from Z (ev P (call P n) Z c) λ_=>.next Z) D from h)
 exact wE.one S h λx u H1 B I l G _=>(show cZ X.K RT Y old H Z D.nx from B) RT ZV H1 (Kp.same G.1) bI l
theorem aNF{c:E}{a b:Ss}{e:Aw}{B G:List CG}(M:PT X e (WT X P n RT Y old Z c))(I:∀RT Z,PSs X B (wS X RT Y old Z (exs P (call P n) Z a)))(L:∀RT Z,PSs X G (wS X RT Y old Z (exs P (call P n) Z b))) :
 PS X (.If e B G pos) (wS X RT Y old Z (ex P (call P n) Z (.iff c a b))):=by
 refine cB (aKl M (I RT Z) (L RT Z)) λD ZV H t ⟨S,h⟩=>?_;have h:=OE.from (show OE X.K RT Y old H (O.from Z (tst P (call P n) Z c) λk=>if k=true then exs P (call P n) Z a else exs P (call P n) Z b) D from h)
 refine⟨S,h.mono λk l H1 q s1=>?_⟩;cases k with
 | true=>rw[if_pos rfl] at l ⊢;exact⟨S.grow s1 q,(OE.mono (Kp.same s1) bI l).tkE⟩|false=>rw[if_neg bN] at l ⊢;exact⟨S.grow s1 q,(OE.mono (Kp.same s1) bI l).tkE⟩
theorem uP{ZV:L2.St}{H H1:Hp}{v:Vl}{u:V}{t:T}{D:Ends}(S:Sx X.K RT Y old Z ZV H)(M:Tk X.K H1)(l:Ro X.K RT Y old Z ZV H H1 v u)(h:OE X.K RT Y old H (O.from Z (bK (freeze Z v.al) v t) .next) D):gT X.K t u ZV H1 D.nx:=by
 obtain⟨Z2,e,B⟩:=(OE.from h).eq;have B:cZ X.K RT Y old H Z2 D.nx:=B;clear h;cases t with
 | n i=>obtain⟨I,U,G⟩:=S.store l M i;rw[pO e] at B;exact B I _ H1 (Kp.same l.1) G U|t is=>
  obtain⟨ds,hd,hl,e'⟩:=pN e;have Sf:=(S.grow l.1 M).frz v.al;have hr:Rep X.K H1 (λa=>rtF RT Z ZV v.al a\/exB Y old v.pa a) v.d u:=l.rv S;have q:v.fr=false\/v.fr=true:=by cases v.fr <;> simp
  rcases q with q|q;exact aAJ Sf q hr e λq0 W _=>B _ _ _ (Kp.same l.1) (λb z=>.inl z.1) W;have:=l.2;rw[if_pos q] at this;obtain⟨a,xs,ds',_,L,_⟩:=this;rw[hd] at L;cases L
theorem aJp{c:E}{e:Aw}{i:Nat}{x:Str}{p:DK}(M:Mc X P Γ n)(q:bQ Γ i x=true)(G:PE X e (WE X P n RT Y old Z c))(hs:gR e=false):PS X (.Assign [.Name x p] e pos) (wS X RT Y old Z (ex P (call P n) Z (.set (.n i) c))):=by
 unfold bQ at q;obtain⟨B,l,h3⟩:=fT q;refine cB (tK (i:=i) M.nd (by rw[M.N];exact eq_of_beq B) (M.loc l) G (by cases e <;> first|rfl|cases hs) (M.st x l)) λD ZV H t ⟨S,h⟩=>?_;have h:=OE.from (show OE X.K RT Y old H (O.from Z (ev P (call P n) Z c) λv=>O.from Z (bK (freeze Z v.al) v (.n i)) .next) D from h)
 exact wE.one S h λv u H1 I U W L=>uP (t:=.n i) S U L (OE.tkE I)
theorem aJq{c:E}{e:Aw}{is:List Nat}{es:List Aw}{k:Nat}{p:DK}(M:Mc X P Γ n)(B:nM Γ (.t is) (.Tuple es k p)=true)(l:PE X e (WE X P n RT Y old Z c))(hs:pA e=false):PS X (.Assign [.Tuple es k p] e pos) (wS X RT Y old Z (ex P (call P n) Z (.set (.t is) c))):=by
 refine cB (tJ l (aDC M B) (by cases e <;> rfl) (by cases e <;> first|rfl|cases hs)) λD ZV H t ⟨S,h⟩=>?_;have h:=OE.from (show OE X.K RT Y old H (O.from Z (ev P (call P n) Z c) λv=>O.from Z (bK (freeze Z v.al) v (.t is)) .next) D from h)
 exact wE.one S h λv u H1 q I L G=>uP (t:=.t is) S I G (OE.tkE q)
theorem aCd{i:Nat}{x:Str}{p B:DK}(M:Mc X P Γ n)(hx:bQ Γ i x=true){k:Nat}{caps:List Nat}{t:T}{it:Hp.It}{cond:Es}{elt:E}{e tg q:Aw}{G:List Aw}{scope:DL}{N':List Str}(CS:cT X scope k caps N')(q0:caps.Nodup)(hk:∀i∈tIx t,i<k)
 (hi:PI X tg q (wI X P n RT Y old Z it))
 (W:∀C s₀ H₀ ex,PG (dN X scope N' C s₀ H₀ ex) tg (gT X.K t)/\(∀RT Y old l,PTs (dN X scope N' C s₀ H₀ ex) G (wTs X P n RT Y old l cond))/\∀RT Y old l,PE (dN X scope N' C s₀ H₀ ex) e (WE X P n RT Y old l elt))
 (hs:∀x,C4 q X.env x=pure x):PS X (.Assign [.Name x p] (.ListComp e [⟨tg,q,G,0⟩] scope B) pos) (wS X RT Y old Z (ex P (call P n) Z (.set (.n i) (.comp k caps t it cond elt)))):=by
 unfold bQ at hx;obtain⟨U,L,h3⟩:=fT hx;refine cB (zL (g:=gT X.K t) (tt:=λZV H Q=>∃RT Y old l,wTs X P n RT Y old l cond ZV H Q) (te:=λZV H Q=>∃RT Y old l,WE X P n RT Y old l elt ZV H Q) CS M.calm hi (λC s₀ H₀ ex=>?_) hs M.nd (by rw[M.N];exact eq_of_beq U) (M.loc L) (M.st x L)) λD ZV H t0 ⟨S,h⟩=>?_;obtain⟨U,L,h3⟩:=W C s₀ H₀ ex;exact⟨U,λpins s ZV H Q I ⟨RT,Y,old,l,hw⟩=>L RT Y old l pins s ZV H Q I hw,λpins s ZV H Q I ⟨RT,Y,old,l,hw⟩=>h3 RT Y old l pins s ZV H Q I hw⟩;have h:=OE.from (show OE X.K RT Y old H (O.from Z (ev P (call P n) Z (.comp k caps t it cond elt)) λv=>O.from Z (bK (freeze Z v.al) v (.n i)) .next) D from h)
 exact aDE (Q:=λv H'=>rQ i v ZV H' D.nx) q0 hk ⟨S,h.mono λv hv u H1 t1 r1=>uP (t:=.n i) S t1 r1 hv⟩
theorem Sx.mut{K:Fg}{ZV:L2.St}{H:Hp}(S:Sx K RT Y old Z ZV H){i:Nat}{pa pa':Bool}{ds ds':List D}{a:Addr}{l:List V}(e:Z[i]? = some (.own pa ds))(W:ZV[i]? = some (some (.ref a)))(r:Reps K H (λb=>RT b\/exB Y old pa' b) ds' l) :
 Sx K RT Y old (Z.set i (.own pa' ds')) ZV (upd H a (.lst l)):=by
 obtain⟨a',xs,h1,M,h3,h4,h5⟩:=S.own i pa ds e;rw[W] at h1;cases h1;have ks:∀{ex:Addr->Prop},∀b o,H b=some o->(∀ys,o=.lst ys->¬ (RT b\/ex b))->(∀φ,o≠.ext φ)->upd H a (.lst l) b=some o:=λ{ex} b o q hl _=>by rw[aM λz=>by subst z;rw[M] at q;cases q;exact hl xs rfl (.inl h3)];exact q
 exact {
  sh:=λj G d q=>by
   rcases set_some q with⟨_,z,_⟩|⟨_,q⟩
   cases z;obtain⟨v,L,U⟩:=S.sh j G d q;exact⟨v,L,U.keep ks⟩
  own:=λj G I q=>by
   rcases set_some q with⟨rfl,z,_⟩|⟨q0,q⟩
   cases z;exact⟨a,l,W,bP,h3,h4,r.keep ks⟩;obtain⟨b,ys,L,U,g3,g4,g5⟩:=S.own j G I q;have B:b≠a:=λz=>by subst z;exact q0 (S.inj i j pa G ds I b e q W L)
   exact⟨b,ys,L,by rw[aM B];exact U,g3,g4,g5.keep ks⟩
  trk:=λb z q=>by by_cases B:b=a;rw[B,bP] at q;cases q;rw[aM B] at q;exact S.trk b z q
  yo:=S.yo
  tk:=λb z=>by by_cases B:b=a;rw[B];exact S.tk a (by rw[M];simp);rw[aM B] at z;exact S.tk b z
  rt:=λb z=>by by_cases B:b=a;rw[B];exact .inl ⟨l,bP⟩;unfold RtO;rw[aM B];exact S.rt b z
  inj:=λj j' G q4 I q3 b q1 q2=>by
   have get:∀{j:Nat} {G:Bool} {I:List D},(Z.set i (.own pa' ds'))[j]? = some (.own G I)->∃p2 d2,Z[j]? = some (.own p2 d2):=λ{j G I} q=>by
    rcases set_some q with⟨rfl,_,_⟩|⟨_,q⟩
    exact⟨pa,ds,e⟩;exact⟨G,I,q⟩
   obtain⟨_,_,z1⟩:=get q1;obtain⟨_,_,z2⟩:=get q2;exact S.inj j j' _ _ _ _ b z1 z2
  len:=by rw[AM];exact S.len
  dx:=S.dx.imp id (λj I q=>by
   rcases set_some q with⟨_,z,_⟩|⟨_,q⟩
   cases z;exact⟨q,rfl⟩) (λ_ _ _ _ _ _ e=>e) (λb ys q z _=>⟨by rw[aM λw=>by rw[w,M] at q;cases q];exact q,z⟩) λb ks z=>Kp.seqT (R:=λb=>b=a) (λb o q n=>by rw[aM n];exact q) (λb z=>.inl ⟨xs,by rw[z];exact M⟩) z }
theorem Kp.upd{H H1:Hp}{a:Addr}{xs:List V}(s:aL H H1)(h:RT a):Kp RT H (upd H1 a (.lst xs)):=λb o e l=>by rw[aM λz=>l (by rw[z];exact h)];exact s b o e
theorem qD{i:Nat}{pa:Bool}{ds:List D}(h:jJ Z i=some (pa,ds)):Z[i]? = some (.own pa ds):=by unfold jJ at h;split at h;rename_i q;cases h;exact q;cases h
theorem aAa{i:Nat}{v:Vl}{f:List D->Option (List D)}{H:Hp}{D:Ends}(h:OE X.K RT Y old H (put Z i v f) D):∃pa ds ds',Z[i]? = some (.own pa ds)/\i∉v.al/\f ds=some ds'/\ds'.length<=lim/\cZ X.K RT Y old H ((freeze Z v.al).set i (.own (pa||v.pa) ds')) D.nx:=by unfold put at h;split at h;rename_i pa ds q;have q:=fB (qD q);split at h;rename_i ds' B;split at h;rename_i l;exact⟨pa,ds,ds',q.1,q.2,B,l,h⟩;exact h.elim;exact h.elim;exact h.elim
theorem uQ{pa l:Bool}{b:Addr}(h:exB Y old (pa||l) b):exB Y old pa b:=h.imp_right λz=>⟨by cases pa <;> simp_all,z.2⟩
theorem aBe{pa l:Bool}{b:Addr}(h:exB Y old (pa||l) b):exB Y old l b:=h.imp_right λz=>⟨by cases l <;> simp_all,z.2⟩
theorem nV{i:Nat}{m:Str}{c:Aw}{xs:List Aw}(h:kH Γ i m c=some xs):∃x p l B,c=.Call (.Attribute (.Name x p) m l) xs [] B/\cI Γ i x=true/\(l.endLine==B.line)=true:=by unfold kH at h;split at h;rename_i x p a l M B;split at h;rename_i q;obtain⟨G,I,L⟩:=fT q;cases h;have e:a=m:=eq_of_beq G;subst e;exact⟨x,p,l,B,rfl,I,L⟩;cases h;cases h
theorem iU{i:Nat}{x:Str}{p:DK}(M:Mc X P Γ n)(q:cI Γ i x=true):PE X (.Name x p) (aHG i):=by unfold cI at q;obtain⟨B,G,l⟩:=fT q;exact tG (by rw[M.N];exact eq_of_beq B) (M.vis G) (aY l) (iO l)
theorem aAb:lim<sizeLine:=by rw[BB];decide
theorem qF{i:Nat}{al:List Nat}{pa:Bool}{ds:List D}{ZV:L2.St}{H H1:Hp}{b:Addr}{xs:List V}(S:Sx X.K RT Y old Z ZV H)(s1:aL H H1)(L:Z[i]? = some (.own pa ds))(G:ZV[i]? = some (some (.ref b)))(I:H b=some (.lst xs)) :
 Reps X.K H1 (λc=>rtF RT Z ZV al c\/exB Y old pa c) ds xs:=by obtain⟨U,M,l,q,W,g4,B⟩:=S.own i pa ds L;rw[G] at l;cases l;rw[I] at q;cases q;exact(B.grow s1).weak λc z=>z.elim (λz=>.inl z.1) .inr
theorem qG{i:Nat}{v:Vl}{pa:Bool}{ds ds':List D}{ZV:L2.St}{H H1:Hp}{b:Addr}{q:List V}{Q:L2.St->Hp->Prop}(S:Sx X.K RT Y old Z ZV H)(s1:aL H H1)(W:Tk X.K H1)(I:Z[i]? = some (.own pa ds))(U:i∉v.al)(G:ZV[i]? = some (some (.ref b)))
 (r:Reps X.K H1 (λc=>rtF RT Z ZV v.al c\/exB Y old (pa||v.pa) c) ds' q) (l:cZ X.K RT Y old H ((freeze Z v.al).set i (.own (pa||v.pa) ds')) Q):Q ZV (upd H1 b (.lst q)):=by
 obtain⟨b',xs,B,g2,M,g4,g5⟩:=S.own i pa ds I;rw[G] at B;cases B;have L:(freeze Z v.al)[i]? = some (.own pa ds):=by rw[fA,I];simp[U]
 exact l _ ZV _ (Kp.upd s1 M) (λc z=>.inl z.1) (((S.grow s1 W).frz v.al).mut L G r)
theorem aDV{ZV:L2.St}{H1:Hp}{v:Vl}{u:V}{pa:Bool}(h:Rv X.K RT Y old Z ZV H1 v u):Rep X.K H1 (λc=>rtF RT Z ZV v.al c\/exB Y old (pa||v.pa) c) v.d u:=Rep.weak h λc z=>z.imp id aBe
theorem aLO{i:Nat}{c:E}{e a:Aw}(M:Mc X P Γ n)(hc:kH Γ i "append" e=some [a])(ha:PE X a (WE X P n RT Y old Z c))(I:aV a=true):PS X (.Expr e pos) (wS X RT Y old Z (ex P (call P n) Z (.app i c))):=by
 obtain⟨x,p,ap,cp,rfl,hx,hl⟩:=nV hc;refine cB (nQ (aGY Eu PySem.F.slot_list_append PySem.F.type_list_append aBG (iU M hx) (iK ha lL (aC I)) rfl (by rw[aC I];rfl) hl (aC I) rfl)) λD ZV H t ⟨S,h⟩=>?_;have h:=OE.from (show OE X.K RT Y old H (O.from Z (ev P (call P n) Z c) λv=>put Z i v λds=>some (ds++[v.d])) D from h)
 obtain⟨v,W,h⟩:=h.eq;obtain⟨pa,ds,ds',L,q2,q3,q4,l⟩:=aAa h;cases q3;obtain⟨b,xs,B,G,h3,h4,h5⟩:=S.own i pa ds L;refine⟨.ref b,B,.inl ⟨rfl,xs,SqL.of G⟩,S,?_⟩;rw[W];intro u H1 t1 q;have U:=h5.length;refine⟨b,xs,u,rfl,rfl,q.1 _ _ G,?_,λ_=>?_⟩;rw[lA,E9] at q4;have:=aAb;omega;exact qG S q.1 t1 L q2 B (((qF S q.1 L B G).weak λc z=>z.imp id uQ).append (.cons (aDV (q.rv S)) .nil)) l
theorem aLP{i:Nat}{c:E}{e a:Aw}(M:Mc X P Γ n)(hc:kH Γ i "extend" e=some [a])(ha:PE X a (WE X P n RT Y old Z c))(U:aV a=true):PS X (.Expr e pos) (wS X RT Y old Z (ex P (call P n) Z (.ext i c))):=by
 obtain⟨x,p,ap,cp,rfl,hx,hl⟩:=nV hc;refine cB (nQ (aGY Eu PySem.F.slot_list_extend PySem.F.type_list_extend aBH (iU M hx) (iK ha lL (aC U)) rfl (by rw[aC U];rfl) hl (aC U) rfl)) λD ZV H t ⟨S,h⟩=>?_;have h:=OE.from (show OE X.K RT Y old H (O.from Z (ev P (call P n) Z c) λv=>(match oX v with|some (v',ds')=>put Z i v' λds=>some (ds++ds')|none=>.bad)) D from h)
 obtain⟨v,ee,h⟩:=h.eq;unfold oX at h;cases I:v.fr with
 | false=>rw[I] at h;exact h.elim|true=>
  rw[I] at h;cases hd:v.d with
  | lst es=>rw[hd] at h;obtain⟨pa,ds,ds',W,q2,q3,q4,l⟩:=aAa h;cases q3;obtain⟨b,xs,B,G,h3,h4,h5⟩:=S.own i pa ds W;refine⟨.ref b,B,.inl ⟨rfl,xs,SqL.of G⟩,S,?_⟩;rw[ee];intro u H1 t1 q;have hr:=q.2;rw[if_pos I] at hr;obtain⟨a',ys,q5,e1,e2,e3,e4,r⟩:=hr;rw[hd] at e2;cases e2;subst e1;have q0:=h5.length;have L:=r.length;refine⟨b,a',xs,ys,rfl,rfl,q.1 _ _ G,e4,?_,λ_=>?_⟩;rw[lA] at q4;have:=aAb;omega;refine qG S q.1 t1 W q2 B (((qF S q.1 W B G).weak λc z=>z.imp id uQ).append ?_) l;have rr:=fK (r.weak λb z=>.inr z);exact rr.weak λc z=>z.imp id aBe|_=>rw[hd] at h;exact h.elim
theorem aGm{i:Nat}{L c:E}{x:Str}{p p2:DK}{ix v:Aw}(M:Mc X P Γ n)(hx:cI Γ i x=true)(hk:PE X ix (WE X P n RT Y old Z L))(he:PE X v (WE X P n RT Y old Z c))(q0:aV ix=true):PS X (.Assign [.Subscript (.Name x p) ix p2] v pos) (wS X RT Y old Z (ex P (call P n) Z (.setIx i L c))):=by
 refine cB (tJ he (aCB (iU M hx) hk aCQ (by intro _;cases ix <;> first|rfl|cases q0)) (by cases v <;> rfl) (by cases v <;> rfl)) λD ZV H t ⟨S,h⟩=>?_;have h:=OE.from (show OE X.K RT Y old H (O.from Z (ev P (call P n) Z c) λv=>O.from Z (ev P (call P n) Z L) λkv=>(match kv.d with
  | .int k=>put Z i v λds=>(match ixN ds.length k with|some j=>some (ds.set j v.d)|none=>none)
  | _=>.bad)) D from h)
 refine wE.one S h λv u H1 q t1 S1 r1=>?_;obtain⟨kv,ek,q⟩:=(OE.from q).eq;cases hd:kv.d with
 | int k=>
  rw[hd] at q;obtain⟨pa,ds,ds',q1,q2,G,q4,l⟩:=aAa q;obtain⟨b,xs,U,h2,h3,h4,h5⟩:=S.own i pa ds q1;cases W:ixN ds.length k with
  | none=>rw[W] at G;cases G|some j=>rw[W] at G;cases G;refine⟨.ref b,U,S1,?_⟩;rw[ek];intro uk H2 t2 I;have B:=h5.length;refine⟨b,xs,k,j,rfl,(I.rv S1).int hd,I.1 _ _ (r1.1 _ _ h2),by rw[<-B,<-uB];exact W,λ_=>?_⟩;have s2:=r1.1.trans I.1;refine qG S s2 t2 q1 q2 U (((qF S s2 q1 U h2).weak λc z=>z.imp id uQ).set j (aDV ((r1.rv S).grow I.1))) l
 | _=>rw[hd] at q;exact q.elim
theorem xU{i:Nat}{k:Option Int}{v:Vl}{Z':Sg}(h:kG Z i k=.ok (v,Z')):∃pa ds j d,Z[i]? = some (.own pa ds)/\ixN ds.length (k.getD (-1))=some j/\ds[j]? = some d/\v=Vl.sub ⟨.non,false,pa,[]⟩ d/\Z'=Z.set i (.own pa (ds.eraseIdx j)):=by
 unfold kG at h;cases q:jJ Z i with
 | none=>rw[q] at h;cases h|some pd=>
  obtain⟨pa,ds⟩:=pd;rw[q] at h;cases k with
  | none=>
   have h:(match ixN ds.length (-1) with|some j=>(match ds[j]? with|some d=>R.ok (Vl.sub ⟨.non,false,pa,[]⟩ d,Z.set i (.own pa (ds.eraseIdx j)))|none=>.bad)|none=>.bad)=R.ok (v,Z'):=h;cases l:ixN ds.length (-1) with
   | none=>rw[l] at h;cases h|some j=>
    rw[l] at h;have h:(match ds[j]? with|some d=>R.ok (Vl.sub ⟨.non,false,pa,[]⟩ d,Z.set i (.own pa (ds.eraseIdx j)))|none=>.bad)=R.ok (v,Z'):=h;cases hd:ds[j]? with
    | none=>rw[hd] at h;cases h|some d=>rw[hd] at h;cases h;exact⟨pa,ds,j,d,qD q,l,hd,rfl,rfl⟩
  | some k=>
   have h:(match ixN ds.length k with|some j=>(match ds[j]? with|some d=>R.ok (Vl.sub ⟨.non,false,pa,[]⟩ d,Z.set i (.own pa (ds.eraseIdx j)))|none=>.bad)|none=>.bad)=R.ok (v,Z'):=h;cases l:ixN ds.length k with
   | none=>rw[l] at h;cases h|some j=>
    rw[l] at h;have h:(match ds[j]? with|some d=>R.ok (Vl.sub ⟨.non,false,pa,[]⟩ d,Z.set i (.own pa (ds.eraseIdx j)))|none=>.bad)=R.ok (v,Z'):=h;cases hd:ds[j]? with
    | none=>rw[hd] at h;cases h|some d=>rw[hd] at h;cases h;exact⟨pa,ds,j,d,qD q,l,hd,rfl,rfl⟩
theorem aDW{i:Nat}{pa:Bool}{ds:List D}{j:Nat}{d:D}{ZV:L2.St}{H H1:Hp}{b:Addr}{xs:List V}(S:Sx X.K RT Y old Z ZV H)(s1:aL H H1)(t1:Tk X.K H1)(q1:Z[i]? = some (.own pa ds))(U:ZV[i]? = some (some (.ref b)))(W:H b=some (.lst xs))(hd:ds[j]? = some d) :
 ∃y,xs[j]? = some y/\Kp RT H (upd H1 b (.lst (xs.eraseIdx j)))/\Sx X.K RT Y old (Z.set i (.own pa (ds.eraseIdx j))) ZV (upd H1 b (.lst (xs.eraseIdx j))) /\
  Rep X.K (upd H1 b (.lst (xs.eraseIdx j))) (λa=>RT a\/exB Y old (Vl.sub ⟨.non,false,pa,[]⟩ d).pa a) (Vl.sub ⟨.non,false,pa,[]⟩ d).d y:=by
 have B:=S.grow s1 t1;obtain⟨b',q0,G,I,L,g4,M⟩:=B.own i pa ds q1;rw[U] at G;cases G;rw[s1 _ _ W] at I;cases I;obtain⟨y,hy,ry⟩:=M.get hd;refine⟨y,hy,Kp.upd s1 L,B.mut q1 U (M.eraseIdx j),?_⟩;have l:Rep X.K (upd H1 b (.lst (xs.eraseIdx j))) (λa=>RT a\/exB Y old pa a) d y:=ry.keep λc o e hl _=>by rw[aM λz=>by subst z;rw[s1 _ _ W] at e;cases e;exact hl xs rfl (.inl L)];exact e
 unfold Vl.sub;by_cases q:noL d=true;rw[if_pos q];exact Rep.free d y q l;rw[if_neg q];exact l
noncomputable def aGn(X:Cx)(P:Pg)(n:Nat)(RT Y old:Addr->Prop)(Z:Sg)(i:Nat)(k:Option E):TE:=λZV H Q=>Sx X.K RT Y old Z ZV H/\RE (aAE (k.map λe=>ev P (call P n) Z e)) λk=>RE (kG Z i k) λr=>∀u H',Kp RT H H'->Sx X.K RT Y old r.2 ZV H'->Rep X.K H' (λa=>RT a\/exB Y old r.1.pa a) r.1.d u->Q u H'
theorem aDX{i:Nat}{e:Aw}(M:Mc X P Γ n)(hc:kH Γ i "pop" e=some []):PE X e (aGn X P n RT Y old Z i none):=by
 obtain⟨x,p,ap,cp,rfl,hx,hl⟩:=nV hc;refine(aIh Eu PySem.F.slot_list_pop PySem.F.type_list_pop aIi (iU M hx) rfl hl).imp λZV H Q t ⟨S,h⟩=>?_;obtain⟨⟨v,Z'⟩,ep,h⟩:=(show RE (kG Z i none) _ from h).eq;obtain⟨pa,ds,j,d,L,l,hd,W,e2⟩:=xU ep;obtain⟨b,xs,G,B,h3,h4,h5⟩:=S.own i pa ds L;obtain⟨y,hy,kp,U,ry⟩:=aDW S (aL.refl H) t L G B hd;have I:=h5.length;have q:j=xs.length-1:=by unfold ixN at l;rw[EC,if_neg (by decide)] at l;split at l;have:=As l;omega;cases l
 refine⟨.ref b,G,.inl ⟨rfl,xs,SqL.of B⟩,b,xs,y,rfl,rfl,B,by rw[<-q];exact hy,λ_=>?_⟩;rw[<-oP,<-q];subst W e2;exact h y _ kp U ry
theorem aJr{i:Nat}{k:Option E}{e:Aw}(q:PE X e (aGn X P n RT Y old Z i k))(hs:gR e=false):PS X (.Expr e pos) (wS X RT Y old Z (ex P (call P n) Z (.pop none i k))):=by
 refine cB (nQ q (by cases e <;> first|rfl|cases hs)) λD ZV H t ⟨S,h⟩=>?_;have h:=OE.from (show OE X.K RT Y old H (O.from Z (aAE (k.map λe=>ev P (call P n) Z e)) λk=>O.from Z (kG Z i k) λ(v,Z')=>.next Z') D from h)
 exact⟨S,h.mono λk B=>(OE.from B).mono λr G u H' kp l I _=>(show cZ X.K RT Y old H r.2 D.nx from G) RT ZV H' kp bI l⟩
theorem aJs{i:Nat}{k:Option E}{tt:T}{e tg:Aw}(M:Mc X P Γ n)(G:nM Γ tt tg=true)(he:PE X e (aGn X P n RT Y old Z i k))(hs:gR e=false)(B:pA e=false):PS X (.Assign [tg] e pos) (wS X RT Y old Z (ex P (call P n) Z (.pop (some tt) i k))):=by
 have key:∀(D:Ends) (ZV:L2.St) (H:Hp),wS X RT Y old Z (ex P (call P n) Z (.pop (some tt) i k)) D ZV H->aFk (aGn X P n RT Y old Z i k) (gT X.K tt) D ZV H:=λD ZV H ⟨S,h⟩=>by
  have h:=OE.from (show OE X.K RT Y old H (O.from Z (aAE (k.map λe=>ev P (call P n) Z e)) λk=>O.from Z (kG Z i k) λ(v,Z')=>O.from Z' (bK Z' v tt) .next) D from h)
  refine⟨S,h.mono λk hk=>?_⟩;obtain⟨⟨v,Z'⟩,ep,q⟩:=(OE.from hk).eq;rw[ep];intro u H' kp L ry;obtain⟨W,e2,q⟩:=(OE.from (show OE X.K RT Y old H (O.from Z' (bK Z' v tt) .next) D from q)).eq;obtain⟨pa,ds,j,d,q1,hj,hd,e3,e4⟩:=xU ep;exact aAJ L (by rw[e3];exact pL) ry e2 λl U _=>(show cZ X.K RT Y old H W D.nx from q) RT l H' kp bI U
 refine cB (tJ he (aDC M G) (by cases e <;> first|rfl|cases hs) (by
  cases tg with
  | Tuple es k p=>cases e <;> first|rfl|cases B
  | List es p=>cases tt <;> cases G|_=>rfl) (by cases tg <;> first|rfl|(cases tt <;> cases G))) λD ZV H t I=>key _ ZV H ⟨I.1,OE.tkE I.2⟩
theorem Sx.move{K:Fg}{ZV:L2.St}{H:Hp}(S:Sx K RT Y old Z ZV H){i j:Nat}{pa:Bool}{ds:List D}{a:Addr}(e:Z[j]? = some (.own pa ds))(q3:i≠j)(W:ZV[j]? = some (some (.ref a))):Sx K RT Y old ((Z.set j .dead).set i (.own pa ds)) (ZV.set i (some (.ref a))) H where
 sh:=λk B d q=>by
  rcases set_some q with⟨_,z,_⟩|⟨l,q⟩
  cases z;rcases set_some q with⟨_,z,_⟩|⟨L,q⟩
  cases z;obtain⟨v,I,M⟩:=S.sh k B d q;exact⟨v,by rw[Ap l];exact I,M⟩
 own:=λk B G q=>by
  rcases set_some q with⟨rfl,z,U⟩|⟨l,q⟩
  cases z;obtain⟨b,xs,I,M,g3⟩:=S.own j pa ds e;rw[W] at I;cases I;rw[AM] at U;exact⟨a,xs,AU (by rw[<-S.len];exact U),M,g3⟩;rcases set_some q with⟨_,z,_⟩|⟨L,q⟩
  cases z;obtain⟨b,xs,I,M⟩:=S.own k B G q;exact⟨b,xs,by rw[Ap l];exact I,M⟩
 trk:=S.trk
 yo:=S.yo
 tk:=S.tk
 rt:=S.rt
 inj:=λk k' B q4 G q0 b q1 q2 v1 v2=>by
  have get:∀{k:Nat} {B:Bool} {G:List D},((Z.set j .dead).set i (.own pa ds))[k]? = some (.own B G)->(ZV.set i (some (.ref a)))[k]? = some (some (.ref b))->(k=i/\b=a)\/(k≠i/\k≠j/\Z[k]? = some (.own B G)/\ZV[k]? = some (some (.ref b))):=λ{k B G} q v=>by
   rcases set_some q with⟨rfl,z,U⟩|⟨l,q⟩
   rw[AM] at U;rw[AU (by rw[<-S.len];exact U)] at v;cases v;exact .inl ⟨rfl,rfl⟩;rcases set_some q with⟨_,z,_⟩|⟨L,q⟩
   cases z;rw[Ap l] at v;exact .inr ⟨DI l,DI L,q,v⟩
  rcases get q1 v1 with⟨e1,b1⟩|⟨l,m1,o1,w1⟩
  rcases get q2 v2 with⟨e2,_⟩|⟨L,m2,o2,w2⟩
  rw[e1,e2];subst b1;exact absurd (S.inj k' j _ _ _ _ b o2 e w2 W) m2;rcases get q2 v2 with⟨e2,b2⟩|⟨L,m2,o2,w2⟩
  subst b2;exact absurd (S.inj k j _ _ _ _ b o1 e w1 W) m1;exact S.inj k k' _ _ _ _ b o1 o2 w1 w2
 len:=by rw[AM,AM,AM];exact S.len
 dx:=S.dx.imp id (λk G q=>by
  rcases set_some q with⟨_,z,_⟩|⟨l,q⟩
  cases z;rcases set_some q with⟨_,z,_⟩|⟨L,q⟩
  cases z;exact⟨q,Ap l⟩) (λ_ _ _ _ _ _ e=>e) (λ_ _ e z _=>⟨e,z⟩) λ_ _ r=>r
theorem aLQ{i j:Nat}{x y:Str}{p p2:DK}(M:Mc X P Γ n)(I:bQ Γ i x=true)(W:cI Γ j y=true):PS X (.Assign [.Name x p] (.Name y p2) pos) (wS X RT Y old Z (ex P (call P n) Z (.mov i j))):=by
 unfold bQ at I;obtain⟨L,G,h3⟩:=fT I;refine cB (tK (i:=i) M.nd (by rw[M.N];exact eq_of_beq L) (M.loc G) (iU M W) rfl (M.st x G)) λD ZV H t ⟨S,h⟩=>?_;have h:OE X.K RT Y old H (match Z[j]? with
  | some (.own pa ds)=>if i=j then .bad else .next ((Z.set j .dead).set i (.own pa ds))|some (.sh pa d)=>.next (Z.set i (.sh (pa&&!noL d) d))|_=>.bad) D:=h
 cases e:Z[j]? with
 | none=>rw[e] at h;exact h.elim|some sl=>
  rw[e] at h;cases sl with
  | dead=>exact h.elim|dct _=>exact h.elim|own pa ds=>by_cases l:i=j;have h:OE X.K RT Y old H (if i=j then .bad else .next ((Z.set j .dead).set i (.own pa ds))) D:=h;rw[if_pos l] at h;exact h.elim;have h:OE X.K RT Y old H (if i=j then .bad else .next ((Z.set j .dead).set i (.own pa ds))) D:=h;rw[if_neg l] at h;obtain⟨a,xs,q,B⟩:=S.own j pa ds e;exact⟨.ref a,q,λ_=>(show cZ X.K RT Y old H _ D.nx from h) RT _ H (Kp.refl RT H) bI (S.move e l q)⟩|sh pa d=>
   obtain⟨v,q,B⟩:=S.sh j pa d e;refine⟨v,q,λ_=>(show cZ X.K RT Y old H (Z.set i (.sh (pa&&!noL d) d)) D.nx from h) RT _ H (Kp.refl RT H) bI (S.setSh ?_)⟩;cases U:noL d with
   | true=>exact Rep.free d v U B|false=>rw[DS,DF];exact B
theorem aLR{t:T}{it:Hp.It}{b:Ss}{tg q4:Aw}{body:List CG}(M:Mc X P Γ n)(hx:nM Γ t tg=true)(hi:PI X tg q4 (wI X P n RT Y old Z it))(hb:∀RT Z,PSs X body (wS X RT Y old Z (exs P (call P n) Z b)))(hs:∀x,C4 q4 X.env x=pure x) :
 PS X (.For tg q4 body [] pos) (wS X RT Y old Z (ex P (call P n) Z (.for t it b))):=by
 have hp:PassesOwn (A6 X.prog X.w) X.A X.env X.xe:=by rw[M.xe];exact LK
 refine cB (aHS hp M.calm hi (aDC M hx) (aBc hb) hs) λD0 ZV H t0 ⟨S,h⟩=>?_;have h:=OE.tkE h;revert h;generalize tkE X.K D0=D;intro h
 let f:Sg->Vl->O:=λZ x=>O.from Z (bK Z x t) λZ'=>exs P (call P n) Z' b
 have h:=OE.from (show OE X.K RT Y old H (O.from Z (walk P (call P n) Z it) λxs=>cY f xs.1 (freeze Z xs.2)) D from h)
 refine⟨S,h.mono λxs hx J H1 t1 s1 ok=>?_⟩;have S1:=S.grow s1 t1;have Sf:=S1.frz xs.2;refine⟨λi m q6 W=>m=xs.1.length-i/\i<=xs.1.length/\∃l B,Kp (rtF RT Z ZV xs.2) H1 W/\(∀b,l b->rtF RT Z ZV xs.2 b\/H1 b=none)/\Sx X.K l Y old B q6 W/\OE X.K l Y old W (cY f (xs.1.drop i) B) D,
  ⟨_,rfl,AL _,rtF RT Z ZV xs.2,freeze Z xs.2,Kp.refl _ _,bI,Sf,OE.mono (Kp.same s1) (λb z=>.inl z.1) hx⟩,?_⟩
 rintro i m q6 W ⟨hm,hi,l,B,kp,q3,Sc,G⟩;have q7:=ok.ok (rtF RT Z ZV xs.2) (λ_ z=>z) i W kp;by_cases q2:i<xs.1.length;refine .inr ⟨q7.1 q2,λZ' H'=>xs.1.length-(i+1)=xs.1.length-(i+1)/\i+1<=xs.1.length/\∃l B,Kp (rtF RT Z ZV xs.2) H1 H'/\(∀b,l b->rtF RT Z ZV xs.2 b\/H1 b=none)/\Sx X.K l Y old B Z' H'/\OE X.K l Y old H' (cY f (xs.1.drop (i+1)) B) D,
  λZ' H' hN=>⟨_,by omega,hN⟩,λx H' hy=>?_⟩
 have w1:xs.1[i]? = some xs.1[i]:=Ae q2;obtain⟨sm,w3,rv⟩:=q7.2.2 x H' hy xs.1[i] w1;have q5:xs.1[i]∈xs.1:=AG q2;rw[CY q2] at G;have q8:=Sc.grow sm (w3 Sc.tk);have rep:Rep X.K H' (λa=>l a\/exB Y old xs.1[i].pa a) xs.1[i].d x:=rv.weak λa z=>by rcases z with z|z;rcases q3 a z with q|q;exact .inl (.inl ⟨q.1,λw=>q.2 (w.mono (ok.sub _ q5))⟩);exact .inr ⟨q,Sc.tk a (Sc.trk a (.inl z))⟩;exact .inl (.inr z)
 have G:OE X.K l Y old W (match f B xs.1[i] with
  | .next Z'=>cY f (xs.1.drop (i+1)) Z'|.cnt Z'=>cY f (xs.1.drop (i+1)) Z'|.brk Z'=>.next Z'|o=>o) D:=G
 cases U:bK B xs.1[i] t with
 | exc e=>rw[show f B xs.1[i]=.exc e B by show O.from B (bK B xs.1[i] t) _=_;rw[U];rfl] at G;exact G.elim|bad=>rw[show f B xs.1[i]=.bad by show O.from B (bK B xs.1[i] t) _=_;rw[U];rfl] at G;exact G.elim|ok Z2=>
  rw[show f B xs.1[i]=exs P (call P n) Z2 b by show O.from B (bK B xs.1[i] t) _=_;rw[U];rfl] at G;refine aAJ q8 (ok.nofr _ q5) rep U λw4 S2 _=>⟨l,Z2,S2,?_⟩
  have kS:Kp l W H':=Kp.same sm;have q1:∀{Z':Sg} {L:Addr->Prop} {q0:L2.St} {I:Hp},Kp l H' I->(∀b,L b->l b\/H' b=none)->Sx X.K L Y old Z' q0 I->OE X.K l Y old W (cY f (xs.1.drop (i+1)) Z') D ->
   (xs.1.length-(i+1)=xs.1.length-(i+1)/\i+1<=xs.1.length/\∃l B,Kp (rtF RT Z ZV xs.2) H1 I/\(∀b,l b->rtF RT Z ZV xs.2 b\/H1 b=none)/\Sx X.K l Y old B q0 I/\OE X.K l Y old I (cY f (xs.1.drop (i+1)) B) D):=λ{Z' L q0 I} k2 s2 S3 h3=>by have k3:Kp l W I:=kS.chain bI k2;have s3:∀b,L b->l b\/W b=none:=mK kS bI s2;exact⟨rfl,q2,L,Z',kp.chain q3 k3,mK kp q3 s3,S3,OE.mono k3 s3 h3⟩
  cases q:exs P (call P n) Z2 b with
  | next Z'=>rw[q] at G;exact λL q0 I k2 s2 S3=>q1 k2 s2 S3 G|cnt Z'=>rw[q] at G;exact λL q0 I k2 s2 S3=>q1 k2 s2 S3 G|brk Z'=>rw[q] at G;exact cZ.mono kS bI (show cZ X.K l Y old W Z' D.nx from G)|ret v=>rw[q] at G;exact OE.mono (o:=.ret v) kS bI G|exc e Z'=>rw[q] at G;exact G.elim|bad=>rw[q] at G;exact G.elim
 have q9:i=xs.1.length:=by omega
 subst q9;rw[FT] at G;exact .inl ⟨q7.2.1 (Ah _),(show cZ X.K l Y old W B D.nx from G) l q6 W (Kp.refl _ _) bI Sc⟩
end
section
variable {X:Cx} {P:Pg} {Γ:Ct} {n:Nat} {RT Y old:Addr->Prop} {Z:Sg} {pos:DK} {l:Nat} {K:Fg} {H:Hp} {ZV:L2.St}
theorem Sx.putDct(S:Sx K RT Y old Z ZV H){p:Addr}(hn:H p=none){B:List NE}{q0:List (NK×D)}(t:Tk K (upd H p (dR p B)))(q2:B.map pj=q0.map kV)(q3:∀x∈B,cE K H x.1 x.2.1)(i:Nat):Sx K (λb=>RT b\/b=p) Y old (Z.set i (.dct q0)) (ZV.set i (some (.ref p))) (upd H p (dR p B)):=by
 have s:aL H (upd H p (dR p B)):=aL.new hn;have ha:upd H p (dR p B) p=some (dR p B):=bP;have hk:=t p (by rw[ha];simp);have w:∀{pa:Bool} b,(RT b\/b=p)\/exB Y old pa b->b=p\/RT b\/exB Y old pa b:=λ{pa} b z=>by rcases z with(z|z)|z;exact .inr (.inl z);exact .inl z;exact .inr (.inr z)
 exact {
  sh:=λj pa d e=>by
   rcases set_some e with⟨_,z,_⟩|⟨G,e⟩
   cases z;obtain⟨v,W,h2⟩:=S.sh j pa d e;exact⟨v,by rw[Ap G];exact W,((h2.out hn hk).grow s).weak w⟩
  own:=λj pa ds e=>by
   rcases set_some e with⟨_,z,_⟩|⟨G,e⟩
   cases z;obtain⟨b,ys,W,h2,h3,h4,h5⟩:=S.own j pa ds e;exact⟨b,ys,by rw[Ap G];exact W,s _ _ h2,.inl h3,h4,((h5.out hn hk).grow s).weak w⟩
  trk:=λb z q=>by rcases z with(z|z)|z;exact S.trk b (.inl z) (s.free q);rw[z,ha] at q;cases q;exact S.trk b (.inr z) (s.free q)
  yo:=S.yo
  tk:=t
  rt:=λb z=>by rcases z with z|z;exact(S.rt b z).grow s;rw[z];exact .inr ⟨B,ha⟩
  inj:=λj j' pa' q1 ds ds' a M I U L=>by
   rcases set_some M with⟨_,e,_⟩|⟨n1,M⟩
   cases e;rcases set_some I with⟨_,e,_⟩|⟨n2,I⟩
   cases e;rw[Ap n1] at U;rw[Ap n2] at L;exact S.inj j j' pa' q1 ds ds' a M I U L
  len:=by rw[AM,AM];exact S.len
  dx:={
   at':=λj ds e=>by
    rcases set_some e with⟨rfl,z,hl⟩|⟨G,e⟩
    cases z;exact⟨p,B,AU (by rw[<-S.len];exact hl),ha,.inr rfl,λz=>S.trk p (.inr (.inr z)) hn,q2,λx hx=>cE.imp (λ_ _ r=>aL.seqT s r) (q3 x hx)⟩;obtain⟨a,xs,W,h2,h3,h4,h5,h6⟩:=S.dx.at' j ds e;exact⟨a,xs,by rw[Ap G];exact W,s _ _ h2,.inl h3,h4,h5,λx hx=>cE.imp (λ_ _ r=>aL.seqT s r) (h6 x hx)⟩
   inj:=λj j' ds ds' a M I U L=>by
    have fr:∀{j:Nat} {ds:List (NK×D)},Z[j]? = some (.dct ds)->ZV[j]? = some (some (.ref p))->False:=λ{j ds} e q=>by obtain⟨a',q4,W,h2,_⟩:=S.dx.at' j ds e;rw[q] at W;cases W;rw[hn] at h2;cases h2
    rcases set_some M with⟨rfl,e,hl⟩|⟨n1,M⟩
    rcases set_some I with⟨rfl,_,_⟩|⟨n2,I⟩
    rfl;rw[AU (by rw[<-S.len];exact hl)] at U;cases U;rw[Ap n2] at L;exact(fr I L).elim;rw[Ap n1] at U;rcases set_some I with⟨rfl,e,hl⟩|⟨n2,I⟩
    rw[AU (by rw[<-S.len];exact hl)] at L;cases L;exact(fr M U).elim;rw[Ap n2] at L;exact S.dx.inj j j' ds ds' a M I U L } }
theorem aJt{i:Nat}{x:Str}{p U:DK}(M:Mc X P Γ n)(B:bQ Γ i x=true):PS X (.Assign [.Name x p] (.Dict [] [] U) pos) (wS X RT Y old Z (ex P (call P n) Z (.dnew i))):=by unfold bQ at B;obtain⟨L,I,W⟩:=fT B;refine cB (tK (i:=i) M.nd (by rw[M.N];exact eq_of_beq L) (M.loc I) aCW rfl (M.st x I)) λD ZV H t ⟨S,h⟩=>?_;exact λq G t'=>(show cZ X.K RT Y old H (Z.set i (.dct [])) D.nx from h) (λb=>RT b\/b=q) _ _ (Kp.same (aL.new G)) (λb z=>z.imp id λz=>by rw[z];exact G) (S.putDct G t' rfl (λx B=>by cases B) i)
theorem Sx.mutD(S:Sx K RT Y old Z ZV H){i:Nat}{kvs G:List (NK×D)}{a:Addr}{xs B:List NE}(e:Z[i]? = some (.dct kvs))(ha:ZV[i]? = some (some (.ref a)))(M:H a=some (dR a xs))(L:RT a)(q0:¬ old a)(r1:B.map pj=G.map kV)(r:∀x∈B,cE K H x.1 x.2.1) :
 Sx K RT Y old (Z.set i (.dct G)) ZV (upd H a (dR a B)):=by
 have kp:Kp (λb=>b=a) H (upd H a (dR a B)):=λb o q n=>by rw[aM n];exact q
 have hR:∀b,b=a->RtO H b:=λb z=>.inr ⟨xs,by rw[z];exact M⟩;have hl:∀{b:Addr} {ys:List V},H b=some (.lst ys)->b≠a:=λ{b ys} q z=>by rw[z,M] at q;cases q
 exact {
  sh:=λj pb d q=>by
   rcases set_some q with⟨_,z,_⟩|⟨_,q⟩
   cases z;obtain⟨v,g1,g2⟩:=S.sh j pb d q;exact⟨v,g1,g2.kp kp hR λb z=>.inl (by rw[z];exact L)⟩
  own:=λj pb U q=>by
   rcases set_some q with⟨_,z,_⟩|⟨_,q⟩
   cases z;obtain⟨b,ys,g1,g2,g3,g4,g5⟩:=S.own j pb U q;exact⟨b,ys,g1,kp b _ g2 (hl g2),g3,g4,g5.kp kp hR λb z=>.inl (by rw[z];exact L)⟩
  trk:=λb z q=>by by_cases I:b=a;rw[I,bP] at q;cases q;rw[aM I] at q;exact S.trk b z q
  yo:=S.yo
  tk:=λb z=>by by_cases I:b=a;rw[I];exact S.tk a (by rw[M];simp);rw[aM I] at z;exact S.tk b z
  rt:=λb z=>by by_cases I:b=a;rw[I];exact .inr ⟨B,bP⟩;unfold RtO;rw[aM I];exact S.rt b z
  inj:=λj j' pa' W ds ds' b e1 e2 e3 e4=>by
   rcases set_some e1 with⟨_,e,_⟩|⟨n1,e1⟩
   cases e;rcases set_some e2 with⟨_,e,_⟩|⟨n2,e2⟩
   cases e;exact S.inj j j' pa' W ds ds' b e1 e2 e3 e4
  len:=by rw[AM];exact S.len
  dx:={
   at':=λj ds q=>by
    rcases set_some q with⟨rfl,z,_⟩|⟨q3,q⟩
    cases z;exact⟨a,B,ha,bP,L,q0,r1,λx hx=>cE.imp (λ_ _ z=>kp.seqT hR z) (r x hx)⟩;obtain⟨b,ys,h1,h2,h3,h4,h5,h6⟩:=S.dx.at' j ds q;have I:b≠a:=λz=>by subst z;exact q3 (S.dx.inj i j kvs ds b e q ha h1)
    exact⟨b,ys,h1,kp b _ h2 I,h3,h4,h5,λx hx=>cE.imp (λ_ _ z=>kp.seqT hR z) (h6 x hx)⟩
   inj:=λj j' U q4 b q1 q2=>by
    have get:∀{j:Nat} {U:List (NK×D)},(Z.set i (.dct G))[j]? = some (.dct U)->∃d2,Z[j]? = some (.dct d2):=λ{j U} q=>by
     rcases set_some q with⟨rfl,_,_⟩|⟨_,q⟩
     exact⟨kvs,e⟩;exact⟨U,q⟩
    obtain⟨_,z1⟩:=get q1;obtain⟨_,z2⟩:=get q2;exact S.dx.inj j j' _ _ b z1 z2 } }
theorem aJu(ks:List (NK×D))(k:NK×D):aFE (ks.map kV) (kV k)=(kF ks k).map kV:=by
 have e:(ks.map kV).map (·.1)=ks.map (·.1):=by rw[A7];rfl
 unfold aFE kF;rw[e];show(if k.1∈_ then _ else _)=_;split;rw[A7,A7];refine CB λx _=>?_;show(if x.1=k.1 then _ else _)=kV (if x.1=k.1 then _ else _);split <;> rfl;rw[Bj];rfl
theorem putN_mem{xs:List NE}{k:NK}{b:Addr}{v:V}{x:NE}(h:x∈nL xs k b v):(∃y∈xs,y.1=x.1/\y.2.1=x.2.1)\/x=(k,b,v):=by unfold nL at h;split at h;obtain⟨y,q,e⟩:=Ax.mp h;refine .inl ⟨y,q,?_⟩;rw[<-e];split <;> exact⟨rfl,rfl⟩;rcases AJ.mp h with z|z;exact .inl ⟨x,z,rfl,rfl⟩;exact .inr (Ai.mp z)
theorem aJv{i:Nat}{c:E}{x:Str}{p p2:DK}{ix v:Aw}(M:Mc X P Γ n)(G:cI Γ i x=true)(hk:PE X ix (WE X P n RT Y old Z c))(he:PE X v (WE X P n RT Y old Z (.c (.bl true))))(U:aV ix=true) :
 PS X (.Assign [.Subscript (.Name x p) ix p2] v pos) (wS X RT Y old Z (ex P (call P n) Z (.dput i c))):=by
 refine cB (tJ he (aCB (iU M G) hk (aIl (by have:=M.units;omega)) (by intro _;cases ix <;> first|rfl|cases U)) (by cases v <;> rfl) (by cases v <;> rfl)) λD ZV H t ⟨S,h⟩=>?_;have h:=OE.from (show OE X.K RT Y old H (O.from Z (ev P (call P n) Z c) λv=>(match Z[i]?,kE v.d with
  | some (.dct ks),some k=>if ks.length<lim then .next (Z.set i (.dct (kF ks (k,.bl true)))) else .bad|_,_=>.bad)) D from h)
 obtain⟨kv,ek,h⟩:=h.eq;refine wE.one (p:=λx=>x=.cl (.bl true)) S rfl λw u H1 hw t1 W r1=>?_;subst hw;have hu:u=.bl true:=(r1.rv S)
 subst hu;split at h;rename_i ks k I L;split at h;rename_i hl;obtain⟨ad,xs,g1,g2,g3,g4,g5,g6⟩:=S.dx.at' i ks I;refine⟨.ref ad,g1,W,?_⟩;rw[ek];intro uk H2 t2 r2;have s2:=r1.1.trans r2.1;have S2:=S.grow s2 t2;obtain⟨b,rfl,hb⟩:=aDp L (r2.rv W);have B:∀x∈xs,cE X.K H2 x.1 x.2.1:=λx G=>cE.imp (λ_ _ r=>aL.seqT s2 r) (g6 x G);have q0:xs.length=ks.length:=by have:=congrArg F9 g5;rwa [lM,lM] at this
 refine⟨ad,b,xs,k,rfl,rfl,s2 _ _ g2,B,hb,by have:=aAb;omega,λt3=>?_⟩;refine(show cZ X.K RT Y old H (Z.set i (.dct (kF ks (k,.bl true)))) D.nx from h) RT _ _ (λb' o q nn=>by rw[aM λz=>nn (by rw[z];exact g3)];exact s2 _ _ q) bI ?_;refine S2.mutD I g1 (s2 _ _ g2) g3 g4 (by rw[aCX,g5];exact aJu ks (k,.bl true)) λx G=>?_;rcases putN_mem G with z|z;obtain⟨y,hy,I,L⟩:=z;rw[<-I,<-L];exact B y hy;rw[z];exact hb;exact h.elim;exact h.elim
end
section
variable {P:Pg} {n:Nat} {Y old:Addr->Prop}
theorem aDY{Γ:Ct}{is:List Nat}{tg:Aw}(h:nM Γ (.t is) tg=true):∃es k p,tg=.Tuple es k p:=by
 cases tg with
 | Tuple es k p=>exact⟨es,k,p,rfl⟩|_=>cases h
theorem aCe{Γ:Ct}{i:Nat}{tg:Aw}(h:nM Γ (.n i) tg=true):∃x p,tg=.Name x p/\bQ Γ i x=true:=by
 cases tg with
 | Name x p=>exact⟨x,p,rfl,h⟩|_=>cases h
theorem mL{Γ:Ct}{i:Nat}{m:Str}{c:Aw}{xs:List Aw}(h:kH Γ i m c=some xs):gR c=false/\pA c=false:=by obtain⟨x,p,l,q,rfl,_⟩:=nV h;exact⟨rfl,rfl⟩
theorem aCf{Γ:Ct}{c:E}{e:Aw}(h:aR Γ c e=true)(l:gR e=true):∃k caps t it cond elt,c=.comp k caps t it cond elt:=by
 cases c with
 | comp k caps t it cond elt=>exact⟨k,caps,t,it,cond,elt,rfl⟩|c d=>rcases(BG _ _).mp (show(oS (asC e) (eqC d)||oS (asN e) λx=>cW Γ x&&cH x&&oB (Γ.cns.lookup x) (eqK d))=true from h) with h|h;obtain⟨_,⟨_,_,rfl⟩,_⟩:=aD h;cases l;obtain⟨_,⟨_,rfl⟩,_⟩:=aD h;cases l
 | v i=>obtain⟨_,⟨_,rfl⟩,_⟩:=aD h;cases l|op o a b=>obtain⟨_,⟨_,rfl⟩,_⟩:=aD h;cases l|neg a=>obtain⟨_,⟨_,rfl⟩,_⟩:=aD h;cases l|nt a=>obtain⟨_,⟨_,rfl⟩,_⟩:=aD h;cases l|an a b=>obtain⟨_,rfl,_⟩:=aD h;cases l|orr a b=>obtain⟨_,rfl,_⟩:=aD h;cases l|ife t a b=>obtain⟨_,⟨_,rfl⟩,_⟩:=aD h;cases l|cmp o a b=>obtain⟨_,⟨_,rfl⟩,_⟩:=aD h;cases l|dnin _ _=>cases h|dget _ _=>cases h|dlen _=>cases h|din _ _=>cases h|dgd _ _ _=>cases h|srtD j=>obtain⟨_,⟨_,_,rfl⟩,_⟩:=aD h;cases l|rvs a=>obtain⟨_,⟨_,rfl⟩,_⟩:=aD h;cases l|sst a=>obtain⟨_,⟨_,_,rfl⟩,_⟩:=aD h;cases l|sop _ _ _=>cases h|cmp2 q B a b c=>obtain⟨_,⟨_,rfl⟩,_⟩:=aD h;cases l|idx a b=>obtain⟨_,⟨_,rfl⟩,_⟩:=aD h;cases l|sli a lo hi=>obtain⟨_,⟨_,rfl⟩,_⟩:=aD h;cases l|tup es=>obtain⟨_,⟨_,_,rfl⟩,_⟩:=aD h;cases l|lst es=>obtain⟨_,⟨_,rfl⟩,_⟩:=aD h;cases l|call f es=>obtain⟨_,⟨_,_,rfl⟩,_⟩:=aD h;cases l|bi b es=>obtain⟨_,⟨_,_,rfl⟩,_⟩:=aD h;cases l|mth _ _ _=>cases h|isi a cs=>obtain⟨_,⟨_,_,rfl⟩,_⟩:=aD h;cases l|numset _=>cases h|tget i a=>obtain⟨_,⟨_,_,rfl,_⟩,_⟩:=aD h;cases l|lzip _ _=>cases h|dic ks vs=>cases h|attr _ _=>cases h
theorem m1{Γ:Ct}{i:Nat}{m:Str}{c:Aw}{f:Aw->Bool}(h:(match kH Γ i m c with|some [a]=>f a|_=>false)=true):∃a,kH Γ i m c=some [a]/\f a=true:=by split at h;rename_i a q;exact⟨a,q,h⟩;cases h
theorem m0{Γ:Ct}{i:Nat}{m:Str}{c:Aw}(h:(match kH Γ i m c with|some []=>true|_=>false)=true):kH Γ i m c=some []:=by split at h;rename_i q;exact q;cases h
abbrev QS(P:Pg)(n:Nat)(Y old:Addr->Prop)(c:S):Prop:=∀{X:Cx} {Γ:Ct},Mc X P Γ n->∀{st:CG},fG Γ c st=true->∀(RT:Addr->Prop) (Z:Sg),PS X st (wS X RT Y old Z (ex P (call P n) Z c))
abbrev QSs(P:Pg)(n:Nat)(Y old:Addr->Prop)(c:Ss):Prop:=∀{X:Cx} {Γ:Ct},Mc X P Γ n->∀{st:List CG},chkSs Γ c st=true->∀(RT:Addr->Prop) (Z:Sg),PSs X st (wS X RT Y old Z (exs P (call P n) Z c))
theorem aLS{t:T}{e:E}:QS P n Y old (.set t e):=λ{X Γ} M {st} h RT Z=>by
 delta fG at h
 obtain⟨⟨tg,v⟩,⟨p,rfl⟩,g⟩:=aD h;clear h;obtain⟨W,G,h3⟩:=fT g;clear g;cases t with
 | n i=>
  obtain⟨x,p,l,hx⟩:=aCe W;have l:tg=.Name x p:=l;subst l;cases hc:gR v with
  | false=>exact aJp M hx (sE e M G RT Y old Z) hc|true=>obtain⟨k,caps,t,it,cond,elt,rfl⟩:=aCf G hc;obtain⟨el,tg,B,q0,scope,q,U,O,g1,g2,g3,g4,g5⟩:=aBa G;have U:v=.ListComp el [⟨tg,B,q0,0⟩] scope q:=U;subst U;refine aCd M hx (O.scope M) O.ndc O.tk (sI it M g3 RT Y old Z) (λC s₀ H₀ ex=>?_) (lT (jU g3));have I:=O.mc M C s₀ H₀ ex;exact⟨aDC I g2,λRT Y old L=>sTs cond I g1 g4 RT Y old L,λRT Y old L=>sE elt I g5 RT Y old L⟩
 | t is=>obtain⟨es,k,p,l⟩:=aDY W;have l:tg=.Tuple es k p:=l;subst l;refine aJq M W (sE e M G RT Y old Z) ?_;have:(false||!pA v)=true:=h3;simpa using this
theorem aLT{i j:Nat}:QS P n Y old (.mov i j):=λ{X Γ} M {st} h RT Z=>by
 delta fG at h
 obtain⟨⟨tg,v⟩,⟨p,rfl⟩,g⟩:=aD h;clear h;obtain⟨x,⟨I,l⟩,g⟩:=aD g;obtain⟨y,⟨L,q⟩,g⟩:=aD g;have l:tg=.Name x I:=l;have q:v=.Name y L:=q;subst l q;obtain⟨B,G⟩:=eQ g;exact aLQ M B G
theorem aJw{i:Nat}:QS P n Y old (.dnew i):=λ{X Γ} M {st} h RT Z=>by
 delta fG at h
 obtain⟨⟨tg,v⟩,⟨p,rfl⟩,g⟩:=aD h;clear h;obtain⟨x,⟨I,l⟩,g⟩:=aD g;have l:tg=.Name x I:=l;subst l;obtain⟨B,G⟩:=eQ g;obtain⟨_,⟨L,q⟩,_⟩:=aD G;have q:v=.Dict [] [] L:=q;subst q;exact aJt M B
theorem aJx{i:Nat}{e:E}:QS P n Y old (.dput i e):=λ{X Γ} M {st} h RT Z=>by
 delta fG at h
 obtain⟨⟨tg,v⟩,⟨p,rfl⟩,g⟩:=aD h;clear h;obtain⟨⟨o,ix⟩,⟨L,l⟩,g⟩:=aD g;obtain⟨x,⟨U,q⟩,g⟩:=aD g;have l:tg=.Subscript o ix L:=l;have q:o=.Name x U:=q;subst l q;obtain⟨G,B,I⟩:=fT g;exact aJv M G (sE e M B RT Y old Z) (sE (.c (.bl true)) M I RT Y old Z) (aP B)
theorem aGo{i:Nat}{k e:E}:QS P n Y old (.setIx i k e):=λ{X Γ} M {st} h RT Z=>by
 delta fG at h
 obtain⟨⟨tg,v⟩,⟨p,rfl⟩,g⟩:=aD h;clear h;obtain⟨⟨o,ix⟩,⟨L,l⟩,g⟩:=aD g;obtain⟨x,⟨U,q⟩,g⟩:=aD g;have l:tg=.Subscript o ix L:=l;have q:o=.Name x U:=q;subst l q;obtain⟨G,B,I⟩:=fT g;exact aGm M G (sE k M B RT Y old Z) (sE e M I RT Y old Z) (aP B)
theorem aLU{i:Nat}{e:E}:QS P n Y old (.app i e):=λ{X Γ} M {st} h RT Z=>by
 delta fG at h
 obtain⟨c,⟨p,rfl⟩,g⟩:=aD h;obtain⟨a,q,l⟩:=m1 (f:=λa=>aR Γ e a) g;exact aLO M q (sE e M l RT Y old Z) (aP l)
theorem aLV{i:Nat}{e:E}:QS P n Y old (.ext i e):=λ{X Γ} M {st} h RT Z=>by
 delta fG at h
 obtain⟨c,⟨p,rfl⟩,g⟩:=aD h;obtain⟨a,q,l⟩:=m1 (f:=λa=>aR Γ e a) g;exact aLP M q (sE e M l RT Y old Z) (aP l)
theorem aGp{i:Nat}:QS P n Y old (.pop none i none):=λ{X Γ} M {st} h RT Z=>by
 delta fG at h
 obtain⟨c,⟨p,rfl⟩,g⟩:=aD h;have l:=m0 (Γ:=Γ) (i:=i) (m:= "pop") (c:=c) g;exact aJr (aDX M l) (mL l).1
theorem aGq{i:Nat}{t:T}:QS P n Y old (.pop (some t) i none):=λ{X Γ} M {st} h RT Z=>by
 delta fG at h
 obtain⟨⟨tg,c⟩,⟨p,rfl⟩,g⟩:=aD h;obtain⟨q,g⟩:=eQ g;have l:=m0 g;exact aJs M q (aDX M l) (mL l).1 (mL l).2
theorem aLW{e:E}:QS P n Y old (.ret e):=λ{X Γ} M {st} h RT Z=>by
 delta fG at h
 obtain⟨r,⟨p,rfl⟩,g⟩:=aD h;clear h;obtain⟨v,l,g⟩:=aDn g;subst l;exact aLN (sE e M g RT Y old Z)
theorem aJy{i:Nat}:QS P n Y old (.retv i):=λ{X Γ} M {st} h RT Z=>by
 delta fG at h
 obtain⟨r,⟨p,rfl⟩,g⟩:=aD h;clear h;obtain⟨v,q,g⟩:=aDn g;subst q;obtain⟨x,⟨B,l⟩,g⟩:=aD g;have l:v=.Name x B:=l;subst l;exact aJo M g
theorem aJz:QS P n Y old .retN:=λ{X Γ} M {st} h RT Z=>by
 delta fG at h
 obtain⟨r,⟨p,rfl⟩,g⟩:=aD h;cases r with
 | none=>exact aJn|some _=>cases g
set_option smartUnfolding false in
theorem aLX{c:E}{a b:Ss}(G:QSs P n Y old a)(I:QSs P n Y old b):QS P n Y old (.iff c a b):=λ{X Γ} M {st} h RT Z=>by
 delta fG at h
 obtain⟨⟨t,x,y⟩,⟨p,rfl⟩,g⟩:=aD h;obtain⟨l,q,B⟩:=fT g;exact aNF (sT c M l RT Y old Z) (G M q) (I M B)
set_option smartUnfolding false in
theorem aLY{t:T}{it:Hp.It}{b:Ss}(I:QSs P n Y old b):QS P n Y old (.for t it b):=λ{X Γ} M {st} h RT Z=>by
 delta fG at h
 obtain⟨⟨tg,q,body⟩,⟨p,rfl⟩,g⟩:=aD h;obtain⟨B,l,G⟩:=fT g;exact aLR M B (sI it M l RT Y old Z) (I M G) (lT (jU l))
theorem aLZ:QS P n Y old .brk:=λ{X Γ} M {st} h RT Z=>by
 delta fG at h
 obtain⟨_,⟨p,rfl⟩,_⟩:=aD h;exact aLK
theorem aMa:QS P n Y old .cnt:=λ{X Γ} M {st} h RT Z=>by
 delta fG at h
 obtain⟨_,⟨p,rfl⟩,_⟩:=aD h;exact aLL
theorem aJA:QS P n Y old .pass:=λ{X Γ} M {st} h RT Z=>by
 delta fG at h
 obtain⟨_,⟨p,rfl⟩,_⟩:=aD h;exact aJm
theorem aNG{e:E}:QS P n Y old (.ex e):=λ{X Γ} M {st} h RT Z=>by
 delta fG at h
 obtain⟨v,⟨p,rfl⟩,g⟩:=aD h;obtain⟨l,q⟩:=eQ g;exact aNE (sE e M l RT Y old Z) (by simpa using q)
theorem aMb{c:Nat}{k:Bool}{es:Es}:QS P n Y old (.rse c k es):=by intro X Γ M st h RT Z;exact aLM
theorem jK{c:S}(z:∀Γ st,fG Γ c st=false):QS P n Y old c:=by intro X Γ M st h RT Z;rw[z] at h;cases h
theorem aJB{X:Cx}{Γ:Ct}{RT:Addr->Prop}{Z:Sg}{pos:DK}{b:Ss}{body:List CG}{l:Km}{hs:List Km}(M:Mc X P Γ n)(B:PSs X body (wS X RT Y old Z (exs P (call P n) Z b))) :
 PS X (.Try body (l::hs) [] [] pos) (wS X RT Y old Z (ex P (call P n) Z (.tryN b))):=by
 intro pins s ZV H D I h;refine wpAny_Try_except (CQ (B pins s ZV H D I h) (λf s1 q=>?_) λe s1 q=>?_);cases f with
 | next=>exact G1 q|_=>exact q
 rw[M.xe] at q;exact q.elim
set_option smartUnfolding false in
theorem aJC{b:Ss}(l:QSs P n Y old b):QS P n Y old (.tryN b):=λ{X Γ} M {st} h RT Z=>by
 delta fG at h
 obtain⟨r,⟨hd,hs,p,rfl⟩,g⟩:=aD h;exact aJB M (l M g RT Z)
theorem aMc:QSs P n Y old .nil:=λ{X Γ} M {st} h RT Z=>by
 cases st with
 | nil=>exact aLJ|cons _ _=>exact nf h
theorem aJD{c:S}{cs:Ss}(B:QS P n Y old c)(hs:QSs P n Y old cs):QSs P n Y old (.cons c cs):=λ{X Γ} M {st} h RT Z=>by
 cases st with
 | nil=>exact nf h|cons x xs=>obtain⟨l,q⟩:=eQ h;exact aJl (B M l) (hs M q)
mutual
theorem sS:(c:S)->QS P n Y old c
 | .set _ _=>aLS|.mov _ _=>aLT|.setIx _ _ _=>aGo|.dnew _=>aJw|.dput _ _=>aJx|.dpv _ _ _=>jK λ_ _=>rfl|.dfrom _ _=>jK λ_ _=>rfl|.app _ _=>aLU|.ext _ _=>aLV|.pop none _ none=>aGp|.pop none _ (some _)=>jK λ_ _=>rfl|.pop (some _) _ none=>aGq|.pop (some _) _ (some _)=>jK λ_ _=>rfl|.clr _=>jK λ_ _=>rfl|.ins _ _ _=>jK λ_ _=>rfl|.rev _=>jK λ_ _=>rfl|.appCall _ _ _=>jK λ_ _=>rfl|.ret _=>aLW|.retv _=>aJy|.retN=>aJz|.iff _ a b=>aLX (sSs a) (sSs b)|.for _ _ b=>aLY (sSs b)|.whl _ _=>jK λ_ _=>rfl|.brk=>aLZ|.cnt=>aMa|.pass=>aJA|.ex _=>aNG|.rse _ _ _=>aMb|.try _ _=>jK λ_ _=>rfl|.tryN b=>aJC (sSs b)
theorem sSs:(c:Ss)->QSs P n Y old c
 | .nil=>aMc|.cons c cs=>aJD (sS c) (sSs cs)
end
end
structure Tx where
 x:Str
 qual:Str
 st:CG
 N:List Str
noncomputable def sR(Γ:Ct)(F:Fn)(t:Tx):Bool:=
 t.N.length==F.ns&&decide (F.np<=F.ns)&&decide t.N.Nodup&&(bL t.st).kind==.function&&!(bL t.st).isCoroutine&&!(bL t.st).isGenerator &&
 ((t.N.take F.np).all λx=>(bL t.st).names.lookup x==some .local||(bL t.st).names.lookup x==some .cell)&&((bL t.st).names.all λp=>p.2 != .free) &&
 chkSs { Γ with N:=t.N,sc:=(bL t.st).names,fn:=true } F.body (iM t.st)
noncomputable def iC(Γ:Ct):List Fn->List Tx->Bool
 | [],[]=>true|F::Fs,t::ts=>sR Γ F t&&iC Γ Fs ts|_,_=>false
theorem gG{Γ:Ct}:∀{l:List Fn} {ts:List Tx},iC Γ l ts=true->∀{f:Nat} {t:Tx},ts[f]? = some t->∃F,l[f]? = some F/\sR Γ F t=true
 | [],[],_,_,_,e=>by simp at e|[],_::_,h,_,_,_=>by cases h|_::_,[],h,_,_,_=>by cases h|F::l,t::ts,h,0,t',e=>by
  obtain⟨q,B⟩:=eQ (show(sR Γ F t&&iC Γ l ts)=true from h);have I:t=t':=by simpa using e
  subst I;exact⟨F,rfl,q⟩
 | F::l,t::ts,h,f+1,t',e=>by obtain⟨q,B⟩:=eQ (show(sR Γ F t&&iC Γ l ts)=true from h);obtain⟨G,L,M⟩:=gG B (f:=f) (t:=t') (by simpa using e);exact⟨G,by simpa using L,M⟩
section
variable {prog:A0} {w:AN} {K:Fg} {mg:Str->Option Value} {base:Heap} {P:Pg} {Γ:Ct} {txs:List Tx}
structure Top (prog:A0) (w:AN) (K:Fg) (mg:Str->Option Value) (P:Pg) (Γ:Ct) (txs:List Tx):Prop where
 fn:∀(f:Nat) (t:Tx),txs[f]? = some t->∃fa fd,mg t.x=some (.ref fa)/\Fun K t.x t.qual t.st fa fd/\∀F,P.fns[f]? = some F->jI K fd (t.N.take F.np) []
 fns:∀(f:Nat) (x:Str),Γ.fns[f]? = some x->∃t,txs[f]? = some t/\t.x=x
 blt:∀x∈bltNames,mg x=none
 cns:∀(x:Str) (d:D),Γ.cns.lookup x=some d->∃u v,mg x=some u/\bG v u/\∀H ex,Rep K H ex d v
 tab:∀(i:Nat) (x:Str),Γ.tbs[i]? = some x->∃a t,mg x=some (.ref a)/\P.tabs[i]? = some t/\sA prog w K a t
 chk:iC Γ P.fns txs=true
theorem aBf{k f:Nat}{F:Fn}(hF:P.fns[f]? = some F){vs:List V}{H:Hp}{Q:VK}{E:XK}(h:spF K P (k+1) f vs H Q E):vs.length=F.np:=by obtain⟨ds,Y,_,r,q⟩:=h;obtain⟨x,e,_⟩:=q.eq;have e:tZ P (call P k) f ds=.ok x:=e;unfold tZ at e;rw[hF] at e;have e:(if ds.length=F.np then _ else R.bad)=R.ok x:=e;split at e;rename_i l;rw[<-r.length];exact l;cases e
theorem aDZ{ds:List D}{vs:List V}{H:Hp}{Y:Addr->Prop}{m:Nat}(G:∀a,Y a->H a≠none)(t:Tk K H)(r:Reps K H Y ds vs):Sx K (λ_=>False) Y (λb=>H b≠none) ((ds.map λd=>Sl.sh true d)++Aj m Sl.dead) (vs.map some++Aj m none) H:=by
 have len:=r.length;have get:∀{i:Nat} {s:Sl},((ds.map λd=>Sl.sh true d)++Aj m Sl.dead)[i]? = some s->s=.dead\/∃d,s=.sh true d/\ds[i]? = some d:=λ{i s} e=>by by_cases hi:i<ds.length;rw[A5 (by simpa using hi),A2,Ae hi] at e;cases e;exact .inr ⟨ds[i],rfl,Ae hi⟩;rw[A1 (by simpa using hi),C5] at e;split at e;cases e;exact .inl rfl;cases e
 exact {
  sh:=λi pa d e=>by
   rcases get e with z|⟨d',z,q⟩
   cases z;cases z;obtain⟨v,I,rv⟩:=r.get q;have hi:i<vs.length:=(Ar.mp I).1;refine⟨v,?_,rv.weak λa z=>?_⟩;rw[A5 (by simpa using hi),A2,I];rfl;rcases z with z|z|⟨z,_⟩
   exact z.elim;exact z;cases z
  own:=λi pa ds' e=>by
   rcases get e with z|⟨d',z,q⟩
   cases z;cases z
  trk:=λa z=>by rcases z with z|z|z;exact z.elim;exact G a z;exact z
  yo:=G
  tk:=t
  rt:=λ_ z=>z.elim
  inj:=λi j pa pa' l B a e=>by
   rcases get e with z|⟨d',z,q⟩
   cases z;cases z
  len:=by rw[lA,lA,lM,lM,Bk,Bk,len]
  dx:={
   at':=λi ds' e=>by
    rcases get e with z|⟨d',z,q⟩
    cases z;cases z
   inj:=λi j l B a e=>by
    rcases get e with z|⟨d',z,q⟩
    cases z;cases z } }
theorem aBg{k f:Nat}{t:Tx}{F:Fn}{fa:Addr}{fd:DN}(q0:∀(f:Nat) (x:Str),Γ.fns[f]? = some x->∃fa fd ps,mg x=some (.ref fa)/\DO K (.ref fa)=true/\jI K fd ps []/\nJ prog w K mg base CX0 k fa fd ps (spF K P k f))
 (G:∀x∈bltNames,mg x=none) (I:∀(x:Str) (d:D),Γ.cns.lookup x=some d->∃u v,mg x=some u/\bG v u/\∀H ex,Rep K H ex d v) (U:∀(i:Nat) (x:Str),Γ.tbs[i]? = some x->∃a t,mg x=some (.ref a)/\P.tabs[i]? = some t/\sA prog w K a t) (h2:Fun K t.x t.qual t.st fa fd) (hF:P.fns[f]? = some F) (hc:sR Γ F t=true) :
 nJ prog w K mg base CX0 (k+1) fa fd (t.N.take F.np) (spF K P (k+1) f):=by
 unfold sR at hc;simp only[bA,beq_iff_eq,Aq,Cb,Bo,BG,bne_iff_ne,ne_eq] at hc;obtain⟨⟨⟨⟨⟨⟨⟨⟨c1,c2⟩,c3⟩,c4⟩,c5⟩,c6⟩,c7⟩,c8⟩,c9⟩:=hc;have lt:(t.N.take F.np).length=F.np:=by rw[Bc];omega
 have sc:nR t.N (t.N.take F.np) (bL t.st):=⟨c4,c5,c6,c3,by rw[lt],c7,c8⟩
 refine h2.ok sc (λvs H Q E h=>by rw[lt];exact aBf hF h) λcdv A outer s H vs Q E hr h=>?_;have B:=aBf hF h;obtain⟨ds,Y,hY,r,W⟩:=h;have M:Mc (yZ CX0 prog w K mg base t.N t.qual (bL t.st) fa cdv A outer s H E).nox P { Γ with N:=t.N,sc:=(bL t.st).names,fn:=true } k:={
  md:=⟨q0,G,I,U⟩
  N:=rfl
  nd:=c3
  sc:=rfl
  calm:=rfl
  room:=hr
  xe:=rfl
  st:=λ_ _=>.inl rfl
  fk:=c4 }
 obtain⟨res,l,W⟩:=W.eq;have l:tZ P (call P k) f ds=.ok res:=l;unfold tZ at l;rw[hF] at l;have l:(if ds.length=F.np then (match exs P (call P k) ((ds.map λd=>Sl.sh true d)++Aj (F.ns-F.np) Sl.dead) F.body with
  | .ret v=>R.ok (v.d,v.fr,v.pa)|.next _=>R.ok (.non,false,false)|.exc x _=>R.exc x|_=>R.bad) else R.bad)=R.ok res:=l
 have hdl:ds.length=F.np:=by rw[r.length];exact B
 rw[if_pos hdl] at l;refine⟨_,uO (t':=λD ZV H'=>Tk K H'->wS _ (λ_=>False) Y (λb=>H b≠none) ((ds.map λd=>Sl.sh true d)++Aj (F.ns-F.np) Sl.dead) (exs P (call P k) ((ds.map λd=>Sl.sh true d)++Aj (F.ns-F.np) Sl.dead) F.body) D ZV H') (sSs (Y:=Y) (old:=λb=>H b≠none) F.body M c9 (λ_=>False) ((ds.map λd=>Sl.sh true d)++Aj (F.ns-F.np) Sl.dead)) (λD ZV H' tk hw=>⟨(hw tk).1,OE.tkE (hw tk).2⟩),λtk=>⟨?_,?_⟩⟩;have e:L2.start t.N vs=vs.map some++Aj (F.ns-F.np) none:=by unfold L2.start;rw[B,c1]
 rw[e];exact aDZ hY tk r;have same:∀{H':Hp},Kp (λ_=>False) H H'->aL H H':=λk b o e=>k b o e id;show OE K (λ_=>False) Y (λb=>H b≠none) H (exs P (call P k) ((ds.map λd=>Sl.sh true d)++Aj (F.ns-F.np) Sl.dead) F.body) _;cases q:exs P (call P k) ((ds.map λd=>Sl.sh true d)++Aj (F.ns-F.np) Sl.dead) F.body with
 | next Z'=>rw[q] at l;cases(show R.ok (D.non,false,false)=R.ok res from l);exact λq2 q3 H' kp sub S'=>W .non H' S'.tk (same kp) (show(if false=true then _ else _) from aKG rfl)|ret v=>
  rw[q] at l;cases(show R.ok (v.d,v.fr,v.pa)=R.ok res from l);refine λu H' kp q1 rt=>W u H' q1 (same kp) ?_;unfold Rr;unfold Rtv at rt;cases L:v.fr with
  | true=>rw[L,if_pos rfl] at rt;obtain⟨a,xs,ds',e1,e2,e3,e4,rr⟩:=rt;exact aNg ⟨a,xs,ds',e1,e2,L8.mp e3,e4,rr⟩|false=>rw[L,if_neg bN] at rt;exact aKG rt
 | brk Z'=>rw[q] at l;cases l|cnt Z'=>rw[q] at l;cases l|exc e Z'=>rw[q] at l;cases l|bad=>rw[q] at l;cases l
theorem aEa(T:Top prog w K mg P Γ txs):∀(k f:Nat) (x:Str),Γ.fns[f]? = some x->∃fa fd ps,mg x=some (.ref fa)/\DO K (.ref fa)=true/\jI K fd ps []/\nJ prog w K mg base CX0 k fa fd ps (spF K P k f)
 | 0,f,x,l=>by
  obtain⟨t,q,rfl⟩:=T.fns f x l;obtain⟨fa,fd,G,B,I⟩:=T.fn f t q;obtain⟨F,hF,_⟩:=gG T.chk q;have L:∀vs H Q E,¬ spF K P 0 f vs H Q E:=λvs H Q E h=>by obtain⟨ds,Y,_,r,U⟩:=h;exact U
  exact⟨fa,fd,_,G,B.kp,I F hF,λvs H Q E h=>absurd h (L vs H Q E),λA outer s H args us vs Q E _ _ _ _ h=>absurd h (L vs H Q E)⟩
 | k+1,f,x,l=>by obtain⟨t,q,rfl⟩:=T.fns f x l;obtain⟨fa,fd,G,B,I⟩:=T.fn f t q;obtain⟨F,hF,M⟩:=gG T.chk q;exact⟨fa,fd,_,G,B.kp,I F hF,aBg (λf x l=>aEa T k f x l) T.blt T.cns T.tab B hF M⟩
theorem aJE(T:Top prog w K mg P Γ txs){f:Nat}{t:Tx}{F:Fn}{fa:Addr}{fd:DN}(G:txs[f]? = some t)(hF:P.fns[f]? = some F)(q:Fun K t.x t.qual t.st fa fd)(k:Nat):nJ prog w K mg base CX0 (k+1) fa fd (t.N.take F.np) (spF K P (k+1) f):=by obtain⟨I,l,B⟩:=gG T.chk G;rw[hF] at l;cases l;exact aBg (aEa T k) T.blt T.cns T.tab q hF B
theorem aJF{k f:Nat}{K:Fg}{H:Hp}{a:Addr}{ns:List Int}(L:aFB H)(B:SqL K H a (ns.map V.int))(h:∃fr pa,call P k f [.lst (ns.map D.int)]=.ok (.bl true,fr,pa)) :
 spF K P k f [.ref a] H (λv _=>v=.bl true) λ_ _ _=>False:=by
 obtain⟨fr,pa,e⟩:=h;have I:∀(ns:List Int),Reps K H (λ_=>False) (ns.map D.int) (ns.map V.int):=by
  intro ns
  induction ns with
  | nil=>exact .nil|cons i ns G=>exact .cons rfl G
 refine⟨[.lst (ns.map D.int)],λ_=>False,λ_ z=>z.elim,.cons ⟨a,_,rfl,B,id,I ns⟩ .nil,?_⟩;rw[e];intro u H' _ _ l;unfold Rr at l;cases fr with
 | true=>rw[if_pos rfl] at l;obtain⟨_,_,_,_,q,_⟩:=l;cases q|false=>rw[if_neg bN] at l;exact l
end
end Hp
end
namespace Hp
open PySem PySem.Spec PyProof.Rows L2
noncomputable def ER(w:AN)(K:Fg)(e:DE)(p:Str×D):Prop:=e.hash=Ly w p.1/\(∃tk,e.key=.str p.1 tk)/\∃v,bG v e.val/\∀(H:Hp) (ex:Addr->Prop),Rep K H ex p.2 v
theorem sU{K:Fg}{H:Hp}{ex:Addr->Prop}:∀xs:List Str,Reps K H ex (xs.map D.str) (xs.map V.str)
 | []=>rfl|x::xs=>⟨.str x,xs.map V.str,rfl,rfl,sU xs⟩
theorem aEb{K:Fg}{b:Addr}{od:Option Addr}{l:Array Value}{n:Nat}{sl:Array (Option Value)}(h:K.lookup b=some ⟨.type "tuple",od,.seq l n,sl⟩)(xs:List Str)(B:l.size<=1000)(q:aO (xs.map V.str) l.toList) :
 ∀(H:Hp) (ex:Addr->Prop),Rep K H ex (.tup (xs.map D.str)) (.ref b):=λH ex=>
 ⟨b,xs.map V.str,rfl,.inr ⟨_,l,n,h,rfl,rfl,AC B (by rw[BB];decide),q⟩,sU xs⟩
theorem aEc{prog:A0}{w:AN}{K:Fg}:∀{es:List DE} {t:List (Str×D)},CO (ER w K) es t->∃vs:List (Key×Value),(∀e∈es,∃k:Key,(fI prog w).is k e.key=true/\e.hash=(fI prog w).hash k) /\
 Pairs (fI prog w) es vs/\vs.map (·.1)=t.map (λp=>(BZ p.1:Key)) /\
 ∀k:Str,(t.lookup k=none/\Gn vs (BZ k:Key)=none)\/∃d u v,t.lookup k=some d/\Gn vs (BZ k:Key)=some u/\bG v u/\∀(H:Hp) (ex:Addr->Prop),Rep K H ex d v
 | _,_,.nil=>⟨[],λe q=>absurd q (by simp),.nil,rfl,λk=>.inl ⟨rfl,rfl⟩⟩
 | e::es,p::t,.cons ⟨h1,⟨tk,h2⟩,v,h3,h4⟩ r=>by
  obtain⟨vs,I,L,M,U⟩:=aEc (prog:=prog) r;have B:vO (BZ p.1:Key) e.key=true:=by rw[h2];exact rO p.1 tk
  refine⟨(BZ p.1,e.val)::vs,λG q=>?_,.cons B rfl L,by rw[mC,mC,M],λk=>?_⟩;rcases Au.mp q with rfl|q;exact⟨BZ p.1,B,h1⟩;exact I G q;by_cases l:k=p.1;subst l;refine .inr ⟨p.2,e.val,v,?_,?_,h3,h4⟩;obtain⟨a,b⟩:=p;simp[Ev];simp[Gn];have W:(p::t).lookup k=t.lookup k:=by obtain⟨a,b⟩:=p;have:(k==a)=false:=beq_eq_false_iff_ne.mpr l;simp[Ev,this]
  have n2:Gn ((BZ p.1,e.val)::vs) (BZ k:Key)=Gn vs (BZ k:Key):=by unfold Gn;have:decide ((BZ p.1:Key)=BZ k)=false:=Az λz=>l (IZ z).symm;rw[G5];simp only[this]
  rw[W,n2];exact U k
theorem aJG{prog:A0}{w:AN}{K:Fg}{a:Addr}{es:Array DE}{ep:Nat}{t:List (Str×D)}(hs:(a==CP)=false)(h:K.lookup a=some ⟨.type "dict",none,.dict es ep,#[]⟩)(U:CO (ER w K) es.toList t)(q:(t.map (·.1)).Nodup):sA prog w K a t:=by
 obtain⟨vs,B,G,I,L⟩:=aEc (prog:=prog) U;refine⟨hs,vs,λW X=>⟨_,es,ep,X a _ h,⟨rfl,rfl,rfl⟩,rfl,λe M=>B e (by simpa using M),G,?_⟩,L⟩;rw[I];have e:t.map (λp=>(BZ p.1:Key))=(t.map (·.1)).map BZ:=by rw[A7];rfl
 rw[e];unfold Lu at q ⊢;rw[Dj];exact q.imp λl z=>l (IZ z)
end Hp
namespace Hh
open PySem PySem.W PySem.Calls PyProof.Rows
noncomputable def go(st:Hd->JR->Option (Hd×JR))(ok:JR->Bool)(n:Nat):Hd->JR->Option Hd:=
 @Nat.rec (λ_=>Hd->JR->Option Hd) (λ_ _=>none) (λ_ ih s t=>match L9 t with
  | true=>some s|false=>match ok t with
   | false=>none|true=>match st s t with
    | some (s',t')=>ih s' t'|none=>none) n
theorem oH{G:String->Option Cz}{p:A0}{w:AN}{l:Nat}{q:Option Value}:∀(n:Nat) (s B:Hd) (t:JR),go (LA (KC G) p w) (KD l q) n s t=some B->topRun G p w l q n s.abs t=some B.abs
 | 0,_,_,_,h=>by cases h|n+1,s,B,t,h=>by
  have h:(match L9 t with
   | true=>some s|false=>match KD l q t with
    | false=>none|true=>match LA (KC G) p w s t with
     | some (B,t')=>go (LA (KC G) p w) (KD l q) n B t'|none=>none)=some B:=h
  unfold topRun;cases L:L9 t with
  | true=>rw[L] at h;cases h;rfl|false=>
   rw[L] at h;cases I:KD l q t with
   | false=>rw[I] at h;cases h|true=>
    rw[I] at h;cases hs:LA (KC G) p w s t with
    | none=>rw[hs] at h;cases h|some r=>obtain⟨M,U⟩:=r;rw[hs] at h;rw[stepT_spec hs];exact oH n _ _ _ h
noncomputable def bt(l:List Obj)(n:Nat):Nat->Nat->BT:=
 @Nat.rec (λ_=>Nat->Nat->BT) (λ_ _=>.nil) (λ_ ih a b=>match l[b]? with
  | some o=>.node o (ih (2*a) (a+b)) (ih (2*a) (2*a+b))|none=>.nil) n
noncomputable def aEd{α:Type}(p q:A0)(loose:List Str)(Xt:Ac->Bool)(Yf:Ac->α)(h0:Heap)(s:Ac):=
 ((Kx (G7 p.main.body) h0 s.heap&&JS p s.heap&&Lf s&&Lg h0 s.heap),openSeen q loose (G7 p.main.body) Xt true s,Yf s)
theorem aGr{p q:A0}{B:List Str}{U:Ac->Bool}{α:Type}{Yf:Ac->α}{W:AN->α}{N l:Nat}{L:Option Value}{G:J8->BT}{I:Life}(e:opening p=plainProg p.main.scope.names)(hN:Nat.ble 600 N=true)(f:∀s,Kn p s=some s)
 (hb:∀P,absHeap (G P) l I=Cv P) (hz:∀P:J8,((Cv P).isNs Bz,(Cv P).objs.size,(Cv P).nsMap Bz "__annotations__")=(true,l,L))
 (h:∀(w:AN) (os:OsState),(go (LA (KC IV) p w) (KD l L) N ⟨G w.params,l,I,JT [],HM,IW,os⟩ (LB p)).map (λs=>aEd p q B U Yf (Cv w.params) s.abs)=some (true,Lh q B,W w)):LM p q B U Yf W N:=λw=>by
 obtain⟨⟨hh,gs,d,k,os⟩,e1,e2⟩:=B1.mp (boot_open e hN f w);simp only[CM] at e2;obtain⟨rfl,rfl,rfl,rfl⟩:=e2;obtain⟨s,g1,M⟩:=B1.mp (h w os);have r:=oH N _ _ _ g1;have r:topRun IV p w l L N ⟨Cv w.params,JT [],HM,IW,os⟩ (LB p)=some s.abs:=by rw[<-hb];exact r
 have z:=hz w.params;simp only[CM] at z;obtain⟨z1,z2,z3⟩:=z;unfold aEd at M;simp only[CM] at M;obtain⟨l1,l2,l3⟩:=M;have t:LC IV p w N ⟨Cv w.params,JT [],HM,IW,os⟩=some s.abs:=by unfold LC;dsimp only;rw[z1,z2,z3,r];show(match Kx (G7 p.main.body) (Cv w.params) s.abs.heap&&JS p s.abs.heap&&Lf s.abs&&Lg (Cv w.params) s.abs.heap with|true=>_|false=>_)=_;rw[l1]
 unfold openEnds;rw[e1];show(LC IV p w N _).map _=_;rw[t];exact congrArg some (KO l2 l3)
noncomputable def T0(P:J8):BT:=bt (Cv P).objs.toList 5 1 0
theorem aJH:∀P,absHeap (T0 P) 11 {}=Cv P:=λP=>by kernel_rfl
theorem aGs:∀P:J8,((Cv P).isNs Bz,(Cv P).objs.size,(Cv P).nsMap Bz "__annotations__")=(true,11,some (.ref 6)):=λP=>by kernel_rfl
abbrev aMd:=@PySem.W.Fast.tw10156331382660048174
abbrev qOk:=@PySem.W.Fast.tw6613529449190102663
abbrev aNH:=@PySem.W.Fast.tw11892475500146522536
abbrev aNI:=@PySem.W.Fast.tw14364793385576792824
abbrev aMe:=@PySem.W.Fast.tw4187177175401517315
abbrev aMf:=@PySem.W.Fast.tw5923862056798008813
noncomputable def aMg{α:Type}(p q:A0)(loose:List Str)(Yf:Ac->α)(N:Nat)(w:AN)(os:OsState):=
 (go (aMd (aNH aNI) p w) (qOk 11 (some (.ref 6))) N ⟨T0 w.params,11,{},JT [],HM,IW,os⟩ (LB p)).map λs=>((Kx (aMf p.main.body) (Cv w.params) s.abs.heap&&JS p s.abs.heap&&Lf s.abs&&Lg (Cv w.params) s.abs.heap),aMe q loose (aMf p.main.body) (λ_=>true) true s.abs,Yf s.abs)
theorem aJI{p q:A0}{l:List Str}{α:Type}{G:Ac->α}{B:AN->α}{N:Nat}(e:opening p=plainProg p.main.scope.names)(I:Nat.ble 600 N=true)(f:∀s,Kn p s=some s)
 (h:∀w os,aMg p q l G N w os=some (true,Lh q l,B w)):LM p q l (λ_=>true) G B N:=by refine aGr e I f aJH aGs λw os=>?_;unfold aEd;rw[Hv,HN,Hw,Hx,HP,HQ];exact h w os
end Hh
namespace Hh
open PySem PySem.W PySem.Calls PyProof.Rows L2 Hp
noncomputable def jV(h:Heap):Av:=(AF h.objs.size).filterMap λa=>(h.get? a).map λo=>(a,o)
theorem qH{α:Type}(f:Nat->Option α)(a:Nat):∀n,((AF n).filterMap λi=>(f i).map λo=>(i,o)).lookup a=if a<n then f a else none
 | 0=>rfl|n+1=>by
  rw[Jt,List.filterMap_append,List.lookup_append,qH f a n];by_cases h:a<n;rw[if_pos h,if_pos (B8 h)];cases q:f a with
  | some o=>rfl|none=>
   have l:(a==n)=false:=beq_eq_false_iff_ne.mpr (A4 h);cases B:f n with
   | none=>simp[B]|some o=>simp[B,Ev,l]
  rw[if_neg h];by_cases e:a=n;subst e;rw[if_pos (Cs _)];cases q:f a with
  | none=>simp[q]|some o=>simp[q,Ev]
  rw[if_neg (by omega)];have l:(a==n)=false:=beq_eq_false_iff_ne.mpr e;cases B:f n with
  | none=>simp[B]|some o=>simp[B,Ev,l]
theorem cQ(h:Heap)(a:Addr):(jV h).lookup a=h.get? a:=by
 unfold jV;rw[qH];by_cases q:a<h.objs.size;rw[if_pos q];rw[if_neg q];cases e:h.get? a with
 | none=>rfl|some o=>exact absurd (Am e) q
theorem aBh{h h':Heap}(k:∀b o,h.get? b=some o->h'.get? b=some o):(jV h).In h':=λa o e=>k a o (by rw[<-cQ];exact e)
noncomputable def mM(h:Heap)(x:Str):Option (Option Value):=match h.get? Bz with
 | some ⟨_,_,.dict es _,_⟩=>(match es.toList.find? (λe=>match e.key with|.str y _=>IB y x|_=>false) with
  | some e=>some (some e.val)|none=>if es.toList.any (·.refKey) then none else some none)
 | _=>none
theorem aEe(v:Value)(x:Str):v.isStr x=(match v with|.str y _=>IB y x|_=>false):=by
 cases v with
 | str y t=>show(y==x)=IB y x;rw[Bool.eq_iff_iff,beq_iff_eq,KF]|_=>rfl
theorem gH(h:Heap)(x:Str):nsIn (jV h) Bz x=mM h x:=by unfold nsIn mM;rw[cQ];simp only[aEe];rfl
noncomputable def qJ(h:Heap)(cd:Value):Option Str:=match cd with
 | .ref c=>(match h.get? c with
  | some ⟨_,_,.fields vs,_⟩=>(match vs.toList with|_::.str n _::_=>some n|_=>none)
  | _=>none)
 | _=>none
theorem aCg{h:Heap}{l:Value}{q:Str}(e:qJ h l=some q):codeIn (jV h) l q=true:=by unfold qJ at e;unfold codeIn;split at e;rename_i c;simp only[cQ];split at e;rename_i vs _ B;rw[B];split at e;rename_i a n t r G;cases e;simp only[G,beq_self_eq_true];cases e;cases e;cases e
abbrev Pin:=Str×Str×Hb×FuncBody×DL×Addr×List (Str×Addr)×Value×Addr×Option Str
noncomputable def aAc(h:Heap)(x:Str):Option Pin:=match mM h x with
 | some (some (.ref a))=>(match h.get? a with
  | some ⟨_,_,.func fd,_⟩=>some (fd.name,fd.qualname,fd.params,fd.body,fd.scope,fd.globals,fd.closure,fd.defaults,fd.builtins,qJ h fd.code)|_=>none)
 | _=>none
noncomputable def cL(s:CG):Str:=match s with|.FunctionDef x _ _ _ _ _ _ _ _ _=>x|_=>⟨#[]⟩
noncomputable def aEf(st:CG):Pin:=(cL st,cL st,iL st,.stmts (iM st),bL st,Bz,[],.none,Hz,some (cL st))
theorem aGt{h:Heap}{st:CG}(e:aAc h (cL st)=some (aEf st)):∃fa fd,nsIn (jV h) Bz (cL st)=some (some (.ref fa))/\Fun (jV h) (cL st) (cL st) st fa fd:=by unfold aAc at e;split at e;rename_i a G;split at e;rename_i c d fd sl l;obtain⟨n,M,ps,b,sc,g,W,L,kd,doc,pm,an,q,ct,I⟩:=fd;unfold aEf at e;simp only[Dg,CM] at e;obtain⟨rfl,rfl,rfl,rfl,rfl,rfl,rfl,rfl,rfl,B⟩:=e;refine⟨a,_,by rw[gH];exact G,⟨⟨c,d,kd,doc,pm,an,q,ct,sl,rfl,by rw[cQ];exact l,aCg B⟩,?_⟩⟩;unfold keepIn;simp only[cQ,l];cases e;cases e
theorem xV{α:Type}{x:Str}{u:α}:∀{ps:List Str} {us:List α},ps.Nodup->ps.length=us.length->(x,u)∈ps.zip us->(ps.zip us).lookup x=some u
 | [],_,_,_,h=>by simp at h|p::ps,[],_,h,_=>by simp at h|p::ps,v::us,hn,hl,h=>by rw[AE] at h ⊢;obtain⟨l,q⟩:=B2.mp hn;rcases Au.mp h with h|h;cases h;simp[Ev];have B:x∈ps:=(ES h).1;have:(x==p)=false:=beq_eq_false_iff_ne.mpr λz=>l (z▸B);simp only[Ev,this];exact xV q (by simpa using hl) h
theorem aEg{α:Type}(L:List (Str×α)):∀{ps:List Str} {us:List α},ps.length=us.length->(∀p∈ps.zip us,L.lookup p.1=some p.2)->(ps.filterMap λn=>(L.lookup n).map (n,·))=ps.zip us
 | [],_,_,_=>by simp|p::ps,[],h,_=>by simp at h|p::ps,v::us,hl,h=>by rw[AE,BL,h (p,v) (by simp),aEg L (ps:=ps) (us:=us) (by simpa using hl) λq l=>h q (by rw[AE];exact Ag _ l)];rfl
theorem aEh{α:Type}(L:List (Str×α)):∀{ps:List Str} {us:List α},ps.length=us.length->(∀p∈ps.zip us,L.lookup p.1=some p.2)->(ps.filter λn=>(L.lookup n).isNone)=[]
 | [],_,_,_=>by simp|p::ps,[],h,_=>by simp at h|p::ps,v::us,hl,h=>by rw[IX,h (p,v) (by simp),aEh L (ps:=ps) (us:=us) (by simpa using hl) λq l=>h q (by rw[AE];exact Ag _ l)];rfl
noncomputable def iV(a:Hb)(ps:List Str):Bool:=match a with|⟨[],as,none,[],[],none,[]⟩=>decide (as.map (·.arg)=ps)&&decide ps.Nodup|_=>false
theorem qK{x q:Str}{a:Hb}{b:List CG}{sc:DL}{kV doc pm:Value}{an:Option Addr}{cdv ct:Value}{ps:List Str}{us:List Value}(h:iV a ps=true)(l:us.length=ps.length) :
 Jz (fnOf x q a b sc .none kV doc pm an cdv ct) ⟨us,[]⟩=pure (ps.zip us):=by
 unfold iV at h;split at h;rename_i as;obtain⟨B,G⟩:=Bool.and_eq_true_iff.mp h;have B:=of_decide_eq_true B;have G:=of_decide_eq_true G;have z:∀p∈ps.zip us,(ps.zip us).lookup p.1=some p.2:=λp U=>xV G l.symm U;have I:=aEh (ps.zip us) l.symm z;have L:=aEg (ps.zip us) l.symm z;unfold Jz;have M:∀s:Value,s=.none->(Kv s)=pure none:=λs e=>by subst e;rfl
 simp only[mN,D8,B,M,GR,pure_bind,l,gt_iff_lt,AY,decide_false,Fi,EC,lN,Nat.zero_sub,List.drop_nil,Gp,Bn,I,EF,Bh,FT,H9,AV,L,if_false,bF];cases h
noncomputable def xW(s:CG):Bool:=match s with|.FunctionDef _ _ _ _ _ _ _ _ _ _=>true|_=>false
noncomputable def aEi:D->Value->Bool
 | .int i,.int j _=>decide (i=j)|.str a,.str b _=>IB a b|.non,.none=>true|.bl a,.bool b=>a==b|_,_=>false
noncomputable def aAd(h:Heap)(c:Str×D):Bool:=match mM h c.1 with|some (some u)=>aEi c.2 u|_=>false
noncomputable def kR:Value->Option Str
 | .str x _=>some x|_=>none
abbrev aEj:=Int×Option Str×Option (Value×List (Option Str))
noncomputable def nW(h:Heap)(e:DE):aEj:=(e.hash,kR e.key,match e.val with
 | .ref b=>(match h.get? b with
  | some ⟨c,_,.seq its _,_⟩=>some (c,its.toList.map kR)|_=>none)
 | _=>none)
noncomputable def uR(h:Heap)(x:Str):Option (Bool×Value×Option Addr×Array (Option Value)×List aEj):=match mM h x with
 | some (some (.ref a))=>(match h.get? a with
  | some ⟨c,d,.dict es _,sl⟩=>some (a==CP,c,d,sl,es.toList.map (nW h))|_=>none)
 | _=>none
noncomputable def uS(w:AN)(p:Str×List Str):aEj:=(Ly w p.1,some p.1,some (.type "tuple",p.2.map some))
noncomputable def aAe(w:AN)(t:List (Str×List Str)):Option (Bool×Value×Option Addr×Array (Option Value)×List aEj):=some (false,.type "dict",none,#[],t.map (uS w))
noncomputable def aCh(t:List (Str×List Str)):List (Str×D):=t.map λp=>(p.1,.tup (p.2.map D.str))
theorem aBi:∀{us:List Value} {xs:List Str},us.map kR=xs.map some->aO (xs.map V.str) us
 | [],[],_=>.nil|[],_::_,h=>by cases h|_::_,[],h=>by cases h|u::us,x::xs,h=>by rw[mC,mC] at h;obtain⟨l,q⟩:=El h;refine .cons ?_ (aBi q);unfold kR at l;split at l;cases l;exact⟨_,rfl⟩;cases l
theorem aJJ{h:Heap}{w:AN}{e:DE}{p:Str×List Str}(q:nW h e=uS w p)(U:p.2.length<=1000):ER w (jV h) e (p.1,.tup (p.2.map D.str)):=by unfold nW uS at q;simp only[CM] at q;obtain⟨q1,B,l⟩:=q;refine⟨q1,?_,?_⟩;unfold kR at B;split at B;rename_i y tk G;exact⟨tk,by rw[G];exact congrArg (λz=>Kq z tk) (As B)⟩;cases B;split at l;rename_i b G;split at l;rename_i c d q0 n sl W;have l:=As l;simp only[CM] at l;obtain⟨M,I⟩:=l;subst M;have L:=congrArg F9 I;rw[lM,lM] at L;exact⟨.ref b,by rw[G];rfl,aEb (by rw[cQ];exact W) p.2 (by rw[<-AK,L];exact U) (aBi I)⟩;cases l;cases l
theorem sV{h:Heap}{w:AN}:∀{es:List DE} {t:List (Str×List Str)},es.map (nW h)=t.map (uS w)->(∀p∈t,p.2.length<=1000)->CO (ER w (jV h)) es (aCh t)
 | [],[],_,_=>.nil|[],_::_,q,_=>by cases q|_::_,[],q,_=>by cases q|e::es,p::t,q,hl=>by rw[mC,mC] at q;obtain⟨l,B⟩:=El q;exact .cons (aJJ l (hl p (Ak ..))) (sV B λI G=>hl I (Ag _ G))
noncomputable def aBj(t:List (Str×List Str)):Bool:=(t.all λp=>decide (p.2.length<=1000))&&decide (t.map (·.1)).Nodup
theorem aEk{prog:A0}{h:Heap}{w:AN}{x:Str}{t:List (Str×List Str)}(e:uR h x=aAe w t)(ok:aBj t=true):∃a,nsIn (jV h) Bz x=some (some (.ref a))/\sA prog w (jV h) a (aCh t):=by unfold aBj at ok;rw[bA,Bo] at ok;unfold uR aAe at e;split at e;rename_i a B;split at e;rename_i c d es ep sl G;have e:=As e;simp only[CM] at e;obtain⟨l,rfl,rfl,rfl,q⟩:=e;refine⟨a,(gH h x).trans B,aJG l (by rw[cQ];exact G) (sV q λp I=>of_decide_eq_true (ok.1 p I)) ?_⟩;unfold aCh;rw[A7];exact of_decide_eq_true ok.2;cases e;cases e
structure Sn where
 cns:List (Str×D)
 tbs:List (Str×List (Str×List Str))
abbrev aHs:=List (Option Pin)×List (Option (Option Value))×Bool×List (Option (Bool×Value×Option Addr×Array (Option Value)×List aEj))
noncomputable def iW(p:A0)(n:Sn)(h:Heap):aHs:=
 ((p.main.body.filter xW).map (λst=>aAc h (cL st)),bltNames.map (mM h),n.cns.all (aAd h),n.tbs.map (λq=>uR h q.1))
noncomputable def mO(p:A0)(n:Sn)(w:AN):aHs:=
 ((p.main.body.filter xW).map (λst=>some (aEf st)),bltNames.map (λ_=>some none),true,n.tbs.map (λq=>aAe w q.2))
noncomputable def xX(p:A0)(i:Nat):CG:=p.main.body.getD i (.Pass ⟨0,0,0,0⟩)
noncomputable def nP(p:A0)(c:Nat×List Str):Tx:=⟨cL (xX p c.1),cL (xX p c.1),xX p c.1,c.2⟩
theorem aJK{p:A0}{i:Nat}(h:xW (xX p i)=true):xX p i∈p.main.body:=by
 unfold xX at h ⊢;rw[CU] at h ⊢;cases e:p.main.body[i]? with
 | none=>rw[e] at h;cases h|some s=>exact mG e
theorem aGu{h:Heap}{c:Str×D}(e:aAd h c=true):∃u v,nsIn (jV h) Bz c.1=some (some u)/\bG v u/\∀H ex,Rep (jV h) H ex c.2 v:=by unfold aAd at e;split at e;rename_i u l;obtain⟨x,d⟩:=c;have e:aEi d u=true:=e;unfold aEi at e;split at e;cases of_decide_eq_true e;exact⟨_,.int _,(gH _ _).trans l,⟨_,rfl⟩,λ_ _=>rfl⟩;cases KF.mp e;exact⟨_,.str _,(gH _ _).trans l,⟨_,rfl⟩,λ_ _=>rfl⟩;exact⟨_,.non,(gH _ _).trans l,rfl,λ_ _=>rfl⟩;cases eq_of_beq e;exact⟨_,.bl _,(gH _ _).trans l,rfl,λ_ _=>rfl⟩;cases e;cases e
theorem aJL{prog p:A0}{w:AN}{L h:Heap}{mg:Str->Option Value}{P:Pg}{Γ:Ct}{ix:List (Nat×List Str)}{n:Sn}(S:iW p n L=mO p n w)(k:∀b o,L.get? b=some o->h.get? b=some o)(G:h.Ns Bz mg)
 (hi:(ix.all λc=>xW (xX p c.1))=true) (h1:Γ.fns=(ix.map (nP p)).map (·.x)) (h2:Γ.cns=n.cns) (h3:Γ.tbs=n.tbs.map (·.1)) (h4:P.tabs=n.tbs.map λq=>aCh q.2) (h5:(n.tbs.all λq=>aBj q.2)=true)
 (hb:((P.fns.zip (ix.map (nP p))).all λq=>iV (iL q.2.st) (q.2.N.take q.1.np))=true) (chk:iC Γ P.fns (ix.map (nP p))=true) :
 Top prog w (jV L) mg P Γ (ix.map (nP p)):=by
 unfold iW mO at S;simp only[CM] at S;obtain⟨s1,s2,s3,s4⟩:=S;have X:=aBh k;exact {
  fn:=λf t M=>by rw[A2] at M;obtain⟨c,U,rfl⟩:=B1.mp M;have hd:=Bo.mp hi c (mG U);obtain⟨fa,fd,I,B⟩:=aGt (FF.mp s1 _ (EO.mpr ⟨aJK hd,hd⟩));refine⟨fa,fd,mg_of X G I,B,λF hF=>B.binds λkV doc pm an cdv ct us hl=>qK (Bo.mp hb (F,nP p c) (mG (i:=f) ?_)) hl⟩;rw[F6];exact⟨hF,by rw[A2,U];rfl⟩
  fns:=λf x l=>by rw[h1,A2] at l;obtain⟨t,M,rfl⟩:=B1.mp l;exact⟨t,M,rfl⟩
  blt:=λx l=>mg_none_of X G ((gH L x).trans (FF.mp s2 x l))
  cns:=λx d l=>by rw[h2] at l;obtain⟨u,v,I,B⟩:=aGu (Bo.mp s3 _ (BM l));exact⟨u,v,mg_of X G I,B⟩
  tab:=λi x l=>by rw[h3,A2] at l;obtain⟨q,hq,rfl⟩:=B1.mp l;have W:=mG hq;obtain⟨a,I,B⟩:=aEk (prog:=prog) (FF.mp s4 q W) (Bo.mp h5 q W);exact⟨a,aCh q.2,mg_of X G I,by rw[h4,A2,hq];rfl,B⟩
  chk:=chk }
theorem aEl{l:Ju}{n k:Nat}{q:A0}{L:List Str}{XP:(Str->Option Value)->Heap->Prop}{YP:AN->Heap->Prop}{d:DefRec}{sp:Av->Sp}{x:Str}(hn:l.most=some n)(q0:n<=sizeLine)(U:d.params.defaults=[])(hr:jN k Gj)
 (F:∀(w:AN) (mg:Str->Option Value) (fa:Addr) (h:Heap),YP w h->h.Ns Bz mg->mg d.name=some (.ref fa)->∃K:Av,K.In h/\∃fd:DN,(∀(s:Ac) (u:Value),Ky s fd ⟨[u],[]⟩ [(x,u)])/\∀base:Heap,K.In base->base.Ns Bz mg->nJ l.prog w K mg base CX0 k fa fd [x] (sp K))
 (q1:∀(K:Av) (H:Hp) (a:Addr) (ns:List Int),ns.length<=n->aFB H->SqL K H a (ns.map V.int)->sp K [.ref a] H (λv _=>v=.bl true) λ_ _ _=>False):PySem.W.WalkO q L XP YP l.row.toRowW d [] (λf vs=>HE f vs):=by refine Att.attach_call hn U λw s₀ q2 mg mb fa o pm cd doc a vs ns G Y ho hd q3 W M I B hg=>?_;obtain⟨K,KX,fd,hb,hF⟩:=F w mg fa _ Y G.T.g W;exact aCT KX G.T.g G.T.b G.T.builtins G.T.nolimit hg M I (AC B q0) hr hF hb (λH hO hS=>q1 K H a ns B hO hS) λ_ _ _ z=>z
noncomputable def lst(p:A0):CG:=p.main.body.getLastD (.Pass ⟨0,0,0,0⟩)
noncomputable def sW(p:A0):A0:={ p with main:={ p.main with body:=[lst p] } }
noncomputable def uT(p:A0):List Str:=(p.main.scope.names.map (·.1)).filter λx=>!(IB x (cL (lst p)))
noncomputable def aJM(s:CG):DK:=match s with|.FunctionDef _ _ _ _ _ _ _ _ _ p=>p|_=>⟨0,0,0,0⟩
noncomputable def jW(p:A0):DefRec:=⟨cL (lst p),iL (lst p),iM (lst p),bL (lst p),aJM (lst p)⟩
theorem aJN{l:Ju}{P:Pg}{n:Sn}{ix:List (Nat×List Str)}{k f N:Nat}{x:Str}{sl:List Str}(W:l.row.wellSaid=true)(U:LM l.prog (sW l.prog) (uT l.prog) (λ_=>true) (λs=>iW l.prog n s.heap) (λw=>mO l.prog n w) N)
 (M:defOf (sW l.prog) l.name=some (jW l.prog,[])) (hp:l.prog.theDef l.name=some ((jW l.prog).params,(jW l.prog).body,(jW l.prog).scope)) (hk:kwWritten? (jW l.prog).params.kwonlyargs (jW l.prog).params.kw_defaults=some []) (q3:(!l.writes||([]:WRecords).isEmpty)=true)
 (ok:(chainsOk (sW l.prog)&&opensWell l.prog&&(frees l.row.toRowW&&l.row.within.isEmpty))=true) (hb:l.prog.bare) (hw:l.row.toRowW.promised) (hn:l.most=some 63) (q0:(jW l.prog).params.defaults=[])
 (hi:(ix.all λc=>xW (xX l.prog c.1))=true) (L:((P.fns.zip (ix.map (nP l.prog))).all λq=>iV (iL q.2.st) (q.2.N.take q.1.np))=true) (chk:iC ⟨[],[],(ix.map (nP l.prog)).map (·.x),n.cns,[],true,n.tbs.map (·.1)⟩ P.fns (ix.map (nP l.prog))=true)
 (h4:P.tabs=n.tbs.map λq=>aCh q.2) (h5:(n.tbs.all λq=>aBj q.2)=true) (hr:jN (k+1) Gj) (hx:(ix.map (nP l.prog))[f]? = some ⟨cL (lst l.prog),cL (lst l.prog),lst l.prog,x::sl⟩) (q2:(P.fns[f]?).map (·.np)=some 1)
 (pure:∀ns:List Int,ns.length<=63->∃fr pa,Hp.call P (k+1) f [.lst (ns.map D.int)]=.ok (.bl true,fr,pa)):l.row.Holds:=by refine holds_open (XP:=λ_ _=>True) (YP:=λw h=>∃B,iW l.prog n B=mO l.prog n w/\∀b o,B.get? b=some o->h.get? b=some o) U (λw s e=>⟨s.heap,e,λ_ _ z=>z⟩) (λw h h' ⟨B,e,k⟩ k'=>⟨B,e,λb o z=>k' b o (k b o z)⟩) (λ_ _=>trivial) (λ_ _ _ _ _=>trivial) M hp hk (λ_ _=>recFacts_nil rfl) q3 W ok hb hw ?_;obtain⟨F,hF,I⟩:=B1.mp q2;refine aEl (sp:=λK=>spF K P (k+1) f) (x:=x) hn (by decide) q0 hr (λw mg fa h ⟨B,e,kk⟩ G q1=>?_) λK H a ns hl hO hS=>aJF hO hS (pure ns hl);have T:=aJL (prog:=l.prog) (w:=w) (P:=P) (Γ:=⟨[],[],(ix.map (nP l.prog)).map (·.x),n.cns,[],true,n.tbs.map (·.1)⟩) e kk G hi rfl rfl rfl h4 h5 L chk;obtain⟨q4,fd,g1,g2,g3⟩:=T.fn f _ hx;have e:=q1.symm.trans g1;cases e;have b:=g3 F hF;refine⟨jV B,aBh kk,fd,λs u=>?_,λbase _ _=>?_⟩;obtain⟨oc,od,kV,doc,pm,an,cdv,ct,osl,rfl,lk,q5⟩:=g2.ex;refine .of_eq ((qK (ps:=[x]) ?_ rfl).trans rfl);have:=Bo.mp L (F,_) (mG (i:=f) (F6.mpr ⟨hF,hx⟩));rw[I] at this;exact this;have:=aJE (base:=base) T hx hF g2 k;rw[I] at this;exact this
end Hh
namespace Hp
open PySem (Str Operator CmpOp)
section
variable {P:Pg} {W:Caller} {Z:Sg}
@[simp] theorem aA {α l:Type} (a:α) (f:α->R l):((R.ok a:R α) >>= f)=f a:=id rfl
@[simp] theorem nE {α:Type} (x:R α):R.iff true x=x:=id rfl
@[simp] theorem aOz {α:Type} (x:α):R.of (some x)=.ok x:=id rfl
@[simp] theorem aT {α:Type} (a:α) (f:α->O):O.from Z (.ok a) f=f a:=id rfl
@[simp] theorem rM (f:Sg->O):(O.next Z).on f=f Z:=id rfl
@[simp] theorem qL (v:Vl) (f:Sg->O):(O.ret v).on f=.ret v:=id rfl
@[simp] theorem aI (d:D):ev P W Z (.c d)=.ok (.cl d):=id rfl
@[simp] theorem eV (i:Nat):ev P W Z (.v i)=bH Z i:=id rfl
@[simp] theorem kT (o:Operator) (a b:E):ev P W Z (.op o a b)=(ev P W Z a >>= λx=>ev P W Z b >>= λy=>opD o x y):=id rfl
@[simp] theorem aJO (a:E):ev P W Z (.neg a)=(ev P W Z a >>= λx=>match x.d with|.int i=>.ok (.cl (.int (-i)))|_=>.bad):=id rfl
@[simp] theorem aMh (a:E):ev P W Z (.nt a)=(ev P W Z a >>= λx=>fP x >>= λk=>.ok (.cl (.bl (!k)))):=id rfl
@[simp] theorem aMi (a b:E):ev P W Z (.an a b)=(ev P W Z a >>= λx=>match x.d with|.bl true=>ev P W Z b|.bl false=>.ok (.cl (.bl false))|_=>.bad):=id rfl
@[simp] theorem aJP (a b:E):ev P W Z (.orr a b)=(ev P W Z a >>= λx=>match x.d with|.bl true=>.ok (.cl (.bl true))|.bl false=>ev P W Z b|_=>.bad):=id rfl
@[simp] theorem aAf (t a b:E):ev P W Z (.ife t a b)=(tst P W Z t >>= λx=>if x then ev P W Z a else ev P W Z b):=id rfl
@[simp] theorem aJQ (o:CmpOp) (a b:E):ev P W Z (.cmp o a b)=(ev P W Z a >>= λx=>ev P W Z b >>= λy=>match bU o x.d y.d with|some k=>.ok (.cl (.bl k))|none=>.bad):=id rfl
@[simp] theorem aMG (o o':CmpOp) (a b c:E):ev P W Z (.cmp2 o o' a b c)=(ev P W Z a >>= λx=>ev P W Z b >>= λy=>match bU o x.d y.d with
 | some true=>ev P W Z c >>= λz=>(match bU o' y.d z.d with|some k=>.ok (.cl (.bl k))|none=>.bad)
 | some false=>.ok (.cl (.bl false))|none=>.bad):=id rfl
@[simp] theorem dW (a b:E):ev P W Z (.idx a b)=(ev P W Z a >>= λx=>ev P W Z b >>= λy=>cP x y):=id rfl
@[simp] theorem uU (es:Es):ev P W Z (.tup es)=(evs P W Z es >>= λvs=>.ok (rY vs)):=id rfl
@[simp] theorem qM (es:Es):ev P W Z (.lst es)=(evs P W Z es >>= λvs=>.ok (eE vs)):=id rfl
@[simp] theorem dD (f:Nat) (es:Es):ev P W Z (.call f es)=(evs P W Z es >>= λvs=>W f (vs.map (·.d)) >>= λr=>.ok (gO vs r)):=id rfl
@[simp] theorem nF (b:Bi) (es:Es):ev P W Z (.bi b es)=(evs P W Z es >>= λvs=>biD b vs):=id rfl
@[simp] theorem aNJ (m:Mt) (o:E) (es:Es):ev P W Z (.mth m o es)=(ev P W Z o >>= λx=>evs P W Z es >>= λys=>mtD m x ys):=id rfl
@[simp] theorem aNK (a:E) (cs:List Cl):ev P W Z (.isi a cs)=(ev P W Z a >>= λx=>match isI cs P x.d with|some k=>.ok (.cl (.bl k))|none=>.bad):=id rfl
@[simp] theorem aBk (a:E) (h:E):ev P W Z (.sli a .nil (.cons h .nil))=(ev P W Z a >>= λx=>ev P W Z h >>= λh=>match h.d with|.int h=>.iff (aJ h) (dM x none (some h))|_=>.bad):=by
 show(ev P W Z a >>= λx=>evs P W Z .nil >>= λl=>evs P W Z (.cons h .nil) >>= λh=>_)=_;cases ev P W Z a with
 | ok x=>
  show(evs P W Z (.cons h .nil) >>= λh=>_)=(ev P W Z h >>= λh=>_)
  show((ev P W Z h >>= λx=>evs P W Z .nil >>= λxs=>R.ok (x::xs)) >>= λh=>_)=_;cases ev P W Z h <;> rfl
 | exc e=>rfl|bad=>rfl
theorem uV(k:Nat)(caps:List Nat)(t:T)(it:It)(cond:Es)(elt:E):ev P W Z (.comp k caps t it cond elt)=(walk P W Z it >>= λxs=>
 dS (λx=>bK (Aj k .dead++caps.map λi=>((freeze Z xs.2)[i]?).getD .dead) x t >>= λl=>tsts P W l cond >>= λk=>if k then (ev P W l elt >>= λy=>.ok (some y)) else .ok none) xs.1 >>= λvs=>
 .iff (decide (vs.length<=lim)) (.ok (fJ k caps xs.2 vs))):=rfl
@[simp] theorem aKc (a:E):ev P W Z (.numset a)=(ev P W Z a >>= λx=>match x.d with
 | .lst ds=>(match tY ds with|some ks=>.iff (decide (ds.length<=1000)) (.ok (.cl (.int (aCZ ks).length)))|none=>.bad)
 | _=>.bad):=id rfl
@[simp] theorem aZ:evs P W Z .nil=.ok []:=id rfl
@[simp] theorem aF (e:E) (es:Es):evs P W Z (.cons e es)=(ev P W Z e >>= λx=>evs P W Z es >>= λxs=>.ok (x::xs)):=id rfl
@[simp] theorem fD (a:E):tst P W Z (.nt a)=(tst P W Z a >>= λx=>.ok (!x)):=id rfl
@[simp] theorem qN (a b:E):tst P W Z (.an a b)=(tst P W Z a >>= λx=>if x then tst P W Z b else .ok false):=id rfl
@[simp] theorem dX (a b:E):tst P W Z (.orr a b)=(tst P W Z a >>= λx=>if x then .ok true else tst P W Z b):=id rfl
@[simp] theorem aOx (d:D):tst P W Z (.c d)=fP (.cl d):=id rfl
@[simp] theorem aHt (i:Nat):tst P W Z (.v i)=(bH Z i >>= λx=>fP x):=id rfl
@[simp] theorem bT (o:CmpOp) (a b:E):tst P W Z (.cmp o a b)=(ev P W Z a >>= λx=>ev P W Z b >>= λy=>match bU o x.d y.d with|some k=>.ok k|none=>.bad):=id rfl
@[simp] theorem xY (o o':CmpOp) (a b c:E):tst P W Z (.cmp2 o o' a b c)=(ev P W Z a >>= λx=>ev P W Z b >>= λy=>match bU o x.d y.d with
 | some true=>ev P W Z c >>= λz=>(match bU o' y.d z.d with|some k=>.ok k|none=>.bad)
 | some false=>.ok false|none=>.bad):=id rfl
@[simp] theorem iD (f:Nat) (es:Es):tst P W Z (.call f es)=(evs P W Z es >>= λvs=>W f (vs.map (·.d)) >>= λr=>fP (gO vs r)):=id rfl
@[simp] theorem iX (a:E) (cs:List Cl):tst P W Z (.isi a cs)=(ev P W Z a >>= λx=>match isI cs P x.d with|some k=>.ok k|none=>.bad):=id rfl
@[simp] theorem aMH (a b:E):tst P W Z (.idx a b)=(ev P W Z a >>= λx=>ev P W Z b >>= λy=>cP x y >>= λz=>fP z):=id rfl
@[simp] theorem aEm:tsts P W Z .nil=.ok true:=id rfl
@[simp] theorem aCi (e:E) (es:Es):tsts P W Z (.cons e es)=(tst P W Z e >>= λx=>if x then tsts P W Z es else .ok false):=id rfl
@[simp] theorem aEn (a b:E):walk P W Z (.rng a b)=(ev P W Z a >>= λx=>ev P W Z b >>= λy=>match x.d,y.d with|.int i,.int j=>.iff (aJ i&&aJ j) (.ok ((gD i j).map .cl,[]))|_,_=>.bad):=id rfl
@[simp] theorem bR (e:E):walk P W Z (.seq e)=(ev P W Z e >>= λx=>match x.d with
 | .lst ds=>.ok (items x ds,x.al)|.tup ds=>.ok (items x ds,x.al)|.str a=>.iff (decide (a.length<=lim)) (.ok (a.cps.toList.map λn=>.cl (.str ⟨#[n]⟩),[]))|_=>.bad):=id rfl
@[simp] theorem xZ (a b:E):walk P W Z (.zip a b)=(ev P W Z a >>= λx=>ev P W Z b >>= λy=>match jC x.d,jC y.d with
 | some as,some bs=>.ok (items ⟨.non,false,x.pa||y.pa,x.al++y.al⟩ (gQ as bs),x.al++y.al)|_,_=>.bad):=id rfl
@[simp] theorem dI (t:T) (e:E):ex P W Z (.set t e)=O.from Z (ev P W Z e) λv=>O.from Z (bK (freeze Z v.al) v t) .next:=id rfl
@[simp] theorem aJR (i:Nat) (e:E):ex P W Z (.app i e)=O.from Z (ev P W Z e) λv=>put Z i v λds=>some (ds++[v.d]):=id rfl
@[simp] theorem aEo (i:Nat) (e:E):ex P W Z (.ext i e)=O.from Z (ev P W Z e) λv=>match oX v with|some (v',ds')=>put Z i v' λds=>some (ds++ds')|none=>.bad:=id rfl
@[simp] theorem aNL (i:Nat):ex P W Z (.clr i)=put Z i (.cl .non) λ_=>some []:=id rfl
@[simp] theorem aEp (i:Nat) (k e:E):ex P W Z (.setIx i k e)=O.from Z (ev P W Z e) λv=>O.from Z (ev P W Z k) λl=>match l.d with
 | .int k=>put Z i v λds=>(match ixN ds.length k with|some j=>some (ds.set j v.d)|none=>none)
 | _=>.bad:=id rfl
@[simp] theorem qO (e:E):ex P W Z (.ret e)=O.from Z (ev P W Z e) .ret:=id rfl
@[simp] theorem cD (c:E) (a b:Ss):ex P W Z (.iff c a b)=O.from Z (tst P W Z c) λk=>if k then exs P W Z a else exs P W Z b:=id rfl
theorem iE(t:T)(it:It)(b:Ss):ex P W Z (.for t it b)=O.from Z (walk P W Z it) λxs=>cY (λZ x=>O.from Z (bK Z x t) λZ'=>exs P W Z' b) xs.1 (freeze Z xs.2):=rfl
@[simp] theorem aNM (i j:Nat):ex P W Z (.mov i j)=(match Z[j]? with
 | some (.own pa ds)=>if i=j then .bad else .next ((Z.set j .dead).set i (.own pa ds))|some (.sh pa d)=>.next (Z.set i (.sh (pa&&!noL d) d))|_=>.bad):=id rfl
@[simp] theorem nX (i:Nat):ex P W Z (.retv i)=(match Z[i]? with|some (.own pa ds)=>.ret ⟨.lst ds,true,pa,[]⟩|_=>O.from Z (bH Z i) .ret):=id rfl
@[simp] theorem aMj (i:Nat) (k:E):ex P W Z (.pop none i (some k))=O.from Z (ev P W Z k >>= λv=>match v.d with|.int k=>.iff (aJ k) (.ok (some k))|_=>.bad) λk=>O.from Z (kG Z i k) λr=>.next r.2:=id rfl
@[simp] theorem cU:exs P W Z .nil=.next Z:=id rfl
@[simp] theorem aX (s:S) (ss:Ss):exs P W Z (.cons s ss)=(ex P W Z s).on λZ'=>exs P W Z' ss:=id rfl
end
theorem aQ{P:Pg}{W:Caller}{f:Nat}{F:Fn}{ds:List D}(hF:P.fns[f]? = some F)(l:ds.length=F.np){v:Vl}
 (h:exs P W ((ds.map λd=>Sl.sh true d)++Aj (F.ns-F.np) Sl.dead) F.body=.ret v):tZ P W f ds=.ok (v.d,v.fr,v.pa):=by unfold tZ;rw[hF];simp only[l,if_true,h]
theorem yA{f:Sg->Vl->O}:∀(xs:List Vl) (I:Nat->Sg->Prop) (Z:Sg),I 0 Z->(∀(i:Nat) (h:i<xs.length) (Z:Sg),I i Z->∃Z',f Z xs[i]=.next Z'/\I (i+1) Z')->∃Z',cY f xs Z=.next Z'/\I xs.length Z'
 | [],I,Z,h0,_=>⟨Z,rfl,h0⟩
 | x::xs,I,Z,h0,hs=>by
  obtain⟨q,l,L⟩:=hs 0 (by simp) Z h0;obtain⟨B,G,M⟩:=yA xs (λi=>I (i+1)) q L λi h Z U=>by have:=hs (i+1) (by simpa using h) Z U;simpa using this
  refine⟨B,?_,by simpa using M⟩;have l:f Z x=.next q:=by simpa using l
  unfold cY;rw[l];exact G
theorem qP{f:Vl->R (Option Vl)}{g:Vl->Vl}:∀{xs:List Vl},(∀x∈xs,f x=.ok (some (g x)))->dS f xs=.ok (xs.map g)
 | [],_=>rfl|x::xs,h=>by have l:=h x Ak;have q:=qP (f:=f) (g:=g) (xs:=xs) λy B=>h y (Ag _ B);show(f x >>= λy=>dS f xs >>= λys=>(match y with|some y=>R.ok (y::ys)|none=>R.ok ys))=_;rw[l,q];rfl
theorem aJS(n:Nat):(gD 0 (n:Int)).map Vl.cl=(AF n).map λ(k:Nat)=>Vl.cl (.int (k:Int)):=by unfold gD;rw[A7];simp
theorem uW{P:Pg}{W:Caller}{Z:Sg}{k:Nat}{caps:List Nat}{t:T}{it:It}{elt:E}{xs:List Vl}{al:List Nat}(g:Vl->Vl)(M:walk P W Z it=.ok (xs,al))(L:xs.length<=lim)
 (I:∀x∈xs,∃l,bK (Aj k .dead++caps.map λi=>((freeze Z al)[i]?).getD .dead) x t=.ok l/\ev P W l elt=.ok (g x)):ev P W Z (.comp k caps t it .nil elt)=.ok (fJ k caps al (xs.map g)):=by
 rw[uV,M,aA,qP (g:=g) λx U=>by
  obtain⟨l,B,G⟩:=I x U;show(bK _ x t >>= λl=>_)=_;rw[B];show(ev P W l elt >>= λy=>R.ok (some y))=_;rw[G];rfl]
 have q:decide ((xs.map g).length<=lim)=true:=A8 (by rw[lM];exact L);rw[aA,q,nE]
theorem dY{P:Pg}{W:Caller}{Z:Sg}{t:T}{it:It}{b:Ss}{xs:List Vl}{al:List Nat}(I:Nat->Sg->Prop)(M:walk P W Z it=.ok (xs,al))(G:I 0 (freeze Z al))
 (hs:∀(i:Nat) (h:i<xs.length) (Z:Sg),I i Z->∃l Z',bK Z xs[i] t=.ok l/\exs P W l b=.next Z'/\I (i+1) Z'):∃Z',ex P W Z (.for t it b)=.next Z'/\I xs.length Z':=by rw[iE,M];refine yA xs I _ G λi h Z L=>?_;obtain⟨l,Z',q,B,h'⟩:=hs i h Z L;refine⟨Z',?_,h'⟩;show O.from Z (bK Z xs[i] t) _=_;rw[q];exact B
theorem aGv:aJ 0=true:=by decide
theorem nY{n:Nat}(l:n<=1000000):aJ (n:Int)=true:=by unfold aJ;rw[bA,Aq,Aq];exact⟨KG (b:=0) (by decide) (F0 n),Int.lt_of_le_of_lt (b:=1000000) (by omega) (by decide)⟩
theorem aGw{n:Int}(l:0<=n)(q:n<=1000000):aJ n=true:=by have:=nY (n:=n.toNat) (by omega);rwa [Ds l] at this
theorem eI{P:Pg}{W:Caller}{Z:Sg}{a:E}{v:Vl}{n:Nat}(h:ev P W Z a=.ok v)(hd:v.d=.int n)(l:n<=1000000):walk P W Z (.rng (.c (.int 0)) a)=.ok ((AF n).map λ(k:Nat)=>Vl.cl (.int (k:Int)),[]):=by rw[aEn,h,aI,aA,aA,hd,<-aJS];show R.iff (aJ 0&&aJ (n:Int)) _=_;rw[aGv,nY l];rfl
theorem sX{k:Nat}{caps al:List Nat}{vs:List Vl}(h:noLs (vs.map (·.d))=true):fJ k caps al vs=⟨.lst (vs.map (·.d)),true,false,[]⟩:=by unfold fJ;rw[if_pos h]
end Hp
namespace HpS
open Hp PySem
noncomputable def box(b:Str×Int):D:=.tup [.str b.1,.int b.2]
noncomputable def aB(bs:List (Str×Int)):List D:=bs.map box
noncomputable def aK(is:List Int):D:=.tup (is.map D.int)
structure eR (bs:List (Str×Int)):Prop where
 few:bs.length<=5
 one:∀b∈bs,1<=b.2/\b.2<=7
 room:(bs.map λb=>b.2+1).foldl (·*·) 1<=24
noncomputable def mP(bs:List (Str×Int)):Int:=(bs.map λb=>b.2+1).foldl (·*·) 1
theorem iF:∀is:List Int,noLs (is.map D.int)=true
 | []=>rfl|i::is=>by simp[noLs,noL,iF is]
@[simp] theorem bC (is:List Int):noL (aK is)=true:=by simp[aK,noL,iF]
@[simp] theorem uX (b:Str×Int):noL (box b)=true:=by simp[box,noL,noLs]
theorem iG:∀ss:List (List Int),noLs (ss.map aK)=true
 | []=>rfl|s::ss=>by simp[noLs,iG ss]
theorem yB{v:Vl}(bs:List (Str×Int)):items v (aB bs)=bs.map λb=>Vl.cl (box b):=by simp[items,aB,Vl.sub,E7]
theorem uY:∀(xs:List Int) (a:Int),1<=a->(∀x∈xs,1<=x)->a<=xs.foldl (·*·) a
 | [],a,_,_=>Int.le_refl _|x::xs,a,ha,h=>by
  have q:=h x Ak;have l:a<=a*x:=by have:=Int.mul_le_mul_of_nonneg_left q (show 0<=a by omega);omega
  exact KG l (uY xs (a*x) (by omega) λy B=>h y (Ag _ B))
theorem uZ(bs:List (Str×Int))(h:∀b∈bs,1<=b.2)(i:Nat):1<=mP (bs.take i)/\mP (bs.take i)<=mP bs:=by
 have pos:∀(l:List (Str×Int)),(∀b∈l,1<=b.2)->∀x∈l.map (λb=>b.2+1),1<=x:=λl G x I=>by obtain⟨b,q,rfl⟩:=Ax.mp I;have:=G b q;omega
 have e:bs=bs.take i++bs.drop i:=(AW i bs).symm;have B:1<=mP (bs.take i):=uY _ 1 (by omega) (pos _ λb q=>h b (BF q));refine⟨B,?_⟩;have:mP bs=((bs.drop i).map λb=>b.2+1).foldl (·*·) (mP (bs.take i)):=by
  unfold mP
  conv=>lhs;rw[e,Bj,FG]
 rw[this];exact uY _ _ B (pos _ λb q=>h b (EM q))
theorem aCj{bs:List (Str×Int)}{i:Nat}(h:i<bs.length):mP (bs.take (i+1))=mP (bs.take i)*(bs[i].2+1):=by rw[AI h];unfold mP;rw[Bj,FG];rfl
noncomputable def vA:Fn:=⟨1,6,
 (.cons (.set (.n 1) (.lst (.cons (.tup .nil) .nil)))
 (.cons (.for (.t [2,3]) (.seq (.v 0))
  (.cons (.set (.n 4) (.lst .nil))
  (.cons (.for (.n 5) (.seq (.v 1))
   (.cons (.ext 4 (.comp 1 [5] (.n 0) (.rng (.c (.int 0)) (.op .Add (.v 3) (.c (.int 1)))) .nil (.op .Add (.v 1) (.tup (.cons (.v 0) .nil)))))
   .nil))
  (.cons (.mov 1 4)
  .nil))))
 (.cons (.retv 1)
 .nil)))⟩
noncomputable def cX(b:List Int)(top:Int):List (List Int):=(AF (top+1).toNat).map λ(h:Nat)=>b++[(h:Int)]
noncomputable def iH(found:List (List Int))(top:Int):List (List Int):=found.flatMap λb=>cX b top
noncomputable def aE(bs:List (Str×Int)):List (List Int):=bs.foldl (λfound b=>iH found b.2) [[]]
theorem dZ{bs:List (Str×Int)}{i:Nat}(h:i<bs.length):aE (bs.take (i+1))=iH (aE (bs.take i)) bs[i].2:=by rw[AI h];unfold aE;rw[FG];rfl
theorem aAg(found:List (List Int))(top:Int):(iH found top).length=found.length*(top+1).toNat:=by
 induction found with
 | nil=>simp[iH]|cons b r l=>unfold iH at l ⊢;rw[C8,lA,l,lC,Ib];simp[cX];omega
theorem aAh{bs:List (Str×Int)}(h:eR bs):∀i,i<=bs.length->((aE (bs.take i)).length:Int)=mP (bs.take i)/\∀s∈aE (bs.take i),s.length=i
 | 0,_=>by simp[aE,mP]|i+1,hi=>by
  have l:i<bs.length:=by omega
  obtain⟨q,B⟩:=aAh h i (by omega);obtain⟨I,L⟩:=h.one bs[i] (AG l);rw[dZ l,aCj l,aAg];refine⟨?_,λs hs=>?_⟩;rw[EV,q,Ds (by omega)];obtain⟨b,G,hs⟩:=Be.mp hs;obtain⟨k,_,rfl⟩:=Ax.mp hs;rw[lA,B b G];rfl
theorem aHu{bs:List (Str×Int)}(h:eR bs)(i:Nat)(hi:i<=bs.length):(aE (bs.take i)).length<=24:=by have q:=(aAh h i hi).1;have B:=(uZ bs (λb l=>(h.one b l).1) i).2;have G:mP bs<=24:=h.room;omega
theorem nG{found:List (List Int)}{top:Int}{j:Nat}(h:j<found.length):(found.take (j+1)).flatMap (λb=>cX b top)=(found.take j).flatMap (λb=>cX b top)++cX found[j] top:=by rw[AI h,Dt];simp
theorem aGx{found:List (List Int)}{top:Int}(j:Nat):((found.take j).flatMap λb=>cX b top).length<=(iH found top).length:=by
 have e:found=found.take j++found.drop j:=(AW j found).symm;unfold iH
 conv=>rhs;rw[e,Dt,lA]
 omega
theorem gI{v:Vl}(ss:List (List Int)):items v (ss.map aK)=ss.map λs=>Vl.cl (aK s):=by simp[items,Vl.sub,E7]
theorem aEq{P:Pg}(n:Nat){s0 s1 s2 s4:Sl}{b:List Int}{top:Int}(M:1<=top)(q:top<=7)(I:b.length<=10) :
 ev P (call P n) [s0,s1,s2,.sh false (.int top),s4,.sh false (aK b)] (.comp 1 [5] (.n 0) (.rng (.c (.int 0)) (.op .Add (.v 3) (.c (.int 1)))) .nil (.op .Add (.v 1) (.tup (.cons (.v 0) .nil))))=.ok ⟨.lst ((cX b top).map aK),true,false,[]⟩:=by
 have B:walk P (call P n) [s0,s1,s2,.sh false (.int top),s4,.sh false (aK b)] (.rng (.c (.int 0)) (.op .Add (.v 3) (.c (.int 1))))=.ok ((AF (top+1).toNat).map λ(k:Nat)=>Vl.cl (.int (k:Int)),[]):=by refine eI (v:=.cl (.int (top+1))) ?_ ?_ (by omega);simp[bH,Sl.val,opD,Vl.cl,noL];show D.int (top+1)=D.int ((top+1).toNat:Int);rw[Ds (by omega)]
 rw[uW (λv=>match v.d with|.int k=>.cl (aK (b++[k]))|_=>.cl .non) B];have e:(((AF (top+1).toNat).map λ(k:Nat)=>Vl.cl (.int (k:Int))).map λv=>(match v.d with|.int k=>Vl.cl (aK (b++[k]))|_=>Vl.cl .non)).map (·.d)=(cX b top).map aK:=by simp[cX,Vl.cl,E7]
 rw[sX (by rw[e];exact iG _),e];simp only[lM,Cd];unfold lim;omega;intro y G;obtain⟨k,L,rfl⟩:=Ax.mp G;have l:b.length+1<=lim:=by unfold lim;omega
 refine⟨[.sh false (.int k),.sh false (aK b)],?_,?_⟩;simp[bK,Vl.cl,Vl.slot,freeze];simp[bH,Sl.val,Vl.cl,opD,rY,cV,bE,aK,noL,l,iF]
theorem sY{P:Pg}{f:Nat}(hF:P.fns[f]? = some vA)(n:Nat){bs:List (Str×Int)}(h:eR bs):call P (n+1) f [.lst (aB bs)]=.ok (.lst ((aE bs).map aK),true,false):=by
 obtain⟨Z',e,hI⟩:=dY (P:=P) (W:=call P n) (Z:=[.sh true (.lst (aB bs)),.own false [.tup []],.dead,.dead,.dead,.dead]) (t:=.t [2,3]) (it:=.seq (.v 0))
  (b:=.cons (.set (.n 4) (.lst .nil)) (.cons (.for (.n 5) (.seq (.v 1)) (.cons (.ext 4 (.comp 1 [5] (.n 0) (.rng (.c (.int 0)) (.op .Add (.v 3) (.c (.int 1)))) .nil (.op .Add (.v 1) (.tup (.cons (.v 0) .nil))))) .nil)) (.cons (.mov 1 4) .nil)))
  (xs:=bs.map λb=>Vl.cl (box b)) (al:=[])
  (λi Z=>∃s2 s3 s4 q,Z=[.sh true (.lst (aB bs)),.own false ((aE (bs.take i)).map aK),s2,s3,s4,q])
  (by simp[bH,Sl.val,yB]) ⟨_,_,_,_,rfl⟩ (λi hi Z G=>by
   obtain⟨s2,s3,s4,q,rfl⟩:=G;have l:i<bs.length:=by simpa using hi
   obtain⟨g2,g3⟩:=h.one bs[i] (AG l);have I:=aHu h (i+1) l;rw[dZ l] at I;obtain⟨_,L⟩:=aAh h i (by omega);have q2:=h.few;obtain⟨Z2,e2,hJ⟩:=dY (P:=P) (W:=call P n) (Z:=[.sh true (.lst (aB bs)),.own false ((aE (bs.take i)).map aK),.sh false (.str bs[i].1),.sh false (.int bs[i].2),.own false [],q]) (t:=.n 5) (it:=.seq (.v 1))
    (b:=.cons (.ext 4 (.comp 1 [5] (.n 0) (.rng (.c (.int 0)) (.op .Add (.v 3) (.c (.int 1)))) .nil (.op .Add (.v 1) (.tup (.cons (.v 0) .nil))))) .nil)
    (xs:=(aE (bs.take i)).map λs=>Vl.cl (aK s)) (al:=[1])
    (λj Z=>∃q,Z=[.sh true (.lst (aB bs)),.sh false (.lst ((aE (bs.take i)).map aK)),.sh false (.str bs[i].1),.sh false (.int bs[i].2),.own false ((((aE (bs.take i)).take j).flatMap λb=>cX b bs[i].2).map aK),q])
    (by simp[bH,Sl.val,gI]) ⟨_,by simp[freeze,Sl.freeze];rfl⟩ (λj hj Z G=>by
     obtain⟨q,rfl⟩:=G;have B:j<(aE (bs.take i)).length:=by simpa using hj
     have hb:(aE (bs.take i))[j].length<=10:=by rw[L _ (AG B)];omega
     have hc:=aEq (P:=P) n (s0:=.sh true (.lst (aB bs))) (s1:=.sh false (.lst ((aE (bs.take i)).map aK))) (s2:=.sh false (.str bs[i].1)) (s4:=.own false ((((aE (bs.take i)).take j).flatMap λb=>cX b bs[i].2).map aK)) (b:=(aE (bs.take i))[j]) g2 g3 hb;have q0:=aGx (found:=aE (bs.take i)) (top:=bs[i].2) (j+1);rw[nG B,lA] at q0;have M:((((aE (bs.take i)).take j).flatMap λb=>cX b bs[i].2).map aK++(cX (aE (bs.take i))[j] bs[i].2).map aK).length<=lim:=by rw[lA,lM,lM];unfold lim;omega
     refine⟨[.sh true (.lst (aB bs)),.sh false (.lst ((aE (bs.take i)).map aK)),.sh false (.str bs[i].1),.sh false (.int bs[i].2),.own false ((((aE (bs.take i)).take j).flatMap λb=>cX b bs[i].2).map aK),.sh false (aK (aE (bs.take i))[j])],
      [.sh true (.lst (aB bs)),.sh false (.lst ((aE (bs.take i)).map aK)),.sh false (.str bs[i].1),.sh false (.int bs[i].2),.own false ((((aE (bs.take i)).take (j+1)).flatMap λb=>cX b bs[i].2).map aK),.sh false (aK (aE (bs.take i))[j])],?_,?_,⟨_,rfl⟩⟩
     simp[bK,Vl.cl,Vl.slot];rw[aX,aEo,hc,aT];show(match oX ⟨.lst ((cX (aE (bs.take i))[j] bs[i].2).map aK),true,false,[]⟩ with|some (v',ds')=>put _ 4 v' λds=>some (ds++ds')|none=>.bad).on _=_;simp only[oX,iG,if_true];unfold put;simp only[freeze,jJ,gS,gZ];rw[if_pos M];simp[nG B])
   obtain⟨q1,rfl⟩:=hJ;refine⟨[.sh true (.lst (aB bs)),.own false ((aE (bs.take i)).map aK),.sh false (.str bs[i].1),.sh false (.int bs[i].2),s4,q],[.sh true (.lst (aB bs)),.own false ((aE (bs.take (i+1))).map aK),.sh false (.str bs[i].1),.sh false (.int bs[i].2),.dead,q1],?_,?_,⟨_,_,_,_,rfl⟩⟩;simp[bK,box,Vl.cl,Vl.sub,noL,Vl.slot];have U:(aE (bs.take i)).take ((aE (bs.take i)).map λs=>Vl.cl (aK s)).length=aE (bs.take i):=by simp
   rw[U] at e2;simp[eE,cV,bE,bK,freeze,Vl.slot,e2,dZ l,iH])
 obtain⟨s2,s3,s4,q,rfl⟩:=hI;have U:bs.take (bs.map λb=>Vl.cl (box b)).length=bs:=by simp
 rw[U] at e;refine aQ (F:=vA) hF rfl (v:=⟨.lst ((aE bs).map aK),true,false,[]⟩) ?_;simp[vA,eE,rY,cV,bE,bK,freeze,Vl.slot,e]
end HpS
namespace Hp
open PySem (Str)
@[simp] theorem aMI (d:D):(⟨d,false,false,[]⟩:Vl)=.cl d:=id rfl
@[simp] theorem cJ (d:D):(Vl.cl d).d=d:=id rfl
@[simp] theorem aOy (d:D):(Vl.cl d).fr=false:=id rfl
@[simp] theorem yC (d:D):(Vl.cl d).pa=false:=id rfl
@[simp] theorem fX (d:D):(Vl.cl d).al=[]:=id rfl
@[simp] theorem dG (d:D):(Vl.cl d).slot=.sh false d:=by cases d <;> rfl
@[simp] theorem aGy (ds:List D) (pa:Bool) (al:List Nat):(⟨.lst ds,true,pa,al⟩:Vl).slot=.own pa ds:=id rfl
@[simp] theorem bX (i:Nat) (d:D):Sl.val i (.sh false d)=.ok (.cl d):=id rfl
@[simp] theorem nZ (i:Nat) (pa:Bool) (k:Int):Sl.val i (.sh pa (.int k))=.ok (.cl (.int k)):=by cases pa <;> rfl
@[simp] theorem oA (i:Nat) (pa:Bool) (k:Str):Sl.val i (.sh pa (.str k))=.ok (.cl (.str k)):=by cases pa <;> rfl
@[simp] theorem mQ (i:Nat) (pa:Bool) (k:Bool):Sl.val i (.sh pa (.bl k))=.ok (.cl (.bl k)):=by cases pa <;> rfl
@[simp] theorem aMJ (i:Nat) (pa:Bool):Sl.val i (.sh pa .non)=.ok (.cl .non):=by cases pa <;> rfl
@[simp] theorem oD (i:Nat) (ds:List D):Sl.val i (.sh true (.lst ds))=.ok ⟨.lst ds,false,true,[]⟩:=id rfl
theorem cM(i:Nat)(pa:Bool){d:D}(h:noL d=true):Sl.val i (.sh pa d)=.ok (.cl d):=by unfold Sl.val;simp[h]
@[simp] theorem aGz (i:Nat) (pa:Bool) (ds:List D):Sl.val i (.own pa ds)=.ok ⟨.lst ds,false,pa,[i]⟩:=id rfl
@[simp] theorem fY (Z:Sg) (v:Vl) (i:Nat):bK Z v (.n i)=.ok (Z.set i v.slot):=id rfl
@[simp] theorem bY (Z:Sg):freeze Z []=Z:=id rfl
@[simp] theorem vB (b:Bool):fP (.cl (.bl b))=.ok b:=id rfl
@[simp] theorem jX (args:List Vl) (d:D):gO args (d,false,false)=.cl d:=id rfl
@[simp] theorem aNN (args:List Vl) (d:D):gO args (d,true,false)=⟨d,true,false,[]⟩:=id rfl
@[simp] theorem eJ (a b:D):bU .Eq a b=eqD a b:=id rfl
@[simp] theorem qQ (a b:D):bU .NotEq a b=(eqD a b).map (!·):=id rfl
@[simp] theorem aNO (a b:Int):bU .Lt (.int a) (.int b)=some (decide (a<b)):=id rfl
@[simp] theorem aNP (a b:Int):bU .Gt (.int a) (.int b)=some (decide (b<a)):=id rfl
@[simp] theorem aEr (a b:Int):bU .LtE (.int a) (.int b)=some (decide (a<=b)):=id rfl
@[simp] theorem aNQ (a b:Int):bU .GtE (.int a) (.int b)=some (decide (b<=a)):=id rfl
theorem aGA(n:Nat)(a b:Int):eqF (n+1) (.int a) (.int b)=some (a==b):=rfl
theorem aBl(n:Nat)(a b:List D):eqF (n+1) (.tup a) (.tup b)=eP n a b:=oV n a b
@[simp] theorem gJ (a b:Int):eqD (.int a) (.int b)=some (a==b):=id rfl
@[simp] theorem fN (a b:Str):eqD (.str a) (.str b)=some (a==b):=id rfl
@[simp] theorem aNR (a b:Bool):eqD (.bl a) (.bl b)=some (a==b):=id rfl
@[simp] theorem aMK (P:Pg) (k:Int):isI [.tInt] P (.int k)=some true:=id rfl
@[simp] theorem aMk (P:Pg) (k:Int):isI [.tBool] P (.int k)=some false:=id rfl
@[simp] theorem aBm (P:Pg) (k:Str):isI [.tStr] P (.str k)=some true:=id rfl
@[simp] theorem aBn (P:Pg) (k:List D):isI [.tTuple] P (.tup k)=some true:=id rfl
@[simp] theorem aML (P:Pg) (k:List D):isI [.tList] P (.lst k)=some true:=id rfl
@[simp] theorem aNS (P:Pg) (k:Bool):isI [.tBool] P (.bl k)=some true:=id rfl
@[simp] theorem add_int (i j:Int):opD .Add (.cl (.int i)) (.cl (.int j))=.ok (.cl (.int (i+j))):=id rfl
@[simp] theorem sub_int (i j:Int):opD .Sub (.cl (.int i)) (.cl (.int j))=.ok (.cl (.int (i-j))):=id rfl
theorem mul_int{i j:Int}(h:mZ i j=true):opD .Mult (.cl (.int i)) (.cl (.int j))=.ok (.cl (.int (i*j))):=by show R.iff (mZ i j) _=_;rw[h];rfl
theorem vC{i j:Int}(h:aAD j=true):opD .FloorDiv (.cl (.int i)) (.cl (.int j))=.ok (.cl (.int (i / j))):=by show R.iff (aAD j) _=_;rw[h];rfl
theorem iY{i j:Int}(h:0<j):opD .Mod (.cl (.int i)) (.cl (.int j))=.ok (.cl (.int (i % j))):=by show R.iff (decide (0<j)) _=_;rw[A8 h];rfl
@[simp] theorem iZ (ds:List D) (fr pa:Bool) (al:List Nat):biD .len [⟨.lst ds,fr,pa,al⟩]=.ok (.cl (.int ds.length)):=id rfl
@[simp] theorem jA (ds:List D):biD .len [.cl (.tup ds)]=.ok (.cl (.int ds.length)):=id rfl
@[simp] theorem aMl (ds:List D):biD .len [.cl (.lst ds)]=.ok (.cl (.int ds.length)):=id rfl
end Hp
namespace HpS
open Hp PySem
section
variable {P:Pg} {W:Caller} {Z Z':Sg}
theorem cs{s:S}{ss:Ss}{o:O}(h:ex P W Z s=.next Z')(r:exs P W Z' ss=o):exs P W Z (.cons s ss)=o:=by rw[aX,h,rM,r]
theorem cN{i:Nat}{e:E}{d:D}(h:ev P W Z e=.ok (.cl d)):ex P W Z (.set (.n i) e)=.next (Z.set i (.sh false d)):=by rw[dI,h,aT,fX,bY,fY,aT,dG]
theorem eS{e:E}{ss:Ss}{v:Vl}(h:ev P W Z e=.ok v):exs P W Z (.cons (.ret e) ss)=.ret v:=by rw[aX,qO,h];rfl
theorem eC{c:E}{a:Ss}(h:tst P W Z c=.ok false):ex P W Z (.iff c a .nil)=.next Z:=by rw[cD,h];rfl
theorem qR{c:E}{a b ss:Ss}{v:Vl}(h:tst P W Z c=.ok true)(r:exs P W Z a=.ret v):exs P W Z (.cons (.iff c a b) ss)=.ret v:=by rw[aX,cD,h,aT,if_pos rfl,r];rfl
theorem cO{a b:E}{x y z:Vl}(h:ev P W Z a=.ok x)(k:ev P W Z b=.ok y)(e:cP x y=.ok z):ev P W Z (.idx a b)=.ok z:=by rw[dW,h,aA,k,aA,e]
theorem cR{a:E}{w x:Str}{b:Bool}(h:ev P W Z a=.ok (.cl (.str w)))(q:(w==x)=b):tst P W Z (.cmp .Eq a (.c (.str x)))=.ok b:=by rw[bT,h,aA,aI,aA,cJ,cJ,eJ,fN,q]
theorem bZ{f:Nat}{a b c:E}{x y z:Vl}{d:D}(l:ev P W Z a=.ok x)(q:ev P W Z b=.ok y)(B:ev P W Z c=.ok z)(G:W f [x.d,y.d,z.d]=.ok (d,false,false)):ev P W Z (.call f (.cons a (.cons b (.cons c .nil))))=.ok (.cl d):=by
 have e:evs P W Z (.cons a (.cons b (.cons c .nil)))=.ok [x,y,z]:=by rw[aF,l,aA,aF,q,aA,aF,B,aA,aZ];rfl
 rw[dD,e,aA,show [x,y,z].map (·.d)=[x.d,y.d,z.d] from rfl,G];rfl
theorem v0_{d:D}{r:Sg}(h:noL d=true):ev P W (.sh true d::r) (.v 0)=.ok (.cl d):=cM 0 true h
theorem v1_{s:Sl}{d:D}{r:Sg}(h:noL d=true):ev P W (s::.sh true d::r) (.v 1)=.ok (.cl d):=cM 1 true h
theorem v2_{s t:Sl}{d:D}{r:Sg}(h:noL d=true):ev P W (s::t::.sh true d::r) (.v 2)=.ok (.cl d):=cM 2 true h
theorem aHv{t a b:E}{k:Bool}{v:Vl}(h:tst P W Z t=.ok k)(r:(if k then ev P W Z a else ev P W Z b)=.ok v):ev P W Z (.ife t a b)=.ok v:=by rw[aAf,h,aA,r]
theorem aNT{a:E}{k:Bool}(h:ev P W Z a=.ok (.cl (.bl k))):ev P W Z (.nt a)=.ok (.cl (.bl !k)):=by rw[aMh,h];rfl
theorem aMm{a b:E}{x y:Bool}(l:ev P W Z a=.ok (.cl (.bl x)))(q:ev P W Z b=.ok (.cl (.bl y))):ev P W Z (.an a b)=.ok (.cl (.bl (x&&y))):=by rw[aMi,l,aA];cases x;rfl;exact q
theorem aMn{a b:E}{x y:Bool}(l:ev P W Z a=.ok (.cl (.bl x)))(q:ev P W Z b=.ok (.cl (.bl y))):ev P W Z (.orr a b)=.ok (.cl (.bl (x||y))):=by rw[aJP,l,aA];cases x;exact q;rfl
theorem rN{o:Operator}{a b:E}{x y z:Vl}(h:ev P W Z a=.ok x)(k:ev P W Z b=.ok y)(e:opD o x y=.ok z):ev P W Z (.op o a b)=.ok z:=by rw[kT,h,aA,k,aA,e]
theorem aHw{o:CmpOp}{a b:E}{x y:Vl}{k:Bool}(h:ev P W Z a=.ok x)(g:ev P W Z b=.ok y)(e:bU o x.d y.d=some k):ev P W Z (.cmp o a b)=.ok (.cl (.bl k)):=by rw[aJQ,h,aA,g,aA,e]
theorem kU{b:Bi}{a:E}{x z:Vl}(h:ev P W Z a=.ok x)(e:biD b [x]=.ok z):ev P W Z (.bi b (.cons a .nil))=.ok z:=by
 have l:evs P W Z (.cons a .nil)=.ok [x]:=by rw[aF,h];rfl
 rw[nF,l,aA,e]
end
end HpS
namespace Hp
open PySem (Str)
theorem cK{α:Type}{g:α->D}(l:∀t,noL (g t)=true):∀ts:List α,noLs (ts.map g)=true
 | []=>rfl|t::ts=>by rw[mC,noLs,l t,cK l ts];rfl
theorem qS{α:Type}{F:Vl->R (Option Vl)}{f:α->Vl}{g:α->D}{p:α->Bool}:∀{ts:List α},(∀t∈ts,F (f t)=.ok (if p t then some (.cl (g t)) else none))->dS F (ts.map f)=.ok ((ts.filter p).map λt=>.cl (g t))
 | [],_=>rfl|t::ts,h=>by
  have q:=h t Ak;have B:=qS (F:=F) (f:=f) (g:=g) (p:=p) (ts:=ts) λy G=>h y (Ag _ G);show(F (f t) >>= λy=>dS F (ts.map f) >>= λys=>(match y with|some y=>R.ok (y::ys)|none=>R.ok ys))=_;rw[q,B];cases l:p t with
  | true=>rw[List.filter_cons_of_pos l];rfl|false=>rw[List.filter_cons_of_neg (by rw[l];exact bN)];rfl
theorem aBo{α:Type}{g:α->D}(l:∀t,noL (g t)=true){k:Nat}{caps al:List Nat}(ts:List α):fJ k caps al (ts.map λt=>Vl.cl (g t))=⟨.lst (ts.map g),true,false,[]⟩:=by
 have e:(ts.map λt=>Vl.cl (g t)).map (·.d)=ts.map g:=by rw[A7];rfl
 rw[sX (by rw[e];exact cK l ts),e]
theorem vD{P:Pg}{W:Caller}{Z:Sg}{k:Nat}{caps al:List Nat}{T:T}{it:It}{elt:E}{α:Type}{ts:List α}(f:α->Vl)(g:α->D)(ng:∀t,noL (g t)=true)(hw:walk P W Z it=.ok (ts.map f,al))(M:ts.length<=lim)
 (I:∀t∈ts,∃l,bK (Aj k .dead++caps.map λi=>((freeze Z al)[i]?).getD .dead) (f t) T=.ok l/\ev P W l elt=.ok (.cl (g t))):ev P W Z (.comp k caps T it .nil elt)=.ok ⟨.lst (ts.map g),true,false,[]⟩:=by
 rw[uV,hw,aA,qS (f:=f) (g:=g) (p:=λ_=>true) λt U=>by
  obtain⟨l,B,G⟩:=I t U;show(bK _ (f t) T >>= λl=>_)=_;rw[B];show(ev P W l elt >>= λy=>R.ok (some y))=_;rw[G];rfl]
 have L:ts.filter (λ_=>true)=ts:=List.filter_eq_self.mpr λ_ _=>rfl;have q:decide ((ts.map λt=>Vl.cl (g t)).length<=lim)=true:=A8 (by rw[lM];exact M);rw[aA,L,q,nE,aBo ng]
theorem aJT{P:Pg}{W:Caller}{Z:Sg}{k:Nat}{caps al:List Nat}{T:T}{it:It}{c elt:E}{α:Type}{ts:List α}(f:α->Vl)(g:α->D)(p:α->Bool)(ng:∀t,noL (g t)=true)(hw:walk P W Z it=.ok (ts.map f,al))(M:ts.length<=lim)
 (L:∀t∈ts,∃l,bK (Aj k .dead++caps.map λi=>((freeze Z al)[i]?).getD .dead) (f t) T=.ok l/\tst P W l c=.ok (p t)/\ev P W l elt=.ok (.cl (g t))):ev P W Z (.comp k caps T it (.cons c .nil) elt)=.ok ⟨.lst ((ts.filter p).map g),true,false,[]⟩:=by
 rw[uV,hw,aA,qS (f:=f) (g:=g) (p:=p) λt U=>by
  obtain⟨l,B,G,I⟩:=L t U;show(bK _ (f t) T >>= λl=>_)=_;rw[B];show(tsts P W l (.cons c .nil) >>= λk=>if k then (ev P W l elt >>= λy=>R.ok (some y)) else R.ok none)=_;rw[aCi,G,aA];cases hp:p t with
  | true=>rw[if_pos rfl,aEm,aA,if_pos rfl,I];rfl|false=>rfl]
 have q:decide (((ts.filter p).map λt=>Vl.cl (g t)).length<=lim)=true:=A8 (by rw[lM];exact AC (List.length_filter_le _ _) M);rw[aA,q,nE,aBo ng]
theorem eK{α:Type}{v:Vl}{g:α->D}(l:∀t,noL (g t)=true)(ts:List α):items v (ts.map g)=ts.map λt=>Vl.cl (g t):=by unfold items;rw[A7];refine CB λt _=>?_;show Vl.sub v (g t)=_;unfold Vl.sub;rw[if_pos (l t)]
theorem vE{a b:D}(l:noL a=true)(q:noL b=true):noL (.tup [a,b])=true:=by simp[noL,noLs,l,q]
@[simp] theorem aMM {P:Pg} {W:Caller} {Z:Sg} (a b:E):ev P W Z (.lzip a b)=(ev P W Z a >>= λx=>ev P W Z b >>= λy=>match jC x.d,jC y.d with
 | some as,some bs=>.iff (decide (as.length<=lim)) (.ok (aHe x y (gQ as bs)))|_,_=>.bad):=id rfl
end Hp
namespace Hp
open PySem (Str Operator CmpOp)
section
variable {P:Pg} {W:Caller} {Z:Sg}
@[simp] theorem aBp (a l:E):ev P W Z (.sli a (.cons l .nil) .nil)=(ev P W Z a >>= λx=>ev P W Z l >>= λl=>match l.d with|.int l=>.iff (aJ l) (dM x (some l) none)|_=>.bad):=by
 show(ev P W Z a >>= λx=>evs P W Z (.cons l .nil) >>= λl=>evs P W Z .nil >>= λh=>_)=_;cases ev P W Z a with
 | ok x=>
  show((ev P W Z l >>= λx=>evs P W Z .nil >>= λxs=>R.ok (x::xs)) >>= λl=>_)=(ev P W Z l >>= λl=>_)
  cases ev P W Z l <;> rfl
 | exc e=>rfl|bad=>rfl
@[simp] theorem aGB (a l h:E):ev P W Z (.sli a (.cons l .nil) (.cons h .nil))=(ev P W Z a >>= λx=>ev P W Z l >>= λl=>ev P W Z h >>= λh=>match l.d,h.d with|.int l,.int h=>.iff (aJ l&&aJ h) (dM x (some l) (some h))|_,_=>.bad):=by
 show(ev P W Z a >>= λx=>evs P W Z (.cons l .nil) >>= λl=>evs P W Z (.cons h .nil) >>= λh=>_)=_;cases ev P W Z a with
 | ok x=>
  show((ev P W Z l >>= λx=>evs P W Z .nil >>= λxs=>R.ok (x::xs)) >>= λl=>_)=(ev P W Z l >>= λl=>_)
  cases ev P W Z l with
  | ok l=>
   show((ev P W Z h >>= λx=>evs P W Z .nil >>= λxs=>R.ok (x::xs)) >>= λh=>_)=(ev P W Z h >>= λh=>_)
   cases ev P W Z h <;> rfl
  | exc e=>rfl|bad=>rfl
 | exc e=>rfl|bad=>rfl
end
theorem fZ:∀is:List Int,noLs (is.map D.int)=true
 | []=>rfl|i::is=>by simp[noLs,noL,fZ is]
theorem fO{n k:Nat}(h:k<n):ixN n (k:Int)=some k:=by unfold ixN;rw[if_pos (F0 k),if_pos (by omega)];simp
theorem aBq{v:Vl}{is:List Int}{k:Nat}(q:v.d=.lst (is.map D.int))(h:k<is.length):cP v (.cl (.int (k:Int)))=.ok (.cl (.int (is.getD k 0))):=by
 unfold cP;rw[q];have l:(is.map D.int).length=is.length:=by simp
 have e:(is.map D.int)[k]? = some (.int (is.getD k 0)):=by simp[h]
 simp only[cJ,l,fO h,e,Vl.sub,noL,if_true]
noncomputable def vF:Fn:=⟨2,5,
 (.cons (.set (.n 2) (.lst .nil))
 (.cons (.set (.n 3) (.op .Add (.op .Mod (.v 0) (.c (.int 2147483647))) (.c (.int 48271))))
 (.cons (.for (.n 4) (.rng (.c (.int 0)) (.op .Add (.v 1) (.c (.int 1))))
  (.cons (.set (.n 3) (.op .Mod (.op .Add (.op .Add (.op .Mult (.v 3) (.v 3)) (.op .Mult (.c (.int 48271)) (.v 3))) (.v 4)) (.c (.int 2147483647))))
  (.cons (.app 2 (.v 3))
  .nil)))
 (.cons (.ret (.sli (.v 2) (.cons (.c (.int 1)) .nil) .nil))
 .nil))))⟩
noncomputable def num(c:Int):Nat->Int
 | 0=>c % 2147483647+48271|k+1=>(num c k*num c k+48271*num c k+(k:Int)) % 2147483647
theorem aGC(c:Int):∀k,0<=num c k/\num c k<2147531918
 | 0=>by have l:0<=c % 2147483647:=CA _ (by decide);have q:c % 2147483647<2147483647:=BV _ (by decide);unfold num;omega|k+1=>by unfold num;have l:=CA (num c k*num c k+48271*num c k+(k:Int)) (show(2147483647:Int)≠0 by decide);have q:=BV (num c k*num c k+48271*num c k+(k:Int)) (show(0:Int)<2147483647 by decide);omega
noncomputable def strm(c:Int)(m:Nat):List Int:=(AF m).map λi=>num c (i+2)
theorem aEs(c:Int)(m:Nat):(strm c m).length=m:=by simp[strm]
theorem sZ{P:Pg}{f:Nat}(hF:P.fns[f]? = some vF)(n:Nat)(c:Int){m:Nat}(hm:m<=1000):call P (n+1) f [.int c,.int m]=.ok (.lst ((strm c m).map D.int),true,false):=by
 have L:∀i:Int,opD .Mod (.cl (.int i)) (.cl (.int 2147483647))=.ok (.cl (.int (i % 2147483647))):=λi=>iY (by decide);have hw:walk P (call P n) [.sh true (.int c),.sh true (.int m),.own false [],.sh false (.int (num c 0)),.dead] (.rng (.c (.int 0)) (.op .Add (.v 1) (.c (.int 1))))=.ok ((AF (m+1)).map λ(k:Nat)=>Vl.cl (.int (k:Int)),[]):=by refine eI (v:=.cl (.int ((m+1:Nat):Int))) ?_ rfl (by omega);simp[bH]
 obtain⟨Z',e,W⟩:=dY (t:=.n 4) (b:=(.cons (.set (.n 3) (.op .Mod (.op .Add (.op .Add (.op .Mult (.v 3) (.v 3)) (.op .Mult (.c (.int 48271)) (.v 3))) (.v 4)) (.c (.int 2147483647))))
  (.cons (.app 2 (.v 3))
  .nil)))
   (λk Z=>∃s4,Z=[.sh true (.int c),.sh true (.int m),.own false ((AF k).map λi=>.int (num c (i+1))),.sh false (.int (num c k)),s4]) hw ⟨_,rfl⟩ (λk hk Z I=>by
    obtain⟨s4,rfl⟩:=I;have q0:k<m+1:=by simpa using hk
    obtain⟨r0,r1⟩:=aGC c k;have m1:opD .Mult (.cl (.int (num c k))) (.cl (.int (num c k)))=.ok (.cl (.int (num c k*num c k))):=mul_int (by
     simp only[mZ,BG,bA,Aq];right;omega)
    have m2:opD .Mult (.cl (.int 48271)) (.cl (.int (num c k)))=.ok (.cl (.int (48271*num c k))):=mul_int (by
     simp only[mZ,BG,bA,Aq];right;omega)
    have q:k+1<=lim:=by unfold lim;omega
    have G:(AF (k+1)).map (λi=>D.int (num c (i+1)))=(AF k).map (λi=>D.int (num c (i+1)))++[.int (num c (k+1))]:=by rw[Jt];simp
    refine⟨[.sh true (.int c),.sh true (.int m),.own false ((AF k).map λi=>.int (num c (i+1))),.sh false (.int (num c k)),.sh false (.int k)],
     [.sh true (.int c),.sh true (.int m),.own false ((AF (k+1)).map λi=>.int (num c (i+1))),.sh false (.int (num c (k+1))),.sh false (.int k)],?_,?_,⟨_,rfl⟩⟩
    simp;rw[G];simp[bH,m1,m2,L,put,jJ,q,num])
 obtain⟨s4,rfl⟩:=W;have U:((AF (m+1)).map λ(k:Nat)=>Vl.cl (.int (k:Int))).length=m+1:=by simp
 rw[U] at e;have B:noLs ((AF (m+1)).map λi=>D.int (num c (i+1)))=true:=by
  have:(AF (m+1)).map (λi=>D.int (num c (i+1)))=((AF (m+1)).map λi=>num c (i+1)).map D.int:=by simp
  rw[this];exact fZ _
 have l:cut ((AF (m+1)).map λi=>D.int (num c (i+1))) (some 1) none=(strm c m).map D.int:=by
  unfold cut sIx;simp only[lM,Cd];have M:min (1:Int).toNat (m+1)=1:=by simp
  rw[if_neg (by decide),M,CJ (by simp),E5];simp[strm,E7]
 have s1:aJ 1=true:=by decide
 refine aQ (F:=vF) hF rfl (v:=⟨.lst ((strm c m).map D.int),true,false,[]⟩) ?_;have e:ex P (call P n) [.sh true (.int c),.sh true (.int m),.own false [],.sh false (.int (c % 2147483647+48271)),.dead] _=_:=e;simp[vF,bH,L,eE,cV,bE,e,s1,dM,B,l]
noncomputable def aMo(b:Str×Int):D:=.tup [.str b.1,.int b.2]
@[simp] theorem aMp (b:Str×Int):noL (aMo b)=true:=by simp[aMo,noL,noLs]
end Hp
namespace HpS
open Hp PySem
inductive Sm where
 | num (n:Int)|box (k:Nat)|aft (k:Nat)|two (p:Bool) (a b:Sm)
noncomputable def aAi(p:Bool):Str:=if p then "plus" else "minus"
noncomputable def Sm.d:Sm->D
 | .num n=>.tup [.str "number",.int n]|.box k=>.tup [.str "box",.int k]|.aft k=>.tup [.str "after",.int k]|.two p a b=>.tup [.str (aAi p),a.d,b.d]
noncomputable def Sm.sz:Sm->Nat
 | .two _ a b=>1+a.sz+b.sz|_=>1
noncomputable def Sm.val(ah be:List Int):Sm->Int
 | .num n=>n|.box k=>ah.getD k 0|.aft k=>be.getD k 0|.two p a b=>if p then a.val ah be+b.val ah be else a.val ah be-b.val ah be
noncomputable def Sm.wf(c:Nat)(pl:Bool):Sm->Prop
 | .num n=>0<=n/\n<=99|.box k=>k<c|.aft k=>k<c/\pl=false|.two _ a b=>a.wf c pl/\b.wf c pl
theorem Sm.noL:∀s:Sm,Hp.noL s.d=true
 | .num _=>rfl|.box _=>rfl|.aft _=>rfl|.two _ a b=>by simp[Sm.d,Hp.noL,noLs,a.noL,b.noL]
theorem cA{v:Vl}{d:D}(h:Hp.noL d=true):Vl.sub v d=.cl d:=by unfold Vl.sub;rw[if_pos h]
theorem jF(x:D)(r:List D)(h:Hp.noL x=true):cP (.cl (.tup (x::r))) (.cl (.int 0))=.ok (.cl x):=by have:ixN (x::r).length 0=some 0:=fO (k:=0) (by simp);unfold cP;simp only[cJ,this,gZ,cA h]
theorem mR(x y:D)(r:List D)(h:Hp.noL y=true):cP (.cl (.tup (x::y::r))) (.cl (.int 1))=.ok (.cl y):=by have:ixN (x::y::r).length 1=some 1:=fO (k:=1) (by simp);unfold cP;simp only[cJ,this,gZ,gS,cA h]
theorem aEt(x y z:D)(r:List D)(h:Hp.noL z=true):cP (.cl (.tup (x::y::z::r))) (.cl (.int 2))=.ok (.cl z):=by have:ixN (x::y::z::r).length 2=some 2:=fO (k:=2) (by simp);unfold cP;simp only[cJ,this,gZ,gS,cA h]
theorem aBr{is:List Int}{k:Nat}(h:k<is.length):cP (.cl (aK is)) (.cl (.int (k:Int)))=.ok (.cl (.int (is.getD k 0))):=by
 unfold cP aK;have l:(is.map D.int).length=is.length:=by simp
 have e:(is.map D.int)[k]? = some (.int (is.getD k 0)):=by simp[h]
 simp only[cJ,l,fO h,e,Vl.sub,Hp.noL,if_true]
noncomputable def mS(f:Nat):Fn:=⟨3,6,
 (.cons (.set (.n 3) (.idx (.v 0) (.c (.int 0))))
 (.cons (.iff (.cmp .Eq (.v 3) (.c (.str "number")))
  (.cons (.ret (.idx (.v 0) (.c (.int 1))))
  .nil)
  .nil)
 (.cons (.iff (.cmp .Eq (.v 3) (.c (.str "box")))
  (.cons (.ret (.idx (.v 1) (.idx (.v 0) (.c (.int 1)))))
  .nil)
  .nil)
 (.cons (.iff (.cmp .Eq (.v 3) (.c (.str "after")))
  (.cons (.ret (.idx (.v 2) (.idx (.v 0) (.c (.int 1)))))
  .nil)
  .nil)
 (.cons (.set (.n 4) (.call f (.cons (.idx (.v 0) (.c (.int 1))) (.cons (.v 1) (.cons (.v 2) .nil)))))
 (.cons (.set (.n 5) (.call f (.cons (.idx (.v 0) (.c (.int 2))) (.cons (.v 1) (.cons (.v 2) .nil)))))
 (.cons (.ret (.ife (.cmp .Eq (.v 3) (.c (.str "plus"))) (.op .Add (.v 4) (.v 5)) (.op .Sub (.v 4) (.v 5))))
 .nil)))))))⟩
theorem aMq:(("number" : Str) == "number")=true:=by decide +kernel
theorem aJU:(("box" : Str) == "number")=false:=by decide +kernel
theorem aNU:(("box" : Str) == "box")=true:=by decide +kernel
theorem aNV:(("after" : Str) == "number")=false:=by decide +kernel
theorem aNW:(("after" : Str) == "box")=false:=by decide +kernel
theorem aNX:(("after" : Str) == "after")=true:=by decide +kernel
theorem aNY:∀p,(aAi p == "number")=false:=by decide +kernel
theorem aNZ:∀p,(aAi p == "box")=false:=by decide +kernel
theorem aMr:∀p,(aAi p == "after")=false:=by decide +kernel
theorem aOa:∀p,(aAi p == "plus")=p:=by decide +kernel
theorem iI{P:Pg}{f:Nat}(hF:P.fns[f]? = some (mS f)){ah be:List Int}{bd:D}{c:Nat}{pl:Bool}(G:ah.length=c)(I:be.length=c)(q:Hp.noL bd=true)(l:pl=false->bd=aK be) :
 ∀(s:Sm) (n:Nat),s.wf c pl->call P (n+s.sz) f [s.d,aK ah,bd]=.ok (.int (s.val ah be),false,false)
 | .num k,n,w=>by refine aQ (F:=mS f) hF rfl (v:=.cl (.int k)) ?_;exact cs (cN (cO (v0_ rfl) rfl (jF _ _ rfl))) (qR (cR rfl aMq) (eS (cO (v0_ rfl) rfl (mR _ _ _ rfl))))|.box k,n,w=>by have w:k<c:=w;refine aQ (F:=mS f) hF rfl (v:=.cl (.int (ah.getD k 0))) ?_;exact cs (cN (cO (v0_ rfl) rfl (jF _ _ rfl))) (cs (eC (cR rfl aJU)) (qR (cR rfl aNU) (eS (cO (v1_ (bC _)) (cO (v0_ rfl) rfl (mR _ _ _ rfl)) (aBr (by omega))))))|.aft k,n,w=>by obtain⟨L,w2⟩:k<c/\pl=false:=w;have e:=l w2;subst e;refine aQ (F:=mS f) hF rfl (v:=.cl (.int (be.getD k 0))) ?_;exact cs (cN (cO (v0_ rfl) rfl (jF _ _ rfl))) (cs (eC (cR rfl aNV)) (cs (eC (cR rfl aNW)) (qR (cR rfl aNX) (eS (cO (v2_ (bC _)) (cO (v0_ rfl) rfl (mR _ _ _ rfl)) (aBr (by omega)))))))|.two p a b,n,w=>by
  obtain⟨L,w2⟩:a.wf c pl/\b.wf c pl:=w;have B:=iI hF G I q l a (n+b.sz) L;have M:=iI hF G I q l b (n+a.sz) w2;rw[show n+b.sz+a.sz=n+a.sz+b.sz by omega] at B;have e:n+Sm.sz (.two p a b)=n+a.sz+b.sz+1:=by show n+(1+a.sz+b.sz)=_;omega
  rw[e];refine aQ (F:=mS f) hF rfl (v:=.cl (.int (Sm.val ah be (.two p a b)))) ?_;refine cs (cN (cO (v0_ (Sm.noL _)) rfl (jF _ _ rfl))) (cs (eC (cR rfl (aNY p))) (cs (eC (cR rfl (aNZ p))) (cs (eC (cR rfl (aMr p))) (cs (cN (bZ (cO (v0_ (Sm.noL _)) rfl (mR _ _ _ a.noL)) (v1_ (bC _)) (v2_ q) B)) (cs (cN (bZ (cO (v0_ (Sm.noL _)) rfl (aEt _ _ _ _ b.noL)) (v1_ (bC _)) (v2_ q) M)) (eS (aHv (cR rfl (aOa p)) ?_)))))));cases p <;> rfl
theorem gA{P:Pg}{W:Caller}{f:Nat}{F:Fn}{ds:List D}(hF:P.fns[f]? = some F)(l:ds.length=F.np){Z:Sg}
 (h:exs P W ((ds.map λd=>Sl.sh true d)++Aj (F.ns-F.np) Sl.dead) F.body=.next Z):tZ P W f ds=.ok (.non,false,false):=by unfold tZ;rw[hF];simp only[l,if_true,h]
@[simp] theorem yD {P:Pg} {W:Caller} {Z:Sg} (i:Nat) (a:E):ev P W Z (.tget i a)=(ev P W Z a >>= λx=>match x.d,P.tabs[i]? with|.str k,some t=>.ok (.cl ((t.lookup k).getD .non))|_,_=>.bad):=id rfl
noncomputable def fWhole:Fn:=⟨1,1,(.cons (.ret (.an (.isi (.v 0) [.tInt]) (.nt (.isi (.v 0) [.tBool])))) .nil)⟩
noncomputable def fWithin(wh:Nat):Fn:=⟨3,3,(.cons (.ret (.an (.call wh (.cons (.v 0) .nil)) (.cmp2 .LtE .LtE (.v 1) (.v 0) (.v 2)))) .nil)⟩
noncomputable def fCheck(wi:Nat):Fn:=⟨3,4,
 (.cons (.set (.n 3) (.ife (.cmp .Eq (.v 1) (.c (.str "number"))) (.c (.int 99)) (.op .Sub (.bi .len (.cons (.v 0) .nil)) (.c (.int 1)))))
 (.cons (.iff (.nt (.call wi (.cons (.v 2) (.cons (.c (.int 0)) (.cons (.v 3) .nil)))))
  (.cons (.rse 1 false (.cons (.c (.str "a number is a whole one from 0 to 99, a box the number of one")) .nil))
  .nil)
  .nil)
 .nil))⟩
theorem aEu{P:Pg}{wh:Nat}(hF:P.fns[wh]? = some fWhole)(n:Nat)(i:Int):call P (n+1) wh [.int i]=.ok (.bl true,false,false):=aQ (F:=fWhole) hF rfl (v:=.cl (.bl true)) rfl
theorem mT{P:Pg}{wh wi:Nat}(B:P.fns[wh]? = some fWhole)(hF:P.fns[wi]? = some (fWithin wh))(n:Nat)(i a b:Int)(l:a<=i)(q:i<=b):call P (n+2) wi [.int i,.int a,.int b]=.ok (.bl true,false,false):=by refine aQ (F:=fWithin wh) hF rfl (v:=.cl (.bl true)) ?_;simp[fWithin,bH,aEu B,l,q]
theorem aEv{P:Pg}{wh wi ch:Nat}(L:P.fns[wh]? = some fWhole)(I:P.fns[wi]? = some (fWithin wh))(hF:P.fns[ch]? = some (fCheck wi))(n:Nat){bs:List D}{due:Str}{i:Int}(B:0<=i)(G:i<=(if due == "number" then 99 else (bs.length:Int)-1)) :
 call P (n+3) ch [.lst bs,.str due,.int i]=.ok (.non,false,false):=by
 have l:=mT L I n i 0 _ B G;cases q:due == "number" with
 | true=>rw[q,if_pos rfl] at l;refine gA (F:=fCheck wi) hF rfl (Z:=[.sh true (.lst bs),.sh true (.str due),.sh true (.int i),.sh false (.int 99)]) ?_;simp[fCheck,bH,q,l]|false=>rw[q,if_neg bN] at l;refine gA (F:=fCheck wi) hF rfl (Z:=[.sh true (.lst bs),.sh true (.str due),.sh true (.int i),.sh false (.int ((bs.length:Int)-1))]) ?_;simp[fCheck,bH,q,l]
noncomputable def sumTab:List (Str×D):=[("number",.tup [.str "number"]),("box",.tup [.str "box"]),("after",.tup [.str "box"]),("plus",.tup [.str "sum",.str "sum"]),("minus",.tup [.str "sum",.str "sum"])]
noncomputable def fForm:Fn:=⟨3,5,
 (.cons (.iff (.orr (.nt (.isi (.v 1) [.tTuple])) (.orr (.cmp .Eq (.bi .len (.cons (.v 1) .nil)) (.c (.int 0))) (.nt (.isi (.idx (.v 1) (.c (.int 0))) [.tStr]))))
  (.cons (.rse 1 false (.cons (.c (.str "a part is a tuple that begins with a word")) .nil))
  .nil)
  .nil)
 (.cons (.set (.n 3) (.idx (.v 1) (.c (.int 0))))
 (.cons (.set (.n 4) (.ife (.cmp .Eq (.v 0) (.c (.str "sum"))) (.tget 0 (.v 3)) (.tget 1 (.v 3))))
 (.cons (.iff (.orr (.cmp .Is (.v 4) (.c .non)) (.cmp .NotEq (.bi .len (.cons (.v 1) .nil)) (.op .Add (.bi .len (.cons (.v 4) .nil)) (.c (.int 1)))))
  (.cons (.rse 1 false (.cons (.c (.str "a part has a word that is due there, and as many things as go with it")) .nil))
  .nil)
  .nil)
 (.cons (.iff (.an (.v 2) (.cmp .Eq (.v 3) (.c (.str "after"))))
  (.cons (.rse 1 false (.cons (.c (.str "no after stands where a plain one is due")) .nil))
  .nil)
  .nil)
 (.cons (.retv 4)
 .nil))))))⟩
noncomputable def Sm.word:Sm->Str
 | .num _ => "number" | .box _ => "box" | .aft _ => "after" | .two p _ _=>aAi p
noncomputable def Sm.rest:Sm->List D
 | .num n=>[.int n]|.box k=>[.int k]|.aft k=>[.int k]|.two _ a b=>[a.d,b.d]
noncomputable def Sm.form:Sm->List Str
 | .num _=>["number"]|.box _=>["box"]|.aft _=>["box"]|.two _ _ _=>["sum", "sum"]
theorem Sm.d_eq:∀s:Sm,s.d=.tup (.str s.word::s.rest)
 | .num _=>rfl|.box _=>rfl|.aft _=>rfl|.two _ _ _=>rfl
theorem Sm.rest_noL:∀s:Sm,noLs s.rest=true
 | .num _=>rfl|.box _=>rfl|.aft _=>rfl
 | .two _ a b=>by simp[Sm.rest,noLs,a.noL,b.noL]
theorem Sm.len_eq:∀s:Sm,s.rest.length=s.form.length
 | .num _=>rfl|.box _=>rfl|.aft _=>rfl|.two _ _ _=>rfl
theorem Sm.look:∀s:Sm,sumTab.lookup s.word=some (.tup (s.form.map D.str))
 | .num _=>by rfl|.box _=>by rfl|.aft _=>by rfl|.two true _ _=>by rfl|.two false _ _=>by rfl
theorem aGD{P:Pg}{fo:Nat}(hF:P.fns[fo]? = some fForm)(I:P.tabs[0]? = some sumTab)(n:Nat)(s:Sm){c:Nat}{pl:Bool}(w:s.wf c pl):call P (n+1) fo [.str "sum",s.d,.bl pl]=.ok (.tup (s.form.map D.str),false,false):=by
 have q:=cM 1 true s.noL;rw[s.d_eq] at q ⊢;have B:=jF (.str s.word) s.rest rfl;have W:(("sum" : Str) == "sum")=true:=by decide +kernel
 have l:((.str s.word::s.rest:List D).length:Int)=(s.form.length:Int)+1:=by rw[lC,s.len_eq];omega
 have G:((((.str s.word::s.rest:List D).length:Int))==0)=false:=by rw[l];exact beq_eq_false_iff_ne.mpr (by omega)
 have t1:tst P (call P n) [.sh true (.str "sum"),.sh true (.tup (.str s.word::s.rest)),.sh true (.bl pl),.dead,.dead] (.orr (.nt (.isi (.v 1) [.tTuple])) (.orr (.cmp .Eq (.bi .len (.cons (.v 1) .nil)) (.c (.int 0))) (.nt (.isi (.idx (.v 1) (.c (.int 0))) [.tStr]))))=.ok false:=by simp only[dX,fD,iX,bT,eV,aI,nF,dW,aF,aZ,bH,gS,gZ,q,aA,cJ,aBn,Bh,bF,if_false,jA,eJ,gJ,G,B,aBm]
 have t2:tst P (call P n) [.sh true (.str "sum"),.sh true (.tup (.str s.word::s.rest)),.sh true (.bl pl),.sh false (.str s.word),.sh false (.tup (s.form.map D.str))] (.orr (.cmp .Is (.v 4) (.c .non)) (.cmp .NotEq (.bi .len (.cons (.v 1) .nil)) (.op .Add (.bi .len (.cons (.v 4) .nil)) (.c (.int 1)))))=.ok false:=by have hi:bU .Is (.tup (s.form.map D.str)) .non=some false:=rfl;have U:(((s.form.length:Int)+1==(s.form.length:Int)+1))=true:=beq_self_eq_true _;simp only[dX,bT,eV,aI,nF,kT,aF,aZ,bH,gS,gZ,q,bX,aA,cJ,hi,bF,if_false,jA,l,lM,add_int,qQ,gJ,U,DA,Bh]
 have t3:tst P (call P n) [.sh true (.str "sum"),.sh true (.tup (.str s.word::s.rest)),.sh true (.bl pl),.sh false (.str s.word),.sh false (.tup (s.form.map D.str))] (.an (.v 2) (.cmp .Eq (.v 3) (.c (.str "after"))))=.ok false:=by
  simp only[qN,aHt,bT,eV,aI,bH,gS,gZ,mQ,bX,aA,vB,cJ,eJ,fN];cases pl with
  | false=>rfl|true=>
   have:(s.word == "after")=false:=by
    cases s with
    | num _=>exact(show((("number" : Str)) == "after")=false by decide +kernel)|box _=>exact(show((("box" : Str)) == "after")=false by decide +kernel)|aft k=>obtain⟨_,z⟩:k<c/\true=false:=w;cases z|two p _ _=>exact aMr p
   rw[if_pos rfl,this]
 refine aQ (F:=fForm) hF rfl (v:=.cl (.tup (s.form.map D.str))) ?_;have M:Hp.noL (.tup (s.form.map D.str))=true:=by cases s <;> rfl
 have L:=s.look;show exs P (call P n) [.sh true (.str "sum"),.sh true (.tup (.str s.word::s.rest)),.sh true (.bl pl),.dead,.dead] fForm.body=_;unfold fForm;simp only[aX,cU,cD,t1,aT,bF,if_false,rM,dI,dW,eV,aI,bH,gS,gZ,q,aA,B,fX,bY,fY,dG,lS,lZ,aAf,bT,oA,cJ,eJ,fN,W,if_true,yD,bX,I,L,Dw,t2,t3,nX,qL]
noncomputable def fLook(fo ch lo:Nat):Fn:=⟨5,8,
 (.cons (.iff (.cmp .Eq (.v 4) (.c (.int 40)))
  (.cons (.rse 2 false (.cons (.c (.str "a condition or sum has at most forty parts")) .nil))
  .nil)
  .nil)
 (.cons (.set (.n 4) (.op .Add (.v 4) (.c (.int 1))))
 (.cons (.set (.n 5) (.call fo (.cons (.v 1) (.cons (.v 2) (.cons (.v 3) .nil)))))
 (.cons (.for (.t [6,7]) (.zip (.v 5) (.sli (.v 2) (.cons (.c (.int 1)) .nil) .nil))
  (.cons (.iff (.orr (.cmp .Eq (.v 6) (.c (.str "sum"))) (.cmp .Eq (.v 6) (.c (.str "cond"))))
   (.cons (.set (.n 4) (.call lo (.cons (.v 0) (.cons (.v 6) (.cons (.v 7) (.cons (.v 3) (.cons (.v 4) .nil)))))))
   .nil)
   (.cons (.ex (.call ch (.cons (.v 0) (.cons (.v 6) (.cons (.v 7) .nil)))))
   .nil))
  .nil))
 (.cons (.retv 4)
 .nil)))))⟩
noncomputable def cS(ch lo:Nat):Ss:=(.cons (.iff (.orr (.cmp .Eq (.v 6) (.c (.str "sum"))) (.cmp .Eq (.v 6) (.c (.str "cond"))))
 (.cons (.set (.n 4) (.call lo (.cons (.v 0) (.cons (.v 6) (.cons (.v 7) (.cons (.v 3) (.cons (.v 4) .nil)))))))
 .nil)
 (.cons (.ex (.call ch (.cons (.v 0) (.cons (.v 6) (.cons (.v 7) .nil)))))
 .nil))
 .nil)
noncomputable def gB(w:Str)(d:D):Vl:=.cl (.tup [.str w,d])
theorem aHx{P:Pg}{W:Caller}{Z:Sg}(e:E):ex P W Z (.ex e)=O.from Z (ev P W Z e) λ_=>.next Z:=rfl
theorem nH{s0 s1 s2 l s4 q s6 s7:Sl}{w:Str}{d:D}(h:Hp.noL d=true):bK [s0,s1,s2,l,s4,q,s6,s7] (gB w d) (.t [6,7])=.ok [s0,s1,s2,l,s4,q,.sh false (.str w),.sh false d]:=by unfold bK gB;simp only[cJ,lC,lN,if_true,AE,BN,BS,GZ,cA (show Hp.noL (.str w)=true from rfl),cA h,dG,lS,lZ]
theorem yE{P:Pg}{W:Caller}{s0 s1 L s4 s6 s7:Sl}(s:Sm):walk P W [s0,s1,.sh true s.d,L,s4,.sh false (.tup (s.form.map D.str)),s6,s7] (.zip (.v 5) (.sli (.v 2) (.cons (.c (.int 1)) .nil) .nil)) =
 .ok ((s.form.zip s.rest).map λp=>gB p.1 p.2,[]):=by
 have B:=cM 2 true s.noL;have I:aJ 1=true:=by decide
 have q:noLs (.str s.word::s.rest)=true:=by simp[noLs,Hp.noL,s.rest_noL]
 have l:cut (.str s.word::s.rest) (some 1) none=s.rest:=by cases s <;> rfl
 have hs:dM (.cl (.tup (.str s.word::s.rest))) (some 1) none=.ok (.cl (.tup s.rest)):=by unfold dM;simp only[cJ,l,yC,Fi,q,if_true];rfl
 have G:items ⟨.non,false,false,[]⟩ (gQ (s.form.map D.str) s.rest)=(s.form.zip s.rest).map λp=>gB p.1 p.2:=by
  cases s with
  | num _=>rfl|box _=>rfl|aft _=>rfl|two p a b=>
   show [Vl.sub _ (.tup [.str "sum",a.d]),Vl.sub _ (.tup [.str "sum",b.d])]=[gB "sum" a.d,gB "sum" b.d]
   rw[cA (by simp[Hp.noL,noLs,a.noL]),cA (by simp[Hp.noL,noLs,b.noL])];rfl
 rw[s.d_eq] at B ⊢;simp only[xZ,eV,aBp,aI,bH,gS,gZ,B,bX,aA,cJ,I,nE,hs,jC,yC,KH,fX,AV];rw[G]
theorem aOb:(("sum" : Str) == "sum")=true:=by decide +kernel
theorem aOc:(("number" : Str) == "sum")=false:=by decide +kernel
theorem aOd:(("number" : Str) == "cond")=false:=by decide +kernel
theorem aMs:(("box" : Str) == "sum")=false:=by decide +kernel
theorem aMt:(("box" : Str) == "cond")=false:=by decide +kernel
section
variable {P:Pg} {wh wi ch fo lo:Nat} (hW:P.fns[wh]? = some fWhole) (hI:P.fns[wi]? = some (fWithin wh)) (hC:P.fns[ch]? = some (fCheck wi)) (hO:P.fns[fo]? = some fForm) (hT:P.tabs[0]? = some sumTab) (hL:P.fns[lo]? = some (fLook fo ch lo))
include hW hI hC hO hT hL
theorem aCk{n:Nat}{bs:List D}{s1 s2 l q s6 s7:Sl}{m:Int}{w:Str}{i:Int}(G:0<=i)(I:i<=(if w == "number" then 99 else (bs.length:Int)-1))(L:(w == "sum")=false)(M:(w == "cond")=false) :
 exs P (call P (n+3)) [.sh true (.lst bs),s1,s2,l,.sh false (.int m),q,.sh false (.str w),.sh false (.int i)] (cS ch lo)=.next [.sh true (.lst bs),s1,s2,l,.sh false (.int m),q,.sh false (.str w),.sh false (.int i)]:=by have B:=aEv hW hI hC n (bs:=bs) (due:=w) G I;simp only[cS,aX,cU,cD,dX,bT,eV,aI,bH,gS,gZ,bX,aA,cJ,eJ,fN,L,M,bF,if_false,aT,aHx,dD,aF,aZ,oD,mC,mN,B,rM]
end
theorem kW{P:Pg}{ch lo M:Nat}{bs:List D}{s1 s2 q:Sl}{pl:Bool}{m l:Int}{d:D}(B:call P M lo [.lst bs,.str "sum",d,.bl pl,.int m]=.ok (.int l,false,false)) :
 exs P (call P M) [.sh true (.lst bs),s1,s2,.sh true (.bl pl),.sh false (.int m),q,.sh false (.str "sum"),.sh false d] (cS ch lo)=.next [.sh true (.lst bs),s1,s2,.sh true (.bl pl),.sh false (.int l),q,.sh false (.str "sum"),.sh false d]:=by simp only[cS,aX,cU,cD,dX,bT,eV,aI,bH,gS,gZ,bX,aA,cJ,eJ,fN,aOb,if_true,aT,dI,dD,aF,aZ,oD,mQ,mC,mN,B,jX,fX,bY,fY,dG,lS,lZ,rM]
section
variable {P:Pg} {wh wi ch fo lo:Nat} (hW:P.fns[wh]? = some fWhole) (hI:P.fns[wi]? = some (fWithin wh)) (hC:P.fns[ch]? = some (fCheck wi)) (hO:P.fns[fo]? = some fForm) (hT:P.tabs[0]? = some sumTab) (hL:P.fns[lo]? = some (fLook fo ch lo))
include hW hI hC hO hT hL
theorem aBs{m:Nat}{bs:List D}{s:Sm}{c:Nat}{pl:Bool}{l r:Int}{s6 s7:Sl}(w:s.wf c pl)(hs:l<40)
 (q:ex P (call P (m+1)) [.sh true (.lst bs),.sh true (.str "sum"),.sh true s.d,.sh true (.bl pl),.sh false (.int (l+1)),.sh false (.tup (s.form.map D.str)),.dead,.dead] (.for (.t [6,7]) (.zip (.v 5) (.sli (.v 2) (.cons (.c (.int 1)) .nil) .nil)) (cS ch lo)) =
  .next [.sh true (.lst bs),.sh true (.str "sum"),.sh true s.d,.sh true (.bl pl),.sh false (.int r),.sh false (.tup (s.form.map D.str)),s6,s7]) :
 call P (m+2) lo [.lst bs,.str "sum",s.d,.bl pl,.int l]=.ok (.int r,false,false):=by
 have G:=aGD hO hT m s w;have I:=cM 2 true s.noL;have B:(l==40)=false:=beq_eq_false_iff_ne.mpr (by omega);refine aQ (F:=fLook fo ch lo) hL rfl (v:=.cl (.int r)) ?_;show exs P (call P (m+1)) [.sh true (.lst bs),.sh true (.str "sum"),.sh true s.d,.sh true (.bl pl),.sh true (.int l),.dead,.dead,.dead] (.cons (.iff (.cmp .Eq (.v 4) (.c (.int 40)))
  (.cons (.rse 2 false (.cons (.c (.str "a condition or sum has at most forty parts")) .nil))
  .nil)
  .nil)
 (.cons (.set (.n 4) (.op .Add (.v 4) (.c (.int 1))))
 (.cons (.set (.n 5) (.call fo (.cons (.v 1) (.cons (.v 2) (.cons (.v 3) .nil)))))
 (.cons (.for (.t [6,7]) (.zip (.v 5) (.sli (.v 2) (.cons (.c (.int 1)) .nil) .nil)) (cS ch lo))
 (.cons (.retv 4)
 .nil)))))=_
 simp only[aX,cU,cD,bT,eV,aI,bH,gS,gZ,nZ,aA,cJ,eJ,gJ,B,bF,if_false,aT,rM,dI,kT,add_int,fX,bY,fY,dG,lS,lZ,dD,aF,aZ,oA,I,mQ,mC,mN,G,jX,q,nX,qL]
theorem vG{n:Nat}{bs:List D}{s:Sm}{c:Nat}{pl:Bool}{l:Int}{w:Str}{i:Int}(q:s.wf c pl)(hs:l<40)(M:s.form=[w])(U:s.rest=[.int i])(I:0<=i)(L:i<=(if w == "number" then 99 else (bs.length:Int)-1))(W:(w == "sum")=false)(q2:(w == "cond")=false) :
 call P (n+4) lo [.lst bs,.str "sum",s.d,.bl pl,.int l]=.ok (.int (l+1),false,false):=by refine aBs hW hI hC hO hT hL (m:=n+2) (s6:=.sh false (.str w)) (s7:=.sh false (.int i)) q hs ?_;have tl:∀{s1 s2 B G:Sl} {m:Int},exs P (call P (n+2+1)) [.sh true (.lst bs),s1,s2,B,.sh false (.int m),G,.sh false (.str w),.sh false (.int i)] (cS ch lo)=.next [.sh true (.lst bs),s1,s2,B,.sh false (.int m),G,.sh false (.str w),.sh false (.int i)]:=aCk hW hI hC hO hT hL (n:=n) (s6:=.dead) (s7:=.dead) I L W q2;rw[iE,yE,M,U,aT];simp only[AE,BN,mC,mN,bY,cY,nH (show Hp.noL (.int i)=true from rfl),aT,tl]
theorem kX{bs:List D}{c:Nat}(I:bs.length=c){pl:Bool}:∀(s:Sm) (n:Nat) (l:Int),s.wf c pl->l+s.sz<=40->call P (n+3+s.sz) lo [.lst bs,.str "sum",s.d,.bl pl,.int l]=.ok (.int (l+s.sz),false,false)
 | .num k,n,l,w,h=>by have h:l+1<=40:=h;obtain⟨q,w2⟩:0<=k/\k<=99:=w;exact vG hW hI hC hO hT hL (n:=n) (s:=.num k) (c:=c) ⟨q,w2⟩ (by omega) rfl rfl q (by rw[aMq,if_pos rfl];exact w2) aOc aOd|.box k,n,l,w,h=>by have h:l+1<=40:=h;have q:k<c:=w;exact vG hW hI hC hO hT hL (n:=n) (s:=.box k) (c:=c) q (by omega) rfl rfl (by omega) (by rw[aJU,if_neg bN];omega) aMs aMt|.aft k,n,l,w,h=>by have h:l+1<=40:=h;obtain⟨q,w2⟩:k<c/\pl=false:=w;exact vG hW hI hC hO hT hL (n:=n) (s:=.aft k) (c:=c) ⟨q,w2⟩ (by omega) rfl rfl (by omega) (by rw[aJU,if_neg bN];omega) aMs aMt|.two p a b,n,l,w,h=>by
  have h:l+((1+a.sz+b.sz:Nat):Int)<=40:=h;obtain⟨q,w2⟩:a.wf c pl/\b.wf c pl:=w;have pa:1<=a.sz:=by cases a <;> simp[Sm.sz];omega
  have B:=kX I a (n+b.sz) (l+1) q (by omega);have G:=kX I b (n+a.sz) (l+1+a.sz) w2 (by omega);have L:n+b.sz+3+a.sz=n+2+a.sz+b.sz+1:=by omega
  have M:n+a.sz+3+b.sz=n+2+a.sz+b.sz+1:=by omega
  rw[L] at B;rw[M] at G;have U:n+3+Sm.sz (.two p a b)=n+2+a.sz+b.sz+2:=by show n+3+(1+a.sz+b.sz)=_;omega
  have W:l+((Sm.sz (.two p a b):Nat):Int)=l+1+a.sz+b.sz:=by show l+((1+a.sz+b.sz:Nat):Int)=_;omega
  rw[U,W];refine aBs hW hI hC hO hT hL (m:=n+2+a.sz+b.sz) (s6:=.sh false (.str "sum")) (s7:=.sh false b.d) (c:=c) ⟨q,w2⟩ (by omega) ?_;rw[iE,yE,aT];have ef:(Sm.two p a b).form=[("sum" : Str),("sum" : Str)]:=rfl;have er:(Sm.two p a b).rest=[a.d,b.d]:=rfl;simp only[ef,er,AE,BN,mC,mN,bY,cY,nH a.noL,nH b.noL,aT,kW B,kW G]
end
inductive Cn where
 | yes|cmp (i:Bool) (a b:Sm)|nt (c:Cn)|two (p:Bool) (a b:Cn)
noncomputable def qT(i:Bool):Str:=if i then "is" else "less"
noncomputable def kY(p:Bool):Str:=if p then "both" else "either"
noncomputable def Cn.d:Cn->D
 | .yes=>.tup [.str "yes"]|.cmp i a b=>.tup [.str (qT i),a.d,b.d]|.nt c=>.tup [.str "not",c.d]|.two p a b=>.tup [.str (kY p),a.d,b.d]
noncomputable def Cn.sz:Cn->Nat
 | .yes=>1|.cmp _ a b=>1+a.sz+b.sz|.nt c=>1+c.sz|.two _ a b=>1+a.sz+b.sz
noncomputable def Cn.hold(ah be:List Int):Cn->Bool
 | .yes=>true|.cmp i a b=>if i then a.val ah be==b.val ah be else decide (a.val ah be<b.val ah be)|.nt c=>!c.hold ah be|.two p a b=>if p then a.hold ah be&&b.hold ah be else a.hold ah be||b.hold ah be
noncomputable def Cn.wf(c:Nat)(pl:Bool):Cn->Prop
 | .yes=>True|.cmp _ a b=>a.wf c pl/\b.wf c pl|.nt x=>x.wf c pl|.two _ a b=>a.wf c pl/\b.wf c pl
theorem Cn.noL:∀s:Cn,Hp.noL s.d=true
 | .yes=>rfl|.cmp _ a b=>by simp[Cn.d,Hp.noL,noLs,a.noL,b.noL]|.nt c=>by simp[Cn.d,Hp.noL,noLs,c.noL]|.two _ a b=>by simp[Cn.d,Hp.noL,noLs,a.noL,b.noL]
noncomputable def qU(v f:Nat):Fn:=⟨3,6,
 (.cons (.set (.n 3) (.idx (.v 0) (.c (.int 0))))
 (.cons (.iff (.cmp .Eq (.v 3) (.c (.str "yes")))
  (.cons (.ret (.c (.bl true)))
  .nil)
  .nil)
 (.cons (.iff (.cmp .Eq (.v 3) (.c (.str "not")))
  (.cons (.ret (.nt (.call f (.cons (.idx (.v 0) (.c (.int 1))) (.cons (.v 1) (.cons (.v 2) .nil))))))
  .nil)
  .nil)
 (.cons (.iff (.cmp .Eq (.v 3) (.c (.str "both")))
  (.cons (.ret (.an (.call f (.cons (.idx (.v 0) (.c (.int 1))) (.cons (.v 1) (.cons (.v 2) .nil)))) (.call f (.cons (.idx (.v 0) (.c (.int 2))) (.cons (.v 1) (.cons (.v 2) .nil))))))
  .nil)
  .nil)
 (.cons (.iff (.cmp .Eq (.v 3) (.c (.str "either")))
  (.cons (.ret (.orr (.call f (.cons (.idx (.v 0) (.c (.int 1))) (.cons (.v 1) (.cons (.v 2) .nil)))) (.call f (.cons (.idx (.v 0) (.c (.int 2))) (.cons (.v 1) (.cons (.v 2) .nil))))))
  .nil)
  .nil)
 (.cons (.set (.n 4) (.call v (.cons (.idx (.v 0) (.c (.int 1))) (.cons (.v 1) (.cons (.v 2) .nil)))))
 (.cons (.set (.n 5) (.call v (.cons (.idx (.v 0) (.c (.int 2))) (.cons (.v 1) (.cons (.v 2) .nil)))))
 (.cons (.ret (.ife (.cmp .Eq (.v 3) (.c (.str "is"))) (.cmp .Eq (.v 4) (.v 5)) (.cmp .Lt (.v 4) (.v 5))))
 .nil))))))))⟩
theorem aOe:(("yes" : Str) == "yes")=true:=by decide +kernel
theorem aOf:(("not" : Str) == "yes")=false:=by decide +kernel
theorem aOg:(("not" : Str) == "not")=true:=by decide +kernel
theorem aOh:∀p,(qT p == "yes")=false:=by decide +kernel
theorem aOi:∀p,(qT p == "not")=false:=by decide +kernel
theorem aOj:∀p,(qT p == "both")=false:=by decide +kernel
theorem aOk:∀p,(qT p == "either")=false:=by decide +kernel
theorem aOl:∀p,(qT p == "is")=p:=by decide +kernel
theorem aOm:∀p,(kY p == "yes")=false:=by decide +kernel
theorem aOn:∀p,(kY p == "not")=false:=by decide +kernel
theorem aMu:∀p,(kY p == "both")=p:=by decide +kernel
theorem aOo:∀p,(kY p == "either")=!p:=by decide +kernel
theorem Sm.sz_pos:∀s:Sm,1<=s.sz
 | .num _=>Ah _|.box _=>Ah _|.aft _=>Ah _
 | .two _ a b=>by show 1<=1+a.sz+b.sz;omega
theorem Cn.sz_pos:∀s:Cn,1<=s.sz
 | .yes=>Ah _|.cmp _ a b=>by show 1<=1+a.sz+b.sz;omega|.nt c=>by show 1<=1+c.sz;omega|.two _ a b=>by show 1<=1+a.sz+b.sz;omega
theorem kZ{P:Pg}{v f:Nat}(G:P.fns[v]? = some (mS v))(hF:P.fns[f]? = some (qU v f)){ah be:List Int}{bd:D}{c:Nat}{pl:Bool}(I:ah.length=c)(L:be.length=c)(l:Hp.noL bd=true)(q:pl=false->bd=aK be) :
 ∀(s:Cn) (n:Nat),s.wf c pl->call P (n+s.sz) f [s.d,aK ah,bd]=.ok (.bl (s.hold ah be),false,false)
 | .yes,n,w=>by refine aQ (F:=qU v f) hF rfl (v:=.cl (.bl true)) ?_;exact cs (cN (cO (v0_ rfl) rfl (jF _ _ rfl))) (qR (cR rfl aOe) (eS rfl))|.cmp i a b,n,w=>by
  obtain⟨U,w2⟩:a.wf c pl/\b.wf c pl:=w;have B:=iI G I L l q a (n+b.sz) U;have M:=iI G I L l q b (n+a.sz) w2;rw[show n+b.sz+a.sz=n+a.sz+b.sz by omega] at B;have e:n+Cn.sz (.cmp i a b)=n+a.sz+b.sz+1:=by show n+(1+a.sz+b.sz)=_;omega
  rw[e];refine aQ (F:=qU v f) hF rfl (v:=.cl (.bl (Cn.hold ah be (.cmp i a b)))) ?_;refine cs (cN (cO (v0_ (Cn.noL _)) rfl (jF _ _ rfl))) (cs (eC (cR rfl (aOh i))) (cs (eC (cR rfl (aOi i))) (cs (eC (cR rfl (aOj i))) (cs (eC (cR rfl (aOk i))) (cs (cN (bZ (cO (v0_ (Cn.noL _)) rfl (mR _ _ _ a.noL)) (v1_ (bC _)) (v2_ l) B)) (cs (cN (bZ (cO (v0_ (Cn.noL _)) rfl (aEt _ _ _ _ b.noL)) (v1_ (bC _)) (v2_ l) M)) (eS (aHv (cR rfl (aOl i)) ?_))))))));cases i <;> rfl
 | .nt x,n,w=>by
  have B:=kZ G hF I L l q x n w;have e:n+Cn.sz (.nt x)=n+x.sz+1:=by show n+(1+x.sz)=_;omega
  rw[e];refine aQ (F:=qU v f) hF rfl (v:=.cl (.bl (Cn.hold ah be (.nt x)))) ?_;exact cs (cN (cO (v0_ (Cn.noL _)) rfl (jF _ _ rfl))) (cs (eC (cR rfl aOf)) (qR (cR rfl aOg) (eS (aNT (bZ (cO (v0_ (Cn.noL _)) rfl (mR _ _ _ x.noL)) (v1_ (bC _)) (v2_ l) B)))))
 | .two p a b,n,w=>by
  obtain⟨U,w2⟩:a.wf c pl/\b.wf c pl:=w;have B:=kZ G hF I L l q a (n+b.sz) U;have M:=kZ G hF I L l q b (n+a.sz) w2;rw[show n+b.sz+a.sz=n+a.sz+b.sz by omega] at B;have e:n+Cn.sz (.two p a b)=n+a.sz+b.sz+1:=by show n+(1+a.sz+b.sz)=_;omega
  rw[e];refine aQ (F:=qU v f) hF rfl (v:=.cl (.bl (Cn.hold ah be (.two p a b)))) ?_;refine cs (cN (cO (v0_ (Cn.noL _)) rfl (jF _ _ rfl))) (cs (eC (cR rfl (aOm p))) (cs (eC (cR rfl (aOn p))) ?_));cases p with
  | true=>exact qR (cR rfl (aMu true)) (eS (aMm (bZ (cO (v0_ (Cn.noL _)) rfl (mR _ _ _ a.noL)) (v1_ (bC _)) (v2_ l) B) (bZ (cO (v0_ (Cn.noL _)) rfl (aEt _ _ _ _ b.noL)) (v1_ (bC _)) (v2_ l) M)))|false=>exact cs (eC (cR rfl (aMu false))) (qR (cR rfl (aOo false)) (eS (aMn (bZ (cO (v0_ (Cn.noL _)) rfl (mR _ _ _ a.noL)) (v1_ (bC _)) (v2_ l) B) (bZ (cO (v0_ (Cn.noL _)) rfl (aEt _ _ _ _ b.noL)) (v1_ (bC _)) (v2_ l) M))))
noncomputable def condTab:List (Str×D):=[("yes",.tup []),("is",.tup [.str "sum",.str "sum"]),("less",.tup [.str "sum",.str "sum"]),("not",.tup [.str "cond"]),("both",.tup [.str "cond",.str "cond"]),("either",.tup [.str "cond",.str "cond"])]
noncomputable def Cn.word:Cn->Str
 | .yes => "yes" | .cmp i _ _=>qT i|.nt _ => "not" | .two p _ _=>kY p
noncomputable def Cn.rest:Cn->List D
 | .yes=>[]|.cmp _ a b=>[a.d,b.d]|.nt x=>[x.d]|.two _ a b=>[a.d,b.d]
noncomputable def Cn.form:Cn->List Str
 | .yes=>[]|.cmp _ _ _=>["sum", "sum"]|.nt _=>["cond"]|.two _ _ _=>["cond", "cond"]
theorem Cn.d_eq:∀s:Cn,s.d=.tup (.str s.word::s.rest)
 | .yes=>rfl|.cmp _ _ _=>rfl|.nt _=>rfl|.two _ _ _=>rfl
theorem Cn.rest_noL:∀s:Cn,noLs s.rest=true
 | .yes=>rfl|.cmp _ a b=>by simp[Cn.rest,noLs,a.noL,b.noL]|.nt x=>by simp[Cn.rest,noLs,x.noL]|.two _ a b=>by simp[Cn.rest,noLs,a.noL,b.noL]
theorem Cn.len_eq:∀s:Cn,s.rest.length=s.form.length
 | .yes=>rfl|.cmp _ _ _=>rfl|.nt _=>rfl|.two _ _ _=>rfl
theorem Cn.look:∀s:Cn,condTab.lookup s.word=some (.tup (s.form.map D.str))
 | .yes=>by rfl|.cmp true _ _=>by rfl|.cmp false _ _=>by rfl|.nt _=>by rfl|.two true _ _=>by rfl|.two false _ _=>by rfl
theorem Cn.notAfter:∀s:Cn,(s.word == "after")=false
 | .yes=>by show(("yes" : Str) == "after")=false;decide +kernel|.cmp true _ _=>by show(qT true == "after")=false;decide +kernel|.cmp false _ _=>by show(qT false == "after")=false;decide +kernel|.nt _=>by show(("not" : Str) == "after")=false;decide +kernel|.two true _ _=>by show(kY true == "after")=false;decide +kernel|.two false _ _=>by show(kY false == "after")=false;decide +kernel
theorem aEw{P:Pg}{fo:Nat}(hF:P.fns[fo]? = some fForm)(I:P.tabs[1]? = some condTab)(n:Nat)(s:Cn){pl:Bool}:call P (n+1) fo [.str "cond",s.d,.bl pl]=.ok (.tup (s.form.map D.str),false,false):=by
 have q:=cM 1 true s.noL;rw[s.d_eq] at q ⊢;have B:=jF (.str s.word) s.rest rfl;have U:(("cond" : Str) == "sum")=false:=by decide +kernel
 have l:((.str s.word::s.rest:List D).length:Int)=(s.form.length:Int)+1:=by rw[lC,s.len_eq];omega
 have G:((((.str s.word::s.rest:List D).length:Int))==0)=false:=by rw[l];exact beq_eq_false_iff_ne.mpr (by omega)
 have W:tst P (call P n) [.sh true (.str "cond"),.sh true (.tup (.str s.word::s.rest)),.sh true (.bl pl),.dead,.dead] (.orr (.nt (.isi (.v 1) [.tTuple])) (.orr (.cmp .Eq (.bi .len (.cons (.v 1) .nil)) (.c (.int 0))) (.nt (.isi (.idx (.v 1) (.c (.int 0))) [.tStr]))))=.ok false:=by simp only[dX,fD,iX,bT,eV,aI,nF,dW,aF,aZ,bH,gS,gZ,q,aA,cJ,aBn,Bh,bF,if_false,jA,eJ,gJ,G,B,aBm]
 have t2:tst P (call P n) [.sh true (.str "cond"),.sh true (.tup (.str s.word::s.rest)),.sh true (.bl pl),.sh false (.str s.word),.sh false (.tup (s.form.map D.str))] (.orr (.cmp .Is (.v 4) (.c .non)) (.cmp .NotEq (.bi .len (.cons (.v 1) .nil)) (.op .Add (.bi .len (.cons (.v 4) .nil)) (.c (.int 1)))))=.ok false:=by have hi:bU .Is (.tup (s.form.map D.str)) .non=some false:=rfl;have M:(((s.form.length:Int)+1==(s.form.length:Int)+1))=true:=beq_self_eq_true _;simp only[dX,bT,eV,aI,nF,kT,aF,aZ,bH,gS,gZ,q,bX,aA,cJ,hi,bF,if_false,jA,l,lM,add_int,qQ,gJ,M,DA,Bh]
 have t3:tst P (call P n) [.sh true (.str "cond"),.sh true (.tup (.str s.word::s.rest)),.sh true (.bl pl),.sh false (.str s.word),.sh false (.tup (s.form.map D.str))] (.an (.v 2) (.cmp .Eq (.v 3) (.c (.str "after"))))=.ok false:=by simp only[qN,aHt,bT,eV,aI,bH,gS,gZ,mQ,bX,aA,vB,cJ,eJ,fN,s.notAfter];cases pl <;> rfl
 refine aQ (F:=fForm) hF rfl (v:=.cl (.tup (s.form.map D.str))) ?_;have L:=s.look;show exs P (call P n) [.sh true (.str "cond"),.sh true (.tup (.str s.word::s.rest)),.sh true (.bl pl),.dead,.dead] fForm.body=_;unfold fForm;simp only[aX,cU,cD,W,aT,bF,if_false,rM,dI,dW,eV,aI,bH,gS,gZ,q,aA,B,fX,bY,fY,dG,lS,lZ,aAf,bT,oA,cJ,eJ,fN,U,yD,bX,I,L,Dw,t2,t3,nX,qL]
theorem jB{P:Pg}{W:Caller}{s0 s1 U s4 s6 s7:Sl}(s:Cn):walk P W [s0,s1,.sh true s.d,U,s4,.sh false (.tup (s.form.map D.str)),s6,s7] (.zip (.v 5) (.sli (.v 2) (.cons (.c (.int 1)) .nil) .nil)) =
 .ok ((s.form.zip s.rest).map λp=>gB p.1 p.2,[]):=by
 have B:=cM 2 true s.noL;have M:aJ 1=true:=by decide
 have q:noLs (.str s.word::s.rest)=true:=by simp[noLs,Hp.noL,s.rest_noL]
 have l:cut (.str s.word::s.rest) (some 1) none=s.rest:=by cases s <;> rfl
 have hs:dM (.cl (.tup (.str s.word::s.rest))) (some 1) none=.ok (.cl (.tup s.rest)):=by unfold dM;simp only[cJ,l,yC,Fi,q,if_true];rfl
 have two:∀(w:Str) {a b:D},Hp.noL a=true->Hp.noL b=true->items ⟨.non,false,false,[]⟩ (gQ ([w,w].map D.str) [a,b])=[gB w a,gB w b]:=λw a b G I=>by
  show [Vl.sub _ (.tup [.str w,a]),Vl.sub _ (.tup [.str w,b])]=[gB w a,gB w b]
  rw[cA (by simp[Hp.noL,noLs,G]),cA (by simp[Hp.noL,noLs,I])];rfl
 have L:items ⟨.non,false,false,[]⟩ (gQ (s.form.map D.str) s.rest)=(s.form.zip s.rest).map λp=>gB p.1 p.2:=by
  cases s with
  | yes=>rfl|cmp _ a b=>exact two _ a.noL b.noL|nt x=>
   show [Vl.sub _ (.tup [.str "cond",x.d])]=[gB "cond" x.d]
   rw[cA (by simp[Hp.noL,noLs,x.noL])];rfl
  | two p a b=>exact two _ a.noL b.noL
 rw[s.d_eq] at B ⊢;simp only[xZ,eV,aBp,aI,bH,gS,gZ,B,bX,aA,cJ,M,nE,hs,jC,yC,KH,fX,AV];rw[L]
theorem aOp:(("cond" : Str) == "sum")=false:=by decide +kernel
theorem aOq:(("cond" : Str) == "cond")=true:=by decide +kernel
theorem mU{P:Pg}{ch lo M:Nat}{bs:List D}{s1 s2 q:Sl}{pl:Bool}{m l:Int}{d:D}(B:call P M lo [.lst bs,.str "cond",d,.bl pl,.int m]=.ok (.int l,false,false)) :
 exs P (call P M) [.sh true (.lst bs),s1,s2,.sh true (.bl pl),.sh false (.int m),q,.sh false (.str "cond"),.sh false d] (cS ch lo)=.next [.sh true (.lst bs),s1,s2,.sh true (.bl pl),.sh false (.int l),q,.sh false (.str "cond"),.sh false d]:=by simp only[cS,aX,cU,cD,dX,bT,eV,aI,bH,gS,gZ,bX,aA,cJ,eJ,fN,aOp,aOq,bF,if_false,if_true,aT,dI,dD,aF,aZ,oD,mQ,mC,mN,B,jX,fX,bY,fY,dG,lS,lZ,rM]
section
variable {P:Pg} {wh wi ch fo lo:Nat} (hW:P.fns[wh]? = some fWhole) (hI:P.fns[wi]? = some (fWithin wh)) (hC:P.fns[ch]? = some (fCheck wi)) (hO:P.fns[fo]? = some fForm) (hT:P.tabs[0]? = some sumTab) (hU:P.tabs[1]? = some condTab) (hL:P.fns[lo]? = some (fLook fo ch lo))
include hW hI hC hO hT hU hL
theorem lD{m:Nat}{bs:List D}{s:Cn}{pl:Bool}{l r:Int}{s6 s7:Sl}(hs:l<40)
 (q:ex P (call P (m+1)) [.sh true (.lst bs),.sh true (.str "cond"),.sh true s.d,.sh true (.bl pl),.sh false (.int (l+1)),.sh false (.tup (s.form.map D.str)),.dead,.dead] (.for (.t [6,7]) (.zip (.v 5) (.sli (.v 2) (.cons (.c (.int 1)) .nil) .nil)) (cS ch lo)) =
  .next [.sh true (.lst bs),.sh true (.str "cond"),.sh true s.d,.sh true (.bl pl),.sh false (.int r),.sh false (.tup (s.form.map D.str)),s6,s7]) :
 call P (m+2) lo [.lst bs,.str "cond",s.d,.bl pl,.int l]=.ok (.int r,false,false):=by
 have G:=aEw hO hU m s (pl:=pl);have I:=cM 2 true s.noL;have B:(l==40)=false:=beq_eq_false_iff_ne.mpr (by omega);refine aQ (F:=fLook fo ch lo) hL rfl (v:=.cl (.int r)) ?_;show exs P (call P (m+1)) [.sh true (.lst bs),.sh true (.str "cond"),.sh true s.d,.sh true (.bl pl),.sh true (.int l),.dead,.dead,.dead] (.cons (.iff (.cmp .Eq (.v 4) (.c (.int 40)))
  (.cons (.rse 2 false (.cons (.c (.str "a condition or sum has at most forty parts")) .nil))
  .nil)
  .nil)
 (.cons (.set (.n 4) (.op .Add (.v 4) (.c (.int 1))))
 (.cons (.set (.n 5) (.call fo (.cons (.v 1) (.cons (.v 2) (.cons (.v 3) .nil)))))
 (.cons (.for (.t [6,7]) (.zip (.v 5) (.sli (.v 2) (.cons (.c (.int 1)) .nil) .nil)) (cS ch lo))
 (.cons (.retv 4)
 .nil)))))=_
 simp only[aX,cU,cD,bT,eV,aI,bH,gS,gZ,nZ,aA,cJ,eJ,gJ,B,bF,if_false,aT,rM,dI,kT,add_int,fX,bY,fY,dG,lS,lZ,dD,aF,aZ,oA,I,mQ,mC,mN,G,jX,q,nX,qL]
theorem lE{bs:List D}{c:Nat}(W:bs.length=c){pl:Bool}:∀(s:Cn) (n:Nat) (l:Int),s.wf c pl->l+s.sz<=40->call P (n+3+s.sz) lo [.lst bs,.str "cond",s.d,.bl pl,.int l]=.ok (.int (l+s.sz),false,false)
 | .yes,n,l,w,h=>by have h:l+1<=40:=h;refine lD hW hI hC hO hT hU hL (m:=n+2) (s:=.yes) (s6:=.dead) (s7:=.dead) (by omega) ?_;rw[iE,jB,aT];rfl|.cmp i a b,n,l,w,h=>by
  have h:l+((1+a.sz+b.sz:Nat):Int)<=40:=h;obtain⟨w1,w2⟩:a.wf c pl/\b.wf c pl:=w;have pa:=a.sz_pos;have q:=kX hW hI hC hO hT hL W a (n+b.sz) (l+1) w1 (by omega);have B:=kX hW hI hC hO hT hL W b (n+a.sz) (l+1+a.sz) w2 (by omega);have G:n+b.sz+3+a.sz=n+2+a.sz+b.sz+1:=by omega
  have e2:n+a.sz+3+b.sz=n+2+a.sz+b.sz+1:=by omega
  rw[G] at q;rw[e2] at B;have I:n+3+Cn.sz (.cmp i a b)=n+2+a.sz+b.sz+2:=by show n+3+(1+a.sz+b.sz)=_;omega
  have L:l+((Cn.sz (.cmp i a b):Nat):Int)=l+1+a.sz+b.sz:=by show l+((1+a.sz+b.sz:Nat):Int)=_;omega
  rw[I,L];refine lD hW hI hC hO hT hU hL (m:=n+2+a.sz+b.sz) (s6:=.sh false (.str "sum")) (s7:=.sh false b.d) (by omega) ?_;rw[iE,jB,aT];have M:(Cn.cmp i a b).form=[("sum" : Str),("sum" : Str)]:=rfl;have U:(Cn.cmp i a b).rest=[a.d,b.d]:=rfl;simp only[M,U,AE,BN,mC,mN,bY,cY,nH a.noL,nH b.noL,aT,kW q,kW B]
 | .nt x,n,l,w,h=>by
  have h:l+((1+x.sz:Nat):Int)<=40:=h;have pa:=x.sz_pos;have q:=lE W x n (l+1) w (by omega);have G:n+3+x.sz=n+2+x.sz+1:=by omega
  rw[G] at q;have I:n+3+Cn.sz (.nt x)=n+2+x.sz+2:=by show n+3+(1+x.sz)=_;omega
  have L:l+((Cn.sz (.nt x):Nat):Int)=l+1+x.sz:=by show l+((1+x.sz:Nat):Int)=_;omega
  rw[I,L];refine lD hW hI hC hO hT hU hL (m:=n+2+x.sz) (s6:=.sh false (.str "cond")) (s7:=.sh false x.d) (by omega) ?_;rw[iE,jB,aT];have M:(Cn.nt x).form=[("cond" : Str)]:=rfl;have U:(Cn.nt x).rest=[x.d]:=rfl;simp only[M,U,AE,BN,mC,mN,bY,cY,nH x.noL,aT,mU q]
 | .two p a b,n,l,w,h=>by
  have h:l+((1+a.sz+b.sz:Nat):Int)<=40:=h;obtain⟨w1,w2⟩:a.wf c pl/\b.wf c pl:=w;have pa:=a.sz_pos;have q:=lE W a (n+b.sz) (l+1) w1 (by omega);have B:=lE W b (n+a.sz) (l+1+a.sz) w2 (by omega);have G:n+b.sz+3+a.sz=n+2+a.sz+b.sz+1:=by omega
  have e2:n+a.sz+3+b.sz=n+2+a.sz+b.sz+1:=by omega
  rw[G] at q;rw[e2] at B;have I:n+3+Cn.sz (.two p a b)=n+2+a.sz+b.sz+2:=by show n+3+(1+a.sz+b.sz)=_;omega
  have L:l+((Cn.sz (.two p a b):Nat):Int)=l+1+a.sz+b.sz:=by show l+((1+a.sz+b.sz:Nat):Int)=_;omega
  rw[I,L];refine lD hW hI hC hO hT hU hL (m:=n+2+a.sz+b.sz) (s6:=.sh false (.str "cond")) (s7:=.sh false b.d) (by omega) ?_;rw[iE,jB,aT];have M:(Cn.two p a b).form=[("cond" : Str),("cond" : Str)]:=rfl;have U:(Cn.two p a b).rest=[a.d,b.d]:=rfl;simp only[M,U,AE,BN,mC,mN,bY,cY,nH a.noL,nH b.noL,aT,mU q,mU B]
end
end HpS
namespace K32
open Hp
noncomputable def f0:Hp.Fn:=⟨3,6,
 (.cons (.set (.n 3) (.idx (.v 0) (.c (.int 0))))
 (.cons (.iff (.cmp .Eq (.v 3) (.c (.str "number")))
  (.cons (.ret (.idx (.v 0) (.c (.int 1))))
  .nil)
  .nil)
 (.cons (.iff (.cmp .Eq (.v 3) (.c (.str "box")))
  (.cons (.ret (.idx (.v 1) (.idx (.v 0) (.c (.int 1)))))
  .nil)
  .nil)
 (.cons (.iff (.cmp .Eq (.v 3) (.c (.str "after")))
  (.cons (.ret (.idx (.v 2) (.idx (.v 0) (.c (.int 1)))))
  .nil)
  .nil)
 (.cons (.set (.n 4) (.call 0 (.cons (.idx (.v 0) (.c (.int 1))) (.cons (.v 1) (.cons (.v 2) .nil)))))
 (.cons (.set (.n 5) (.call 0 (.cons (.idx (.v 0) (.c (.int 2))) (.cons (.v 1) (.cons (.v 2) .nil)))))
 (.cons (.ret (.ife (.cmp .Eq (.v 3) (.c (.str "plus"))) (.op .Add (.v 4) (.v 5)) (.op .Sub (.v 4) (.v 5))))
 .nil)))))))⟩
noncomputable def f1:Hp.Fn:=⟨3,6,
 (.cons (.set (.n 3) (.idx (.v 0) (.c (.int 0))))
 (.cons (.iff (.cmp .Eq (.v 3) (.c (.str "yes")))
  (.cons (.ret (.c (.bl true)))
  .nil)
  .nil)
 (.cons (.iff (.cmp .Eq (.v 3) (.c (.str "not")))
  (.cons (.ret (.nt (.call 1 (.cons (.idx (.v 0) (.c (.int 1))) (.cons (.v 1) (.cons (.v 2) .nil))))))
  .nil)
  .nil)
 (.cons (.iff (.cmp .Eq (.v 3) (.c (.str "both")))
  (.cons (.ret (.an (.call 1 (.cons (.idx (.v 0) (.c (.int 1))) (.cons (.v 1) (.cons (.v 2) .nil)))) (.call 1 (.cons (.idx (.v 0) (.c (.int 2))) (.cons (.v 1) (.cons (.v 2) .nil))))))
  .nil)
  .nil)
 (.cons (.iff (.cmp .Eq (.v 3) (.c (.str "either")))
  (.cons (.ret (.orr (.call 1 (.cons (.idx (.v 0) (.c (.int 1))) (.cons (.v 1) (.cons (.v 2) .nil)))) (.call 1 (.cons (.idx (.v 0) (.c (.int 2))) (.cons (.v 1) (.cons (.v 2) .nil))))))
  .nil)
  .nil)
 (.cons (.set (.n 4) (.call 0 (.cons (.idx (.v 0) (.c (.int 1))) (.cons (.v 1) (.cons (.v 2) .nil)))))
 (.cons (.set (.n 5) (.call 0 (.cons (.idx (.v 0) (.c (.int 2))) (.cons (.v 1) (.cons (.v 2) .nil)))))
 (.cons (.ret (.ife (.cmp .Eq (.v 3) (.c (.str "is"))) (.cmp .Eq (.v 4) (.v 5)) (.cmp .Lt (.v 4) (.v 5))))
 .nil))))))))⟩
noncomputable def f2:Hp.Fn:=⟨3,7,
 (.cons (.iff (.nt (.call 1 (.cons (.idx (.v 1) (.c (.int 0))) (.cons (.v 2) (.cons (.c .non) .nil)))))
  (.cons (.ret (.c .non))
  .nil)
  .nil)
 (.cons (.set (.n 3) (.bi .list (.cons (.v 2) .nil)))
 (.cons (.for (.t [4,5]) (.seq (.idx (.v 1) (.c (.int 1))))
  (.cons (.set (.n 6) (.call 0 (.cons (.v 5) (.cons (.v 2) (.cons (.c .non) .nil)))))
  (.cons (.iff (.nt (.cmp2 .LtE .LtE (.c (.int 0)) (.v 6) (.idx (.idx (.v 0) (.v 4)) (.c (.int 1)))))
   (.cons (.ret (.c .non))
   .nil)
   .nil)
  (.cons (.setIx 3 (.v 4) (.v 6))
  .nil))))
 (.cons (.ret (.bi .tuple (.cons (.v 3) .nil)))
 .nil))))⟩
noncomputable def f3:Hp.Fn:=⟨2,7,
 (.cons (.set (.n 2) (.call 7 (.cons (.v 0) .nil)))
 (.cons (.set (.n 3) (.lst .nil))
 (.cons (.for (.n 4) (.seq (.v 1))
  (.cons (.for (.n 5) (.seq (.v 4))
   (.cons (.set (.n 6) (.comp 1 [0,5] (.n 0) (.seq (.v 2)) .nil (.tup (.cons (.v 0) (.cons (.call 2 (.cons (.v 1) (.cons (.v 2) (.cons (.v 0) .nil)))) .nil)))))
   (.cons (.ext 3 (.comp 1 [] (.n 0) (.seq (.v 6)) (.cons (.call 4 (.cons (.v 0) .nil)) .nil) (.v 0)))
   .nil)))
  .nil))
 (.cons (.ret (.sst (.v 3)))
 .nil))))⟩
noncomputable def f4:Hp.Fn:=⟨1,1,
 (.cons (.ret (.an (.cmp .IsNot (.idx (.v 0) (.c (.int 1))) (.c .non)) (.cmp .NotEq (.idx (.v 0) (.c (.int 0))) (.idx (.v 0) (.c (.int 1))))))
 .nil)⟩
noncomputable def f5:Hp.Fn:=⟨2,5,
 (.cons (.set (.n 2) (.lst .nil))
 (.cons (.set (.n 3) (.op .Add (.op .Mod (.v 0) (.c (.int 2147483647))) (.c (.int 48271))))
 (.cons (.for (.n 4) (.rng (.c (.int 0)) (.op .Add (.v 1) (.c (.int 1))))
  (.cons (.set (.n 3) (.op .Mod (.op .Add (.op .Add (.op .Mult (.v 3) (.v 3)) (.op .Mult (.c (.int 48271)) (.v 3))) (.v 4)) (.c (.int 2147483647))))
  (.cons (.app 2 (.v 3))
  .nil)))
 (.cons (.ret (.sli (.v 2) (.cons (.c (.int 1)) .nil) .nil))
 .nil))))⟩
noncomputable def f6:Hp.Fn:=⟨1,2,
 (.cons (.set (.n 1) (.sli (.lst (.cons (.op .Add (.c (.int 1)) (.op .Mod (.idx (.v 0) (.c (.int 0))) (.c (.int 4)))) (.cons (.op .Add (.c (.int 1)) (.op .Mod (.idx (.v 0) (.c (.int 1))) (.c (.int 2)))) (.cons (.c (.int 1)) .nil)))) .nil (.cons (.op .Add (.c (.int 1)) (.op .Mod (.idx (.v 0) (.c (.int 2))) (.c (.int 3)))) .nil)))
 (.cons (.iff (.an (.cmp .Eq (.bi .len (.cons (.v 1) .nil)) (.c (.int 3))) (.cmp .Gt (.op .Mult (.idx (.v 1) (.c (.int 0))) (.idx (.v 1) (.c (.int 1)))) (.c (.int 6))))
  (.cons (.pop none 1 none)
  .nil)
  .nil)
 (.cons (.iff (.cmp .Eq (.op .Mod (.op .FloorDiv (.idx (.v 0) (.c (.int 0))) (.c (.int 4))) (.c (.int 5))) (.c (.int 0)))
  (.cons (.set (.n 1) (.idx (.lst (.cons (.lst (.cons (.c (.int 7)) (.cons (.c (.int 2)) .nil))) (.cons (.lst (.cons (.c (.int 2)) (.cons (.c (.int 1)) (.cons (.c (.int 1)) (.cons (.c (.int 1)) .nil))))) (.cons (.lst (.cons (.c (.int 1)) (.cons (.c (.int 1)) (.cons (.c (.int 1)) (.cons (.c (.int 2)) .nil))))) (.cons (.lst (.cons (.c (.int 5)) (.cons (.c (.int 3)) .nil))) .nil))))) (.op .Mod (.op .FloorDiv (.idx (.v 0) (.c (.int 1))) (.c (.int 2))) (.c (.int 4)))))
  .nil)
  .nil)
 (.cons (.ret (.comp 1 [1] (.n 0) (.rng (.c (.int 0)) (.bi .len (.cons (.v 1) .nil))) .nil (.tup (.cons (.idx (.c (.str "abcd")) (.v 0)) (.cons (.idx (.v 1) (.v 0)) .nil)))))
 .nil))))⟩
noncomputable def f7:Hp.Fn:=⟨1,6,
 (.cons (.set (.n 1) (.lst (.cons (.tup .nil) .nil)))
 (.cons (.for (.t [2,3]) (.seq (.v 0))
  (.cons (.set (.n 4) (.lst .nil))
  (.cons (.for (.n 5) (.seq (.v 1))
   (.cons (.ext 4 (.comp 1 [5] (.n 0) (.rng (.c (.int 0)) (.op .Add (.v 3) (.c (.int 1)))) .nil (.op .Add (.v 1) (.tup (.cons (.v 0) .nil)))))
   .nil))
  (.cons (.mov 1 4)
  .nil))))
 (.cons (.retv 1)
 .nil)))⟩
noncomputable def f8:Hp.Fn:=⟨2,5,
 (.cons (.set (.n 2) (.tup (.cons (.c (.str "box")) (.cons (.op .Mod (.idx (.v 0) (.c (.int 0))) (.bi .len (.cons (.v 1) .nil))) .nil))))
 (.cons (.set (.n 3) (.tup (.cons (.c (.str "box")) (.cons (.op .Mod (.idx (.v 0) (.c (.int 1))) (.bi .len (.cons (.v 1) .nil))) .nil))))
 (.cons (.iff (.cmp .Eq (.op .Mod (.idx (.v 0) (.c (.int 2))) (.c (.int 2))) (.c (.int 0)))
  (.cons (.set (.n 3) (.tup (.cons (.c (.str "number")) (.cons (.op .Mod (.idx (.v 0) (.c (.int 1))) (.c (.int 4))) .nil))))
  .nil)
  .nil)
 (.cons (.set (.n 4) (.tup (.cons (.idx (.lst (.cons (.c (.str "is")) (.cons (.c (.str "less")) .nil))) (.op .Mod (.op .FloorDiv (.idx (.v 0) (.c (.int 2))) (.c (.int 2))) (.c (.int 2)))) (.cons (.v 2) (.cons (.v 3) .nil)))))
 (.cons (.ret (.idx (.lst (.cons (.tup (.cons (.c (.str "yes")) .nil)) (.cons (.v 4) (.cons (.tup (.cons (.c (.str "not")) (.cons (.v 4) .nil))) .nil)))) (.op .Mod (.idx (.v 0) (.c (.int 3))) (.c (.int 3)))))
 .nil)))))⟩
noncomputable def f9:Hp.Fn:=⟨3,5,
 (.cons (.set (.n 3) (.tup (.cons (.c (.str "box")) (.cons (.op .Mod (.idx (.v 0) (.c (.int 0))) (.bi .len (.cons (.v 1) .nil))) .nil))))
 (.cons (.set (.n 4) (.lst (.cons (.tup (.cons (.c (.str "number")) (.cons (.op .Mod (.idx (.v 0) (.c (.int 1))) (.c (.int 4))) .nil))) (.cons (.v 3) (.cons (.tup (.cons (.c (.str "plus")) (.cons (.v 3) (.cons (.tup (.cons (.c (.str "number")) (.cons (.c (.int 1)) .nil))) .nil)))) .nil)))))
 (.cons (.set (.n 4) (.op .Add (.v 4) (.lst (.cons (.tup (.cons (.c (.str "minus")) (.cons (.v 3) (.cons (.tup (.cons (.c (.str "number")) (.cons (.c (.int 1)) .nil))) .nil)))) .nil))))
 (.cons (.set (.n 4) (.op .Add (.v 4) (.lst (.cons (.tup (.cons (.c (.str "minus")) (.cons (.tup (.cons (.c (.str "number")) (.cons (.idx (.idx (.v 1) (.v 2)) (.c (.int 1))) .nil))) (.cons (.tup (.cons (.c (.str "box")) (.cons (.v 2) .nil))) .nil)))) .nil))))
 (.cons (.ret (.idx (.v 4) (.op .Mod (.idx (.v 0) (.c (.int 2))) (.c (.int 5)))))
 .nil)))))⟩
noncomputable def f10:Hp.Fn:=⟨3,7,
 (.cons (.set (.n 3) (.call 5 (.cons (.v 0) (.cons (.c (.int 14)) .nil))))
 (.cons (.set (.n 4) (.lst .nil))
 (.cons (.for (.n 5) (.rng (.c (.int 0)) (.op .Mod (.idx (.v 3) (.c (.int 4))) (.c (.int 3))))
  (.cons (.set (.n 6) (.op .Mod (.idx (.v 3) (.op .Add (.c (.int 5)) (.v 5))) (.bi .len (.cons (.v 1) .nil))))
  (.cons (.iff (.orr (.cmp .Eq (.bi .len (.cons (.v 4) .nil)) (.c (.int 0))) (.cmp .Lt (.idx (.idx (.v 4) (.neg (.c (.int 1)))) (.c (.int 0))) (.v 6)))
   (.cons (.app 4 (.tup (.cons (.v 6) (.cons (.call 9 (.cons (.sli (.v 3) (.cons (.op .Add (.c (.int 7)) (.op .Mult (.c (.int 3)) (.v 5))) .nil) (.cons (.op .Add (.c (.int 10)) (.op .Mult (.c (.int 3)) (.v 5))) .nil)) (.cons (.v 1) (.cons (.v 6) .nil)))) .nil))))
   .nil)
   .nil)
  .nil)))
 (.cons (.ret (.tup (.cons (.call 8 (.cons (.sli (.v 3) .nil (.cons (.c (.int 4)) .nil)) (.cons (.v 1) .nil))) (.cons (.bi .tuple (.cons (.v 4) .nil)) (.cons (.op .Mod (.idx (.v 3) (.c (.int 13))) (.v 2)) .nil)))))
 .nil))))⟩
noncomputable def f11:Hp.Fn:=⟨3,9,
 (.cons (.set (.n 3) (.op .Mod (.idx (.v 1) (.c (.int 3))) (.c (.int 9))))
 (.cons (.set (.n 4) (.lst .nil))
 (.cons (.for (.n 5) (.rng (.c (.int 0)) (.v 3))
  (.cons (.set (.n 6) (.lst .nil))
  (.cons (.for (.n 7) (.rng (.c (.int 0)) (.op .Add (.c (.int 1)) (.op .Mod (.idx (.v 1) (.op .Add (.c (.int 4)) (.v 5))) (.c (.int 4)))))
   (.cons (.set (.n 8) (.op .Add (.op .Add (.idx (.v 1) (.c (.int 12))) (.op .Mult (.c (.int 31)) (.v 5))) (.v 7)))
   (.cons (.iff (.cmp .Lt (.op .Add (.op .Add (.c (.int 1)) (.op .Mult (.c (.int 4)) (.v 5))) (.v 7)) (.bi .len (.cons (.v 0) .nil)))
    (.cons (.set (.n 8) (.idx (.v 0) (.op .Add (.op .Add (.c (.int 1)) (.op .Mult (.c (.int 4)) (.v 5))) (.v 7))))
    .nil)
    .nil)
   (.cons (.app 6 (.call 10 (.cons (.v 8) (.cons (.v 2) (.cons (.op .Add (.v 3) (.c (.int 1))) .nil)))))
   .nil))))
  (.cons (.app 4 (.v 6))
  .nil))))
 (.cons (.retv 4)
 .nil))))⟩
noncomputable def f12:Hp.Fn:=⟨2,7,
 (.cons (.dnew 2)
 (.cons (.for (.n 3) (.seq (.call 7 (.cons (.v 0) .nil)))
  (.cons (.for (.n 4) (.seq (.v 1))
   (.cons (.for (.n 5) (.seq (.v 4))
    (.cons (.set (.n 6) (.call 2 (.cons (.v 0) (.cons (.v 5) (.cons (.v 3) .nil)))))
    (.cons (.iff (.an (.cmp .IsNot (.v 6) (.c .non)) (.cmp .NotEq (.v 6) (.v 3)))
     (.cons (.dput 2 (.tup (.cons (.v 3) (.cons (.v 6) .nil))))
     .nil)
     .nil)
    .nil)))
   .nil))
  .nil))
 (.cons (.ret (.srtD 2))
 .nil)))⟩
noncomputable def f13:Hp.Fn:=⟨2,3,
 (.cons (.iff (.orr (.nt (.isi (.v 0) [.tList])) (.cmp .NotEq (.v 0) (.v 1)))
  (.cons (.ret (.c (.bl false)))
  .nil)
  .nil)
 (.cons (.for (.n 2) (.seq (.v 0))
  (.cons (.iff (.orr (.nt (.isi (.v 2) [.tTuple])) (.nt (.isi (.idx (.v 2) (.c (.int 0))) [.tTuple])))
   (.cons (.ret (.c (.bl false)))
   .nil)
   .nil)
  (.cons (.iff (.nt (.isi (.idx (.v 2) (.c (.int 1))) [.tTuple]))
   (.cons (.ret (.c (.bl false)))
   .nil)
   .nil)
  .nil)))
 (.cons (.ret (.c (.bl true)))
 .nil)))⟩
noncomputable def f14:Hp.Fn:=⟨1,1,
 (.cons (.ret (.an (.isi (.v 0) [.tInt]) (.nt (.isi (.v 0) [.tBool]))))
 .nil)⟩
noncomputable def f15:Hp.Fn:=⟨3,3,
 (.cons (.ret (.an (.call 14 (.cons (.v 0) .nil)) (.cmp2 .LtE .LtE (.v 1) (.v 0) (.v 2))))
 .nil)⟩
noncomputable def f16:Hp.Fn:=⟨3,3,
 (.cons (.ex (.call 18 (.cons (.v 0) (.cons (.c (.str "sum")) (.cons (.v 1) (.cons (.v 2) (.cons (.c (.int 0)) .nil)))))))
 (.cons (.retv 1)
 .nil))⟩
noncomputable def f17:Hp.Fn:=⟨3,3,
 (.cons (.ex (.call 18 (.cons (.v 0) (.cons (.c (.str "cond")) (.cons (.v 1) (.cons (.v 2) (.cons (.c (.int 0)) .nil)))))))
 (.cons (.retv 1)
 .nil))⟩
noncomputable def f18:Hp.Fn:=⟨5,8,
 (.cons (.iff (.cmp .Eq (.v 4) (.c (.int 40)))
  (.cons (.rse 2 false (.cons (.c (.str "a condition or sum has at most forty parts")) .nil))
  .nil)
  .nil)
 (.cons (.set (.n 4) (.op .Add (.v 4) (.c (.int 1))))
 (.cons (.set (.n 5) (.call 19 (.cons (.v 1) (.cons (.v 2) (.cons (.v 3) .nil)))))
 (.cons (.for (.t [6,7]) (.zip (.v 5) (.sli (.v 2) (.cons (.c (.int 1)) .nil) .nil))
  (.cons (.iff (.orr (.cmp .Eq (.v 6) (.c (.str "sum"))) (.cmp .Eq (.v 6) (.c (.str "cond"))))
   (.cons (.set (.n 4) (.call 18 (.cons (.v 0) (.cons (.v 6) (.cons (.v 7) (.cons (.v 3) (.cons (.v 4) .nil)))))))
   .nil)
   (.cons (.ex (.call 20 (.cons (.v 0) (.cons (.v 6) (.cons (.v 7) .nil)))))
   .nil))
  .nil))
 (.cons (.retv 4)
 .nil)))))⟩
noncomputable def f19:Hp.Fn:=⟨3,5,
 (.cons (.iff (.orr (.nt (.isi (.v 1) [.tTuple])) (.orr (.cmp .Eq (.bi .len (.cons (.v 1) .nil)) (.c (.int 0))) (.nt (.isi (.idx (.v 1) (.c (.int 0))) [.tStr]))))
  (.cons (.rse 1 false (.cons (.c (.str "a part is a tuple that begins with a word")) .nil))
  .nil)
  .nil)
 (.cons (.set (.n 3) (.idx (.v 1) (.c (.int 0))))
 (.cons (.set (.n 4) (.ife (.cmp .Eq (.v 0) (.c (.str "sum"))) (.tget 0 (.v 3)) (.tget 1 (.v 3))))
 (.cons (.iff (.orr (.cmp .Is (.v 4) (.c .non)) (.cmp .NotEq (.bi .len (.cons (.v 1) .nil)) (.op .Add (.bi .len (.cons (.v 4) .nil)) (.c (.int 1)))))
  (.cons (.rse 1 false (.cons (.c (.str "a part has a word that is due there, and as many things as go with it")) .nil))
  .nil)
  .nil)
 (.cons (.iff (.an (.v 2) (.cmp .Eq (.v 3) (.c (.str "after"))))
  (.cons (.rse 1 false (.cons (.c (.str "no after stands where a plain one is due")) .nil))
  .nil)
  .nil)
 (.cons (.retv 4)
 .nil))))))⟩
noncomputable def f20:Hp.Fn:=⟨3,4,
 (.cons (.set (.n 3) (.ife (.cmp .Eq (.v 1) (.c (.str "number"))) (.c (.int 99)) (.op .Sub (.bi .len (.cons (.v 0) .nil)) (.c (.int 1)))))
 (.cons (.iff (.nt (.call 15 (.cons (.v 2) (.cons (.c (.int 0)) (.cons (.v 3) .nil)))))
  (.cons (.rse 1 false (.cons (.c (.str "a number is a whole one from 0 to 99, a box the number of one")) .nil))
  .nil)
  .nil)
 .nil))⟩
noncomputable def f21:Hp.Fn:=⟨2,2,
 (.cons (.iff (.orr (.nt (.isi (.v 1) [.tList])) (.cmp .Gt (.bi .len (.cons (.v 1) .nil)) (.c (.int 8))))
  (.cons (.rse 3 false (.cons (.c (.str "a hand is a list of none to eight rows")) .nil))
  .nil)
  .nil)
 (.cons (.ret (.comp 1 [0,1] (.n 0) (.seq (.v 1)) .nil (.call 22 (.cons (.v 1) (.cons (.v 0) (.cons (.bi .len (.cons (.v 2) .nil)) .nil))))))
 .nil))⟩
noncomputable def f22:Hp.Fn:=⟨3,3,
 (.cons (.iff (.orr (.nt (.isi (.v 1) [.tList])) (.nt (.cmp2 .LtE .LtE (.c (.int 1)) (.bi .len (.cons (.v 1) .nil)) (.c (.int 4)))))
  (.cons (.rse 3 false (.cons (.c (.str "a row is a list of one to four ways")) .nil))
  .nil)
  .nil)
 (.cons (.ret (.comp 1 [0,2] (.n 0) (.seq (.v 1)) .nil (.call 23 (.cons (.v 1) (.cons (.v 0) (.cons (.v 2) .nil))))))
 .nil))⟩
noncomputable def f23:Hp.Fn:=⟨3,3,
 (.cons (.iff (.orr (.nt (.isi (.v 1) [.tTuple])) (.cmp .NotEq (.bi .len (.cons (.v 1) .nil)) (.c (.int 3))))
  (.cons (.rse 3 false (.cons (.c (.str "a way is a tuple (guard, puts, next)")) .nil))
  .nil)
  .nil)
 (.cons (.ex (.call 24 (.cons (.v 0) (.cons (.idx (.v 1) (.c (.int 0))) .nil))))
 (.cons (.ex (.call 25 (.cons (.v 0) (.cons (.idx (.v 1) (.c (.int 1))) .nil))))
 (.cons (.iff (.nt (.call 15 (.cons (.idx (.v 1) (.c (.int 2))) (.cons (.c (.int 0)) (.cons (.v 2) .nil)))))
  (.cons (.rse 3 false (.cons (.c (.str "a way's next is a place of the hand")) .nil))
  .nil)
  .nil)
 (.cons (.retv 1)
 .nil)))))⟩
noncomputable def f24:Hp.Fn:=⟨2,2,
 (.cons (.tryN (.cons (.ex (.call 17 (.cons (.v 0) (.cons (.v 1) (.cons (.c (.bl true)) .nil)))))
  .nil))
 .nil)⟩
noncomputable def f25:Hp.Fn:=⟨2,4,
 (.cons (.iff (.nt (.isi (.v 1) [.tTuple]))
  (.cons (.rse 3 false (.cons (.c (.str "puts are a tuple")) .nil))
  .nil)
  .nil)
 (.cons (.set (.n 2) (.c (.int 0)))
 (.cons (.for (.n 3) (.seq (.v 1))
  (.cons (.ex (.call 26 (.cons (.v 0) (.cons (.v 3) (.cons (.v 2) .nil)))))
  (.cons (.set (.n 2) (.op .Add (.idx (.v 3) (.c (.int 0))) (.c (.int 1))))
  .nil)))
 .nil)))⟩
noncomputable def f26:Hp.Fn:=⟨3,3,
 (.cons (.iff (.orr (.nt (.isi (.v 1) [.tTuple])) (.cmp .NotEq (.bi .len (.cons (.v 1) .nil)) (.c (.int 2))))
  (.cons (.rse 3 false (.cons (.c (.str "a put is a tuple (box, sum)")) .nil))
  .nil)
  .nil)
 (.cons (.iff (.nt (.call 15 (.cons (.idx (.v 1) (.c (.int 0))) (.cons (.v 2) (.cons (.op .Sub (.bi .len (.cons (.v 0) .nil)) (.c (.int 1))) .nil)))))
  (.cons (.rse 3 false (.cons (.c (.str "puts are of the boxes' numbers, rising, each once")) .nil))
  .nil)
  .nil)
 (.cons (.tryN (.cons (.ex (.call 16 (.cons (.v 0) (.cons (.idx (.v 1) (.c (.int 1))) (.cons (.c (.bl true)) .nil)))))
  .nil))
 .nil)))⟩
noncomputable def f27:Hp.Fn:=⟨1,10,
 (.cons (.set (.n 1) (.call 5 (.cons (.idx (.op .Add (.v 0) (.lst (.cons (.c (.int 0)) .nil))) (.c (.int 0))) (.cons (.c (.int 13)) .nil))))
 (.cons (.set (.n 2) (.call 6 (.cons (.v 1) .nil)))
 (.cons (.set (.n 3) (.call 21 (.cons (.v 2) (.cons (.call 11 (.cons (.v 0) (.cons (.v 1) (.cons (.v 2) .nil)))) .nil))))
 (.cons (.set (.n 4) (.comp 1 [] (.n 0) (.seq (.v 3)) .nil (.bi .list (.cons (.v 0) .nil))))
 (.cons (.set (.n 5) (.call 12 (.cons (.v 2) (.cons (.v 3) .nil))))
 (.cons (.set (.n 6) (.call 3 (.cons (.v 2) (.cons (.v 4) .nil))))
 (.cons (.iff (.orr (.nt (.call 13 (.cons (.v 6) (.cons (.v 5) .nil)))) (.cmp .NotEq (.v 4) (.v 3)))
  (.cons (.ret (.c (.bl false)))
  .nil)
  .nil)
 (.cons (.app 6 (.c .non))
 (.cons (.set (.n 7) (.lst .nil))
 (.cons (.for (.n 8) (.seq (.v 3))
  (.cons (.set (.n 9) (.comp 3 [] (.t [0,1,2]) (.seq (.v 8)) .nil (.tup (.cons (.v 0) (.cons (.v 1) (.cons (.c (.int 0)) .nil))))))
  (.cons (.set (.n 7) (.op .Add (.v 7) (.call 3 (.cons (.v 2) (.cons (.lst (.cons (.v 9) .nil)) .nil)))))
  .nil)))
 (.cons (.iff (.cmp .NotEq (.sst (.v 7)) (.v 5))
  (.cons (.ret (.c (.bl false)))
  .nil)
  .nil)
 (.cons (.ret (.call 13 (.cons (.call 3 (.cons (.v 2) (.cons (.rvs (.v 4)) .nil))) (.cons (.v 5) .nil))))
 .nil))))))))))))⟩
noncomputable def pg:Hp.Pg:=⟨[f0,f1,f2,f3,f4,f5,f6,f7,f8,f9,f10,f11,f12,f13,f14,f15,f16,f17,f18,f19,f20,f21,f22,f23,f24,f25,f26,f27],[[.own 0,.tValueError],[.own 1,.own 0,.tValueError],[.own 2,.own 0,.tValueError],[.own 3,.own 0,.tValueError]],[[("number",.tup [.str "number"]),("box",.tup [.str "box"]),("after",.tup [.str "box"]),("plus",.tup [.str "sum",.str "sum"]),("minus",.tup [.str "sum",.str "sum"])],[("yes",.tup []),("is",.tup [.str "sum",.str "sum"]),("less",.tup [.str "sum",.str "sum"]),("not",.tup [.str "cond"]),("both",.tup [.str "cond",.str "cond"]),("either",.tup [.str "cond",.str "cond"])]]⟩
end K32
namespace K32
open Hp HpS PySem
noncomputable def drp:Nat->Ss->Ss
 | 0,s=>s|n+1,.cons _ s=>drp n s|_+1,.nil=>.nil
noncomputable def hdS:Ss->S
 | .cons s _=>s|.nil=>.pass
structure Way where
 g:Cn
 ps:List (Nat×Sm)
 nx:Int
noncomputable def dP(p:Nat×Sm):D:=.tup [.int p.1,p.2.d]
noncomputable def Way.d(w:Way):D:=.tup [w.g.d,.tup (w.ps.map dP),.int w.nx]
noncomputable def Up(ps:List (Nat×Sm)):Prop:=ps.Pairwise λp q=>p.1<q.1
structure lG (m:Nat) (p:Nat×Sm):Prop where
 box:p.1<m
 wf:p.2.wf m true
 sz:p.2.sz<=3
structure fE (m:Nat) (w:Way):Prop where
 g:w.g.wf m true
 gs:w.g.sz<=31
 ps:∀p∈w.ps,lG m p
 up:Up w.ps
theorem oE(p:Nat×Sm):noL (dP p)=true:=vE rfl p.2.noL
theorem eX(ps:List (Nat×Sm)):noLs (ps.map dP)=true:=cK oE ps
theorem eO(w:Way):noL w.d=true:=by simp[Way.d,noL,noLs,w.g.noL,eX]
theorem aCl(ws:List Way):noLs (ws.map Way.d)=true:=cK eO ws
theorem aBt(i:Nat){ds:List D}(h:noLs ds=true):biD .tuple [⟨.lst ds,false,false,[i]⟩]=.ok (.cl (.tup ds)):=by show R.ok (Vl.mk (.tup ds) false (false&&!noLs ds) (if noLs ds=true then [] else [i]))=_;rw[h];rfl
theorem stp{P:Pg}{W:Caller}{Z Z':Sg}{s:S}{ss:Ss}(h:ex P W Z s=.next Z'):exs P W Z (.cons s ss)=exs P W Z' ss:=by rw[aX,h,rM]
noncomputable def jG(bs:List (Str×Int))(k:Nat):Int:=(bs.map (·.2)).getD k 0
noncomputable def putF(bs:List (Str×Int))(st:List Int):List Int->List (Nat×Sm)->Option (List Int)
 | acc,[]=>some acc|acc,p::ps=>if 0<=p.2.val st st/\p.2.val st st<=jG bs p.1 then putF bs st (acc.set p.1 (p.2.val st st)) ps else none
noncomputable def jH(bs:List (Str×Int))(w:Way)(st:List Int):Option (List Int):=if w.g.hold st st then putF bs st st w.ps else none
noncomputable def stD:Option (List Int)->D
 | none=>.non|some r=>aK r
theorem vH(o:Option (List Int)):noL (stD o)=true:=by cases o with|none=>rfl|some r=>exact bC r
theorem aJV{P:Pg}{W:Caller}{Z:Sg}{a b:E}{x y:Int}(l:ev P W Z a=.ok (.cl (.int x)))(q:ev P W Z b=.ok (.cl (.int y))):tst P W Z (.cmp2 .LtE .LtE (.c (.int 0)) a b)=.ok (decide (0<=x)&&decide (x<=y)):=by
 rw[xY,aI,aA,l,aA,cJ,cJ,aEr];cases decide (0<=x) with
 | true=>simp only[q,aA,cJ,aEr,Hy]|false=>rfl
theorem aBu{bs:List (Str×Int)}{k:Nat}(h:k<bs.length):∃b:D,noL b=true/\cP ⟨.lst (aB bs),false,true,[]⟩ (.cl (.int (k:Int)))=.ok (.cl b)/\cP (.cl b) (.cl (.int 1))=.ok (.cl (.int (jG bs k))):=by
 refine⟨box bs[k],uX _,?_,?_⟩;have l:(aB bs).length=bs.length:=by simp[aB]
 have e:(aB bs)[k]? = some (box bs[k]):=by simp[aB,h]
 unfold cP;simp only[cJ,l,fO h,e,Vl.sub,uX,if_true];have:=mR (.str bs[k].1) (.int bs[k].2) [] rfl;unfold box jG;rw[this];simp[h]
theorem aEx(n:Nat){bs:List (Str×Int)}{st:List Int}(hs:st.length=bs.length){s:Sm}(w:s.wf bs.length true)(z:s.sz<=3):call pg (n+3) 0 [s.d,aK st,.non]=.ok (.int (s.val st st),false,false):=by have:=iI (P:=pg) (f:=0) rfl (ah:=st) (be:=st) (bd:=.non) (c:=bs.length) (pl:=true) hs hs rfl (λh=>nomatch h) s (n+3-s.sz) w;rwa [show n+3-s.sz+s.sz=n+3 by omega] at this
theorem aEy(n:Nat){bs:List (Str×Int)}{st:List Int}(hs:st.length=bs.length){q:Cn}(w:q.wf bs.length true)(z:q.sz<=31):call pg (n+31) 1 [q.d,aK st,.non]=.ok (.bl (q.hold st st),false,false):=by have:=kZ (P:=pg) (v:=0) (f:=1) rfl rfl (ah:=st) (be:=st) (bd:=.non) (c:=bs.length) (pl:=true) hs hs rfl (λh=>nomatch h) q (n+31-q.sz) w;rwa [show n+31-q.sz+q.sz=n+31 by omega] at this
abbrev aEz:Ss:=match hdS (drp 2 f2.body) with|.for _ _ b=>b|_=>.nil
theorem aGE{p:Nat×Sm}{s0 s1 s2 l s4 q s6:Sl}:bK [s0,s1,s2,l,s4,q,s6] (.cl (dP p)) (.t [4,5])=.ok [s0,s1,s2,l,.sh false (.int p.1),.sh false p.2.d,s6]:=by unfold bK dP;simp only[cJ,lC,lN,if_true,AE,BN,BS,GZ,cA p.2.noL,cA (show noL (.int (p.1:Int))=true from rfl),dG,lS,lZ]
theorem aEA(acc:List Int)(k:Nat)(v:Int):(acc.map D.int).set k (.int v)=(acc.set k v).map D.int:=by rw[List.map_set]
theorem aEB(n:Nat){bs:List (Str×Int)}{st acc:List Int}(hs:st.length=bs.length)(M:acc.length=bs.length)(hb:bs.length<=5){p:Nat×Sm}(o:lG bs.length p)(s1 s4 s5 s6:Sl) :
 exs pg (call pg (n+3)) [.sh true (.lst (aB bs)),s1,.sh true (aK st),.own false (acc.map D.int),.sh false (.int p.1),.sh false p.2.d,s6] aEz =
  if 0<=p.2.val st st/\p.2.val st st<=jG bs p.1 then .next [.sh true (.lst (aB bs)),s1,.sh true (aK st),.own false ((acc.set p.1 (p.2.val st st)).map D.int),.sh false (.int p.1),.sh false p.2.d,.sh false (.int (p.2.val st st))] else .ret (.cl .non):=by
 have B:=aEx n hs o.wf o.sz;generalize p.2.val st st=v at B;obtain⟨b,b1,G,I⟩:=aBu (bs:=bs) (k:=p.1) o.box;have v2:=cM 2 true (bC st);have L:ex pg (call pg (n+3)) [.sh true (.lst (aB bs)),s1,.sh true (aK st),.own false (acc.map D.int),.sh false (.int p.1),.sh false p.2.d,s6] (hdS aEz)=.next [.sh true (.lst (aB bs)),s1,.sh true (aK st),.own false (acc.map D.int),.sh false (.int p.1),.sh false p.2.d,.sh false (.int v)]:=by simp only[aEz,hdS,drp,f2,dI,dD,aF,aZ,eV,aI,bH,gS,gZ,bX,v2,aA,mC,mN,cJ,B,jX,aT,fX,bY,fY,dG,lS,lZ]
 have tt:=aJV (P:=pg) (W:=call pg (n+3)) (Z:=[.sh true (.lst (aB bs)),s1,.sh true (aK st),.own false (acc.map D.int),.sh false (.int p.1),.sh false p.2.d,.sh false (.int v)]) (a:=.v 6) (b:=.idx (.idx (.v 0) (.v 4)) (.c (.int 1))) (x:=v) (y:=jG bs p.1) rfl (by
  simp only[dW,eV,aI,bH,gS,gZ,oD,nZ,aA,G,I])
 refine(stp L).trans ?_;show exs pg (call pg (n+3)) _ (.cons (.iff (.nt _) _ _) (.cons (.setIx 3 (.v 4) (.v 6)) .nil))=_;by_cases l:0<=v/\v<=jG bs p.1;have hd:(decide (0<=v)&&decide (v<=jG bs p.1))=true:=by rw[A8 l.1,A8 l.2];rfl
 rw[if_pos l];have U:ixN acc.length (p.1:Int)=some p.1:=fO (by rw[M];exact o.box);have q:acc.length<=lim:=by unfold lim;omega
 simp only[aX,cU,cD,fD,tt,aA,hd,Bh,aT,bF,if_false,rM,aEp,eV,bH,gS,gZ,nZ,cJ,put,fX,bY,jJ,U,aEA,lM,AM,q,if_true,yC,Kd,lS,lZ];have hd:(decide (0<=v)&&decide (v<=jG bs p.1))=false:=by
  cases h:(decide (0<=v)&&decide (v<=jG bs p.1)) with
  | false=>rfl|true=>simp only[bA,Aq] at h;exact absurd h l
 rw[if_neg l];simp only[aX,cU,cD,fD,tt,aA,hd,DS,aT,if_true,qO,aI,qL]
theorem yF(n:Nat){bs:List (Str×Int)}{st:List Int}(hs:st.length=bs.length)(G:bs.length<=5)(s1:Sl):∀(ps:List (Nat×Sm)) (acc:List Int) (s4 l s6:Sl),(∀p∈ps,lG bs.length p)->acc.length=bs.length ->
 ∃L M U,cY (λZ x=>O.from Z (bK Z x (.t [4,5])) λZ'=>exs pg (call pg (n+3)) Z' aEz) (ps.map λp=>Vl.cl (dP p)) [.sh true (.lst (aB bs)),s1,.sh true (aK st),.own false (acc.map D.int),s4,l,s6] =
  (match putF bs st acc ps with|none=>.ret (.cl .non)|some r=>.next [.sh true (.lst (aB bs)),s1,.sh true (aK st),.own false (r.map D.int),L,M,U])
 | [],acc,s4,l,s6,_,_=>⟨s4,l,s6,rfl⟩
 | p::ps,acc,s4,l,s6,h,ha=>by have o:=h p Ak;have W:=aEB n hs ha G o s1 s4 l s6;rw[mC,cY,aGE,aT,W,putF];by_cases B:0<=p.2.val st st/\p.2.val st st<=jG bs p.1;rw[if_pos B,if_pos B];exact yF n hs G s1 ps (acc.set p.1 (p.2.val st st)) _ _ _ (λq I=>h q (Ag _ I)) (by rw[AM];exact ha);rw[if_neg B,if_neg B];exact⟨s4,l,s6,rfl⟩
theorem qV{v:Vl}(ps:List (Nat×Sm)):items v (ps.map dP)=ps.map λp=>Vl.cl (dP p):=eK oE ps
theorem qW(n:Nat){bs:List (Str×Int)}{st:List Int}(hs:st.length=bs.length)(U:bs.length<=5){w:Way}(o:fE bs.length w):call pg (n+32) 2 [.lst (aB bs),w.d,aK st]=.ok (stD (jH bs w st),false,false):=by
 have ch:=aEy n hs o.g o.gs;have q:=cM 1 true (eO w);have B:=cM 2 true (bC st);have I:cP (.cl w.d) (.cl (.int 0))=.ok (.cl w.g.d):=jF w.g.d _ w.g.noL;have i1:cP (.cl w.d) (.cl (.int 1))=.ok (.cl (.tup (w.ps.map dP))):=mR w.g.d (.tup (w.ps.map dP)) _ (by rw[noL];exact eX _);refine aQ (F:=f2) rfl rfl (v:=.cl (stD (jH bs w st))) ?_;show exs pg (call pg (n+31)) [.sh true (.lst (aB bs)),.sh true w.d,.sh true (aK st),.dead,.dead,.dead,.dead] _=_;unfold jH;cases G:w.g.hold st st with
 | false=>rw[G] at ch;simp only[f2,aX,cU,cD,fD,iD,aF,aZ,dW,eV,aI,bH,gS,gZ,q,B,aA,I,mC,mN,cJ,ch,jX,vB,DS,aT,if_true,qO,qL,bF,if_false,stD]|true=>
  rw[G] at ch;obtain⟨t4,t5,t6,W⟩:=yF (n+28) hs U (.sh true w.d) w.ps st .dead .dead .dead o.ps hs;have L:ex pg (call pg (n+31)) [.sh true (.lst (aB bs)),.sh true w.d,.sh true (aK st),.dead,.dead,.dead,.dead] (hdS f2.body)=.next [.sh true (.lst (aB bs)),.sh true w.d,.sh true (aK st),.dead,.dead,.dead,.dead]:=by simp only[hdS,f2,cU,cD,fD,iD,aF,aZ,dW,eV,aI,bH,gS,gZ,q,B,aA,I,mC,mN,cJ,ch,jX,vB,Bh,aT,bF,if_false]
  have M:ex pg (call pg (n+31)) [.sh true (.lst (aB bs)),.sh true w.d,.sh true (aK st),.dead,.dead,.dead,.dead] (hdS (drp 1 f2.body))=.next [.sh true (.lst (aB bs)),.sh true w.d,.sh true (aK st),.own false (st.map D.int),.dead,.dead,.dead]:=by
   have l:biD .list [.cl (aK st)]=.ok ⟨.lst (st.map D.int),true,false,[]⟩:=by show R.ok (Vl.mk (.lst (st.map D.int)) true (false&&!noLs (st.map D.int)) (if noLs (st.map D.int)=true then [] else []))=_;rw[iF];rfl
   simp only[hdS,drp,f2,dI,nF,aF,aZ,eV,bH,gS,gZ,B,aA,l,aT,bY,fY,aGy,lS,lZ]
  have hw:walk pg (call pg (n+31)) [.sh true (.lst (aB bs)),.sh true w.d,.sh true (aK st),.own false (st.map D.int),.dead,.dead,.dead] (.seq (.idx (.v 1) (.c (.int 1))))=.ok (w.ps.map (λp=>Vl.cl (dP p)),[]):=by simp only[bR,dW,eV,aI,bH,gS,gZ,q,aA,i1,cJ,qV,fX]
  refine(stp L).trans ((stp M).trans ?_);show exs pg (call pg (n+31)) _ (.cons (.for (.t [4,5]) (.seq (.idx (.v 1) (.c (.int 1)))) aEz) _)=_;rw[aX,iE,hw,aT];show(cY _ _ _).on _=_;rw[bY,W,if_pos rfl];cases putF bs st st w.ps with
  | none=>rfl|some r=>show exs pg (call pg (n+31)) [.sh true (.lst (aB bs)),.sh true w.d,.sh true (aK st),.own false (r.map D.int),t4,t5,t6] (.cons (.ret (.bi .tuple (.cons (.v 3) .nil))) .nil)=_;rw[aX,qO,nF,aF,eV];simp only[bH,gS,gZ,aGz];simp only[aZ,aA,aBt 3 (iF r),aT,qL];rfl
section
variable {P:Pg} {W:Caller} {Z:Sg}
theorem nI(Z:Sg){i:Nat}{d:D}:bK Z (.cl d) (.n i)=.ok (Z.set i (.sh false d)):=by rw[fY,dG]
theorem aBv{f:Nat}{a b c:E}{x y z:Vl}{k:Bool}(l:ev P W Z a=.ok x)(q:ev P W Z b=.ok y)(B:ev P W Z c=.ok z)(G:W f [x.d,y.d,z.d]=.ok (.bl k,false,false)):tst P W Z (.call f (.cons a (.cons b (.cons c .nil))))=.ok k:=by
 have e:evs P W Z (.cons a (.cons b (.cons c .nil)))=.ok [x,y,z]:=by rw[aF,l,aA,aF,q,aA,aF,B,aA,aZ];rfl
 rw[iD,e,aA,show [x,y,z].map (·.d)=[x.d,y.d,z.d] from rfl,G];rfl
theorem pH{a:E}{k:Bool}(h:tst P W Z a=.ok k):tst P W Z (.nt a)=.ok (!k):=by rw[fD,h];rfl
theorem oG{f:Nat}{a b:E}{x y:Vl}{d:D}(l:ev P W Z a=.ok x)(q:ev P W Z b=.ok y)(B:W f [x.d,y.d]=.ok (d,false,false)):ev P W Z (.call f (.cons a (.cons b .nil)))=.ok (.cl d):=by
 have e:evs P W Z (.cons a (.cons b .nil))=.ok [x,y]:=by rw[aF,l,aA,aF,q,aA,aZ];rfl
 rw[dD,e,aA,show [x,y].map (·.d)=[x.d,y.d] from rfl,B];rfl
theorem aAj{a b:E}{x y:D}(l:ev P W Z a=.ok (.cl x))(q:ev P W Z b=.ok (.cl y)):ev P W Z (.tup (.cons a (.cons b .nil)))=.ok (.cl (.tup [x,y])):=by rw[uU,aF,l,aA,aF,q];rfl
theorem aEC{a b c:E}{x y z:D}(l:ev P W Z a=.ok (.cl x))(q:ev P W Z b=.ok (.cl y))(B:ev P W Z c=.ok (.cl z)):ev P W Z (.tup (.cons a (.cons b (.cons c .nil))))=.ok (.cl (.tup [x,y,z])):=by rw[uU,aF,l,aA,aF,q,aA,aF,B];rfl
end
theorem aMv{v:Vl}{α:Type}{f:α->D}{xs:List α}{k:Nat}{x:α}(B:v.d=.lst (xs.map f))(l:xs[k]? = some x):cP v (.cl (.int (k:Int)))=.ok (Vl.sub v (f x)):=by
 have q:k<(xs.map f).length:=by rw[lM];exact(Ar.mp l).1
 have e:(xs.map f)[k]? = some (f x):=by rw[A2,l];rfl
 unfold cP;simp only[B,cJ,fO q,e]
section
variable {P:Pg} {W:Caller} {Z Z':Sg}
theorem aMw{i:Nat}{e:E}{v:Vl}{pa:Bool}{ds:List D}(h:ev P W Z e=.ok v)(hi:(freeze Z v.al)[i]? = some (.own pa ds))(l:ds.length<lim):ex P W Z (.app i e)=.next ((freeze Z v.al).set i (.own (pa||v.pa) (ds++[v.d]))):=by
 have q:(ds++[v.d]).length<=lim:=by rw[lA];exact l
 rw[aJR,h,aT];unfold put jJ;rw[hi];show(if (ds++[v.d]).length<=lim then O.next _ else .bad)=_;rw[if_pos q]
theorem vI{i:Nat}{e:E}{v:Vl}{ds ds':List D}(h:ev P W Z e=.ok v)(hi:(freeze Z v.al)[i]? = some (.own false ds))(q:ds.length<lim)(B:v.pa=false)(l:ds'=ds++[v.d]):ex P W Z (.app i e)=.next ((freeze Z v.al).set i (.own false ds')):=by rw[aMw h hi q,B,l];rfl
theorem eL{i:Nat}{e:E}{ds:List D}(h:ev P W Z e=.ok ⟨.lst ds,true,false,[]⟩):ex P W Z (.set (.n i) e)=.next (Z.set i (.own false ds)):=by rw[dI,h];rfl
theorem aED{c:E}{a b:Ss}(h:tst P W Z c=.ok true)(r:exs P W Z a=.next Z'):ex P W Z (.iff c a b)=.next Z':=by rw[cD,h,aT,if_pos rfl,r]
theorem aOr{a b:E}{x y:Bool}(l:tst P W Z a=.ok x)(q:tst P W Z b=.ok y):tst P W Z (.an a b)=.ok (x&&y):=by rw[qN,l,aA];cases x;rfl;exact q
theorem eW{o:CmpOp}{a b:E}{x y:Vl}{k:Bool}(h:ev P W Z a=.ok x)(g:ev P W Z b=.ok y)(e:bU o x.d y.d=some k):tst P W Z (.cmp o a b)=.ok k:=by rw[bT,h,aA,g,aA,e]
end
theorem aOs{P:Pg}{W:Caller}{Z:Sg}{s:S}{ss:Ss}{v:Vl}(h:ex P W Z s=.ret v):exs P W Z (.cons s ss)=.ret v:=by rw[aX,h];rfl
theorem vJ{P:Pg}{W:Caller}{Z:Sg}{f:Nat}{a:E}{x:Vl}{d:D}{fr:Bool}(l:ev P W Z a=.ok x)(q:W f [x.d]=.ok (d,fr,false)):ev P W Z (.call f (.cons a .nil))=.ok ⟨d,fr,false,[]⟩:=by
 have e:evs P W Z (.cons a .nil)=.ok [x]:=by rw[aF,l];rfl
 rw[dD,e,aA,show [x].map (·.d)=[x.d] from rfl,q];rfl
section
variable {P:Pg} {W:Caller} {Z Z':Sg}
theorem aMx(Z:Sg){i j k:Nat}{a b c:D}(l:noL a=true)(q:noL b=true)(B:noL c=true):bK Z (.cl (.tup [a,b,c])) (.t [i,j,k])=.ok (((Z.set i (.sh false a)).set j (.sh false b)).set k (.sh false c)):=by unfold bK;simp only[cJ,lC,lN,if_true,AE,BN,BS,GZ,cA l,cA q,cA B,dG]
theorem aMy{a b:E}(h:tst P W Z a=.ok true):tst P W Z (.orr a b)=.ok true:=by rw[dX,h];rfl
theorem qX{a b:E}{k:Bool}(h:tst P W Z a=.ok false)(g:tst P W Z b=.ok k):tst P W Z (.orr a b)=.ok k:=by rw[dX,h,aA,if_neg bN,g]
theorem yG{f:Nat}{a b c:E}{x y z:Vl}{d:D}(l:ev P W Z a=.ok x)(q:ev P W Z b=.ok y)(B:ev P W Z c=.ok z)(G:W f [x.d,y.d,z.d]=.ok (d,true,false)):ev P W Z (.call f (.cons a (.cons b (.cons c .nil))))=.ok ⟨d,true,false,[]⟩:=by
 have e:evs P W Z (.cons a (.cons b (.cons c .nil)))=.ok [x,y,z]:=by rw[aF,l,aA,aF,q,aA,aF,B,aA,aZ];rfl
 rw[dD,e,aA,show [x,y,z].map (·.d)=[x.d,y.d,z.d] from rfl,G];rfl
theorem qY{f:Nat}{a b:E}{x y:Vl}{d:D}(l:ev P W Z a=.ok x)(q:ev P W Z b=.ok y)(B:W f [x.d,y.d]=.ok (d,true,false)):ev P W Z (.call f (.cons a (.cons b .nil)))=.ok ⟨d,true,false,[]⟩:=by
 have e:evs P W Z (.cons a (.cons b .nil))=.ok [x,y]:=by rw[aF,l,aA,aF,q,aA,aZ];rfl
 rw[dD,e,aA,show [x,y].map (·.d)=[x.d,y.d] from rfl,B];rfl
theorem aBw{f:Nat}{a b c e g:E}{x y z w u:Vl}{d:D}(l:ev P W Z a=.ok x)(q:ev P W Z b=.ok y)(B:ev P W Z c=.ok z)(G:ev P W Z e=.ok w)(I:ev P W Z g=.ok u)(L:W f [x.d,y.d,z.d,w.d,u.d]=.ok (d,false,false)):ev P W Z (.call f (.cons a (.cons b (.cons c (.cons e (.cons g .nil))))))=.ok (.cl d):=by
 have e:evs P W Z (.cons a (.cons b (.cons c (.cons e (.cons g .nil)))))=.ok [x,y,z,w,u]:=by rw[aF,l,aA,aF,q,aA,aF,B,aA,aF,G,aA,aF,I,aA,aZ];rfl
 rw[dD,e,aA,show [x,y,z,w,u].map (·.d)=[x.d,y.d,z.d,w.d,u.d] from rfl,L];rfl
end
abbrev bV(ws:List Way):D:=.lst (ws.map Way.d)
abbrev aS(h:List (List Way)):List D:=h.map bV
structure aHy (m e:Nat) (ws:List Way):Prop where
 one:1<=ws.length
 few:ws.length<=4
 ok:∀w∈ws,fE m w/\0<=w.nx/\w.nx<(e:Int)+1
structure aAk (m:Nat) (h:List (List Way)):Prop where
 few:h.length<=8
 ok:∀ws∈h,aHy m h.length ws
theorem qZ{α:Type}{P:α->Prop}{l:List α}{x:α}(h:∀y∈l,P y)(q:P x):∀y∈l++[x],P y:=λy B=>by rcases AJ.mp B with z|z;exact h y z;rw[Ai.mp z];exact q
section
variable {P:Pg} {W:Caller} {Z:Sg}
theorem aAl{e:E}{v:Vl}(h:ev P W Z e=.ok v):ex P W Z (.ex e)=.next Z:=by rw[aHx,h];rfl
theorem aHz{b:Ss}{Z':Sg}(h:exs P W Z b=.next Z'):ex P W Z (.tryN b)=.next Z':=h
theorem dA{s:S}{Z':Sg}(h:ex P W Z s=.next Z'):exs P W Z (.cons s .nil)=.next Z':=cs h rfl
theorem aAm{i:Nat}{d:D}{ss:Ss}(h:Z[i]? = some (.sh true d))(n:noL d=true):exs P W Z (.cons (.retv i) ss)=.ret (.cl d):=by refine aOs ?_;show(match Z[i]? with|some (.own pa ds)=>O.ret ⟨.lst ds,true,pa,[]⟩|_=>O.from Z (bH Z i) .ret)=_;unfold bH;rw[h];show O.from Z (Sl.val i (.sh true d)) .ret=_;rw[cM i true n];rfl
theorem yH{a:E}{cs:List Cl}{v:Vl}{k:Bool}(h:ev P W Z a=.ok v)(e:isI cs P v.d=some k):tst P W Z (.isi a cs)=.ok k:=by show(ev P W Z a >>= λx=>(match isI cs P x.d with|some k=>R.ok k|none=>.bad))=_;rw[h,aA,e]
theorem fF(i:Nat){d:D}(h:Z[i]? = some (.sh true d))(n:noL d=true):ev P W Z (.v i)=.ok (.cl d):=by show bH Z i=_;unfold bH;rw[h];exact cM i true n
theorem aW(i:Nat){ds:List D}(h:Z[i]? = some (.sh true (.lst ds))):ev P W Z (.v i)=.ok ⟨.lst ds,false,true,[]⟩:=by show bH Z i=_;unfold bH;rw[h];rfl
end
variable {bs:List (Str×Int)}
theorem yI(n:Nat){q:Cn}(w:q.wf bs.length true)(z:q.sz<=31):call pg (n+35) 17 [.lst (aB bs),q.d,.bl true]=.ok (q.d,false,false):=by have l:=lE (P:=pg) (wh:=14) (wi:=15) (ch:=20) (fo:=19) (lo:=18) rfl rfl rfl rfl rfl rfl rfl (bs:=aB bs) (lM _) q (n+31-q.sz) 0 w (by omega);rw[show n+31-q.sz+3+q.sz=n+34 by omega] at l;exact aQ (F:=f17) rfl rfl (v:=.cl q.d) (cs (aAl (aBw (aW 0 rfl) (aI _) (fF 1 rfl q.noL) (fF 2 rfl rfl) (aI _) l)) (aAm rfl q.noL))
theorem aAn(n:Nat){s:Sm}(w:s.wf bs.length true)(z:s.sz<=3):call pg (n+7) 16 [.lst (aB bs),s.d,.bl true]=.ok (s.d,false,false):=by have l:=kX (P:=pg) (wh:=14) (wi:=15) (ch:=20) (fo:=19) (lo:=18) rfl rfl rfl rfl rfl rfl (bs:=aB bs) (lM _) s (n+3-s.sz) 0 w (by omega);rw[show n+3-s.sz+3+s.sz=n+6 by omega] at l;exact aQ (F:=f16) rfl rfl (v:=.cl s.d) (cs (aAl (aBw (aW 0 rfl) (aI _) (fF 1 rfl s.noL) (fF 2 rfl rfl) (aI _) l)) (aAm rfl s.noL))
theorem aCm(n:Nat){q:Cn}(w:q.wf bs.length true)(z:q.sz<=31):call pg (n+36) 24 [.lst (aB bs),q.d]=.ok (.non,false,false):=
 gA (F:=f24) rfl rfl (dA (aHz (dA (aAl (bZ (aW 0 rfl) (fF 1 rfl q.noL) (aI _) (yI n w z))))))
theorem aGF(n:Nat){p:Nat×Sm}(o:lG bs.length p){l:Nat}(U:l<=p.1):call pg (n+8) 26 [.lst (aB bs),dP p,.int l]=.ok (.non,false,false):=by have M:=o.box;have I:=mT (P:=pg) (wh:=14) (wi:=15) rfl rfl (n+5) p.1 l ((bs.length:Int)-1) (by omega) (by omega);refine gA (F:=f26) rfl rfl (Z:=[.sh true (.lst (aB bs)),.sh true (dP p),.sh true (.int l)]) ?_;show exs pg (call pg (n+7)) [.sh true (.lst (aB bs)),.sh true (dP p),.sh true (.int l)] f26.body=_;have B:=aW (P:=pg) (W:=call pg (n+7)) (Z:=[.sh true (.lst (aB bs)),.sh true (dP p),.sh true (.int l)]) 0 rfl;have q:=fF (P:=pg) (W:=call pg (n+7)) (Z:=[.sh true (.lst (aB bs)),.sh true (dP p),.sh true (.int l)]) 1 rfl (oE p);have G:=rN (o:=.Sub) (kU (b:=.len) B (iZ _ _ _ _)) (aI (.int 1)) (sub_int _ 1);rw[show(aB bs).length=bs.length from lM _] at G;have L:=eC (a:=.cons (.rse 3 false (.cons (.c (.str "puts are of the boxes' numbers, rising, each once")) .nil)) .nil) (pH (aBv (cO q (aI _) (jF _ _ rfl)) (fF 2 rfl rfl) G I));exact cs (eC (qX (pH (yH q rfl)) (eW (kU q (jA _)) (aI _) rfl))) (cs L (dA (aHz (dA (aAl (bZ B (cO q (aI _) (mR _ _ _ p.2.noL)) (aI _) (aAn n o.wf o.sz)))))))
abbrev pf(bs:List (Str×Int))(ps:List (Nat×Sm))(s t:Sl):Sg:=[.sh true (.lst (aB bs)),.sh true (.tup (ps.map dP)),s,t]
theorem aEE(n:Nat){ps:List (Nat×Sm)}(o:∀p∈ps,lG bs.length p)(up:Up ps):call pg (n+9) 25 [.lst (aB bs),.tup (ps.map dP)]=.ok (.non,false,false):=by
 have I:∀s t,ev pg (call pg (n+8)) (pf bs ps s t) (.v 1)=.ok (.cl (.tup (ps.map dP))):=λs t=>fF 1 rfl (eX ps);have hw:walk pg (call pg (n+8)) (pf bs ps (.sh false (.int 0)) .dead) (.seq (.v 1))=.ok (ps.map λp=>Vl.cl (dP p),[]):=by rw[bR,I,aA];show R.ok (items _ (ps.map dP),[])=_;rw[qV]
 obtain⟨Z',M,_⟩:=dY (P:=pg) (W:=call pg (n+8)) (t:=.n 3) (b:=match hdS (drp 2 f25.body) with|.for _ _ b=>b|_=>.nil) (λi Z=>∃(l:Nat) (t:Sl),(∀p∈ps.drop i,l<=p.1)/\Z=pf bs ps (.sh false (.int l)) t) hw ⟨0,.dead,λ_ _=>AL _,rfl⟩ λi hi Z ⟨l,t,G,B⟩=>by
  have q:i<ps.length:=by simpa using hi
  subst B;have hd:=CY q;rw[hd] at G;have L:ev pg (call pg (n+8)) (pf bs ps (.sh false (.int l)) (.sh false (dP ps[i]))) (.v 3)=.ok (.cl (dP ps[i])):=bX 3 _;refine⟨pf bs ps (.sh false (.int l)) (.sh false (dP ps[i])),pf bs ps (.sh false (.int ((ps[i].1+1:Nat):Int))) (.sh false (dP ps[i])),?_,cs (aAl (bZ (aW 0 rfl) L (bX 2 _) (aGF n (o _ (AG q)) (G _ Ak)))) (dA (cN (rN (cO L (aI _) (jF _ _ rfl)) (aI _) (add_int _ 1)))),ps[i].1+1,_,λp U=>?_,rfl⟩;rw[B3,nI];rfl;have:=(Cu.mp (by rw[<-hd];exact KI (Iw _ _) up)).1 p U;exact this
 exact gA (F:=f25) rfl rfl (cs (eC (pH (yH (I _ _) rfl))) (cs (cN (aI _)) (dA M)))
theorem aAo(n:Nat){w:Way}(o:fE bs.length w){e:Nat}(G:0<=w.nx/\w.nx<(e:Int)+1):call pg (n+37) 23 [.lst (aB bs),w.d,.int e]=.ok (w.d,false,false):=by have q:=aW (P:=pg) (W:=call pg (n+36)) (Z:=[.sh true (.lst (aB bs)),.sh true w.d,.sh true (.int e)]) 0 rfl;have l:=fF (P:=pg) (W:=call pg (n+36)) (Z:=[.sh true (.lst (aB bs)),.sh true w.d,.sh true (.int e)]) 1 rfl (eO w);have B:=mT (P:=pg) (wh:=14) (wi:=15) rfl rfl (n+34) w.nx 0 e G.1 (by omega);have I:=eC (a:=.cons (.rse 3 false (.cons (.c (.str "a way is a tuple (guard, puts, next)")) .nil)) .nil) (qX (pH (yH (cs:=[.tTuple]) (k:=true) l rfl)) (eW (o:=.NotEq) (k:=false) (kU (b:=.len) l (jA _)) (aI (.int 3)) rfl));have L:=eC (a:=.cons (.rse 3 false (.cons (.c (.str "a way's next is a place of the hand")) .nil)) .nil) (pH (aBv (cO l (aI (.int 2)) (aEt _ _ _ _ rfl)) (aI (.int 0)) (fF 2 rfl rfl) B));exact aQ (F:=f23) rfl rfl (v:=.cl w.d) (cs I (cs (aAl (oG q (cO l (aI (.int 0)) (jF _ _ w.g.noL)) (aCm n o.g o.gs))) (cs (aAl (oG q (cO l (aI (.int 1)) (mR _ _ _ (eX w.ps))) (aEE (n+27) o.ps o.up))) (cs L (aAm rfl (eO w))))))
section
variable {P:Pg} {W:Caller} {Z:Sg}
theorem aMz{a b c:E}{x y z:Int}(l:ev P W Z a=.ok (.cl (.int x)))(B:ev P W Z b=.ok (.cl (.int y)))(G:ev P W Z c=.ok (.cl (.int z)))(p:x<=y)(q:y<=z):tst P W Z (.cmp2 .LtE .LtE a b c)=.ok true:=by rw[xY,l,aA,B,aA];show(match some (decide (x<=y)) with|some true=>ev P W Z c >>= λz=>(match bU .LtE (.int y) z.d with|some k=>R.ok k|none=>.bad)|some false=>.ok false|none=>.bad)=_;rw[A8 p];show(ev P W Z c >>= λz=>(match bU .LtE (.int y) z.d with|some k=>R.ok k|none=>.bad))=_;rw[G,aA];show(match some (decide (y<=z)) with|some k=>R.ok k|none=>.bad)=_;rw[A8 q]
end
theorem aGG{α:Type}(k:Nat)(caps:List Nat)(f:α->D):∀h:List α,fJ k caps [] (h.map λx=>Vl.mk (f x) true false [])=⟨.lst (h.map f),true,false,[]⟩:=λh=>by
 have q:(h.map λx=>Vl.mk (f x) true false []).map (·.d)=h.map f:=by rw[A7];rfl
 have B:cV (h.map λx=>Vl.mk (f x) true false [])=false:=by
  induction h with
  | nil=>rfl|cons x h l=>unfold cV at l ⊢;rw[mC,Ko,l (by rw[A7];rfl)];rfl
 have G:bE (h.map λx=>Vl.mk (f x) true false [])=[]:=by
  clear q B
  induction h with
  | nil=>rfl|cons x h l=>unfold bE at l ⊢;rw[mC,C8,l];rfl
 unfold fJ;rw[q,B,G];split <;> rfl
variable {bs:List (Str×Int)}
theorem aAp(n:Nat){ws:List Way}{e:Nat}(o:aHy bs.length e ws):call pg (n+38) 22 [.lst (aB bs),bV ws,.int e]=.ok (bV ws,true,false):=by have l:=aW (P:=pg) (W:=call pg (n+37)) (Z:=[.sh true (.lst (aB bs)),.sh true (bV ws),.sh true (.int e)]) 1 rfl;have q:=kU (b:=.len) l (iZ _ _ _ _);rw[lM] at q;have G:=eC (a:=.cons (.rse 3 false (.cons (.c (.str "a row is a list of one to four ways")) .nil)) .nil) (qX (pH (yH (cs:=[.tList]) (k:=true) l rfl)) (pH (aMz (aI (.int 1)) q (aI (.int 4)) (by have:=o.one;omega) (by have:=o.few;omega))));refine aQ (F:=f22) rfl rfl (v:=⟨bV ws,true,false,[]⟩) (cs G (eS (vD (ts:=ws) (al:=[]) (λw=>Vl.cl w.d) Way.d eO ?_ (by have:=o.few;unfold lim;omega) λw B=>⟨[.sh false w.d,.sh true (.lst (aB bs)),.sh true (.int e)],?_,bZ (aW 1 rfl) (bX 0 _) (fF 2 rfl rfl) (aAo n (o.ok w B).1 (o.ok w B).2)⟩)));rw[bR,l,aA];show R.ok (items _ (ws.map Way.d),[])=_;rw[eK eO];rw[nI];rfl
theorem yJ(n:Nat){h:List (List Way)}(o:aAk bs.length h):call pg (n+39) 21 [.lst (aB bs),.lst (aS h)]=.ok (.lst (aS h),true,false):=by
 have l:=aW (P:=pg) (W:=call pg (n+38)) (Z:=[.sh true (.lst (aB bs)),.sh true (.lst (aS h))]) 1 rfl;have q:=kU (b:=.len) l (iZ _ _ _ _);rw[lM] at q;have M:=eC (a:=.cons (.rse 3 false (.cons (.c (.str "a hand is a list of none to eight rows")) .nil)) .nil) (qX (pH (yH (cs:=[.tList]) (k:=true) l rfl)) (eW (o:=.Gt) (k:=false) q (aI (.int 8)) (congrArg some (Az (by have:=o.few;omega)))));have G:ev pg (call pg (n+38)) [.sh true (.lst (aB bs)),.sh true (.lst (aS h))] (.comp 1 [0,1] (.n 0) (.seq (.v 1)) .nil (.call 22 (.cons (.v 1) (.cons (.v 0) (.cons (.bi .len (.cons (.v 2) .nil)) .nil)))))=.ok ⟨.lst (aS h),true,false,[]⟩:=by rw[uW (xs:=h.map λws=>⟨bV ws,false,true,[]⟩) (al:=[]) (λx=>⟨x.d,true,false,[]⟩) ?_ (by rw[lM];have:=o.few;unfold lim;omega) λx L=>?_];rw[A7];exact congrArg R.ok (aGG 1 [0,1] bV h);rw[bR,l,aA];show R.ok (items _ (aS h),[])=_;unfold items;rw[A7];rfl;obtain⟨ws,I,rfl⟩:=Ax.mp L;have B:=kU (b:=.len) (aW (P:=pg) (W:=call pg (n+38)) (Z:=[.sh true (bV ws),.sh true (.lst (aB bs)),.sh true (.lst (aS h))]) 2 rfl) (iZ _ _ _ _);rw[lM] at B;exact⟨[.sh true (bV ws),.sh true (.lst (aB bs)),.sh true (.lst (aS h))],rfl,yG (aW 1 rfl) (aW 0 rfl) B (aAp n (o.ok ws I))⟩
 exact aQ (F:=f21) rfl rfl (v:=⟨.lst (aS h),true,false,[]⟩) (cs M (eS G))
noncomputable def InR(bs:List (Str×Int))(acc:List Int):Prop:=∀(j:Nat) (a:Int) (b:Str×Int),acc[j]? = some a->bs[j]? = some b->0<=a/\a<=b.2
theorem aEF{bs:List (Str×Int)}{st:List Int}{b:Str×Int}{h:Nat}(I:st.length=bs.length)(H:InR bs st)(L:h<(b.2+1).toNat):InR (bs++[b]) (st++[(h:Int)]):=by
 intro j x c q l;by_cases G:j<bs.length;rw[A5 (by omega)] at q;rw[A5 G] at l;exact H j x c q l;rw[A1 (by omega)] at q;rw[A1 (by omega)] at l;have B:j-bs.length=0:=by have:=(Ar.mp l).1;simp at this;omega
 rw[I,B] at q;rw[B] at l;cases q;cases l;omega
theorem yK{bs:List (Str×Int)}:∀i,i<=bs.length->∀st∈aE (bs.take i),st.length=i/\InR (bs.take i) st
 | 0,_,st,h=>by
  have:st=[]:=by simpa[aE] using h
  subst this;exact⟨rfl,λj a b B _=>by simp at B⟩
 | i+1,hi,st,h=>by rw[dZ hi] at h;obtain⟨b,G,l⟩:=Be.mp h;obtain⟨m,I,rfl⟩:=Ax.mp l;obtain⟨q,L⟩:=yK i (by omega) b G;refine⟨by simp[q],?_⟩;rw[AI hi];exact aEF (by rw[q,Bc];omega) L (by simpa using I)
theorem rA{bs:List (Str×Int)}{st:List Int}(h:st∈aE bs):st.length=bs.length/\InR bs st:=by have:=yK (bs:=bs) bs.length (Ah _) st (by rw[Bn];exact h);rwa [Bn] at this
abbrev bO(i:Nat):D:=.int (i:Int)
theorem aEG{o:Option (List Int)}:bU .IsNot (stD o) .non=some o.isSome:=by cases o <;> rfl
noncomputable def okE:Nat->D->Bool
 | 0,_=>false|n+1,d=>match d with|.tup ds=>ds.all (okE n)|.lst ds=>ds.all (okE n)|.dic _=>false|.err _ _=>false|_=>true
theorem yL:∀(n:Nat) (d:D),okE n d=true->eqF n d d=some true
 | 0,_,h=>by cases h|n+1,d,h=>by
  have hs:∀ds:List D,ds.all (okE n)=true->eP n ds ds=some true:=λds=>by
   induction ds with
   | nil=>intro _;rfl|cons x r l=>intro h;rw[EJ,bA] at h;unfold eP;rw[yL n x h.1,l h.2];rfl
  cases d with
  | non=>rfl|bl b=>exact congrArg some (beq_self_eq_true b)|int i=>exact congrArg some (beq_self_eq_true i)|str s=>exact congrArg some (beq_self_eq_true s)|tup ds=>show eqL (eqF n) ds ds=_;rw[oV,hs ds h]|lst ds=>show(if ds.length=ds.length then eqL (eqF n) ds ds else some false)=_;rw[if_pos rfl,oV,hs ds h]|dic _=>cases h|err _ _=>cases h
theorem rB:∀(s:Sm) (n:Nat),okE (n+s.sz+1) s.d=true
 | .num _,n=>rfl|.box _,n=>rfl|.aft _,n=>rfl|.two p a b,n=>by have l:=rB a (n+b.sz);have q:=rB b (n+a.sz);rw[show n+b.sz+a.sz+1=n+a.sz+b.sz+1 by omega] at l;show okE (n+(1+a.sz+b.sz)+1) (.tup [.str (aAi p),a.d,b.d])=true;rw[show n+(1+a.sz+b.sz)+1=n+a.sz+b.sz+1+1 by omega];show(true&&(okE _ a.d&&(okE _ b.d&&true)))=true;rw[l,q];rfl
theorem vK:∀(s:Cn) (n:Nat),okE (n+s.sz+1) s.d=true
 | .yes,n=>rfl|.cmp i a b,n=>by have l:=rB a (n+b.sz);have q:=rB b (n+a.sz);rw[show n+b.sz+a.sz+1=n+a.sz+b.sz+1 by omega] at l;show okE (n+(1+a.sz+b.sz)+1) (.tup [.str (qT i),a.d,b.d])=true;rw[show n+(1+a.sz+b.sz)+1=n+a.sz+b.sz+1+1 by omega];show(true&&(okE _ a.d&&(okE _ b.d&&true)))=true;rw[l,q];rfl|.nt x,n=>by have l:=vK x n;show okE (n+(1+x.sz)+1) (.tup [.str "not",x.d])=true;rw[show n+(1+x.sz)+1=n+x.sz+1+1 by omega];show(true&&(okE _ x.d&&true))=true;rw[l];rfl|.two p a b,n=>by have l:=vK a (n+b.sz);have q:=vK b (n+a.sz);rw[show n+b.sz+a.sz+1=n+a.sz+b.sz+1 by omega] at l;show okE (n+(1+a.sz+b.sz)+1) (.tup [.str (kY p),a.d,b.d])=true;rw[show n+(1+a.sz+b.sz)+1=n+a.sz+b.sz+1+1 by omega];show(true&&(okE _ a.d&&(okE _ b.d&&true)))=true;rw[l,q];rfl
theorem aHA{x:D}(h:eqD x x=some true):bU .NotEq x x=some false:=by rw[qQ,h];rfl
end K32
namespace K32
open Hp HpS PySem L2
section
variable {P:Pg} {W:Caller} {Z:Sg}
theorem bM(i:Nat){d:D}(h:Z[i]? = some (.sh false d)):ev P W Z (.v i)=.ok (.cl d):=by show bH Z i=_;unfold bH;rw[h];exact bX i d
theorem bS(i:Nat){pa:Bool}{ds:List D}(h:Z[i]? = some (.own pa ds)):ev P W Z (.v i)=.ok ⟨.lst ds,false,pa,[i]⟩:=by show bH Z i=_;unfold bH;rw[h];rfl
theorem dJ:evs P W Z .nil=.ok (([]:List D).map Vl.cl):=rfl
theorem aN{a:E}{es:Es}{d:D}{ds:List D}(h:ev P W Z a=.ok (.cl d))(t:evs P W Z es=.ok (ds.map Vl.cl)):evs P W Z (.cons a es)=.ok ((d::ds).map Vl.cl):=by rw[aF,h,aA,t];rfl
theorem aEH(ds:List D):cV (ds.map Vl.cl)=false:=by
 induction ds with
 | nil=>rfl|cons d ds l=>unfold cV at l ⊢;rw[mC,Ko,l];rfl
theorem aEI(ds:List D):bE (ds.map Vl.cl)=[]:=by
 induction ds with
 | nil=>rfl|cons d ds l=>unfold bE at l ⊢;rw[mC,C8,l];rfl
theorem aEJ(ds:List D):(ds.map Vl.cl).map (·.d)=ds:=by rw[A7];exact List.map_id _
theorem eA{es:Es}{ds:List D}(h:evs P W Z es=.ok (ds.map Vl.cl)):ev P W Z (.tup es)=.ok (.cl (.tup ds)):=by rw[uU,h,aA];show R.ok (Vl.mk (.tup ((ds.map Vl.cl).map (·.d))) false (cV (ds.map Vl.cl)) (bE (ds.map Vl.cl)))=_;rw[aEH,aEI,aEJ];rfl
theorem mV{es:Es}{ds:List D}(h:evs P W Z es=.ok (ds.map Vl.cl)):ev P W Z (.lst es)=.ok ⟨.lst ds,true,false,[]⟩:=by rw[qM,h,aA];show R.ok (Vl.mk (.lst ((ds.map Vl.cl).map (·.d))) true (cV (ds.map Vl.cl)) (bE (ds.map Vl.cl)))=_;rw[aEH,aEI,aEJ]
theorem lH{a b:E}{x n:Int}(h:ev P W Z a=.ok (.cl (.int x)))(k:ev P W Z b=.ok (.cl (.int n)))(p:0<n):ev P W Z (.op .Mod a b)=.ok (.cl (.int (x % n))):=rN h k (iY p)
theorem jL{a b:E}{x n:Int}(h:ev P W Z a=.ok (.cl (.int x)))(k:ev P W Z b=.ok (.cl (.int n))):ev P W Z (.op .Add a b)=.ok (.cl (.int (x+n))):=rN h k (add_int _ _)
theorem aEK{a:E}{v:Vl}{ds:List D}(h:ev P W Z a=.ok v)(e:v.d=.lst ds):ev P W Z (.bi .len (.cons a .nil))=.ok (.cl (.int ds.length)):=kU h (by
 obtain⟨d,f,p,al⟩:=v;have e:d=.lst ds:=e;subst e;exact iZ _ _ _ _)
theorem aMA{α:Type}{f:α->D}{a b:E}{v:Vl}{xs:List α}{k:Nat}{x:α}(h:ev P W Z a=.ok v)(B:v.d=.lst (xs.map f))(l:ev P W Z b=.ok (.cl (.int (k:Int))))(G:xs[k]? = some x)(q:noL (f x)=true):ev P W Z (.idx a b)=.ok (.cl (f x)):=
 cO h l ((aMv B G).trans (congrArg R.ok (cA q)))
theorem lI{a b:E}{v:Vl}{xs:List Int}{k:Nat}(h:ev P W Z a=.ok v)(B:v.d=.lst (xs.map D.int))(l:ev P W Z b=.ok (.cl (.int (k:Int))))(q:k<xs.length):ev P W Z (.idx a b)=.ok (.cl (.int (xs.getD k 0))):=
 cO h l (aBq B q)
theorem aGH{a b:List D}{v w:Vl}(L:v.d=.lst a)(M:w.d=.lst b)(B:noLs a=true)(G:noLs b=true)(I:a.length+b.length<=lim):opD .Add v w=.ok ⟨.lst (a++b),true,false,[]⟩:=by obtain⟨_,f,p,al⟩:=v;obtain⟨_,U,q,l⟩:=w;cases L;cases M;show R.iff (decide (a.length+b.length<=lim)) (.ok (Vl.mk (.lst (a++b)) true ((p&&!noLs a)||(q&&!noLs b)) ((if noLs a then [] else al)++(if noLs b then [] else l))))=_;rw[A8 I,B,G];cases p <;> cases q <;> rfl
theorem aGI{f:Nat}{a:E}{x:Vl}{k:Bool}(l:ev P W Z a=.ok x)(q:W f [x.d]=.ok (.bl k,false,false)):tst P W Z (.call f (.cons a .nil))=.ok k:=by
 have e:evs P W Z (.cons a .nil)=.ok [x]:=by rw[aF,l];rfl
 rw[iD,e,aA,show [x].map (·.d)=[x.d] from rfl,q];rfl
end
theorem aCn(x:Int){n:Nat}(h:0<n):∃k:Nat,x % (n:Int)=(k:Int)/\k<n:=by have l:=CA x (show(n:Int)≠0 by omega);have q:=BV x (show(0:Int)<n by omega);exact⟨(x % n).toNat,by omega,by omega⟩
section
variable {P:Pg} {W:Caller} {Z:Sg}
theorem vL{α:Type}{f:α->D}{zs:List α}{zE a:E}{v:Vl}{x:Int}{n:Nat}(L:ev P W Z zE=.ok v)(I:v.d=.lst (zs.map f))(G:ev P W Z a=.ok (.cl (.int x)))(U:zs.length=n)(B:0<n)(nf:∀t∈zs,noL (f t)=true) :
 ∃t∈zs,ev P W Z (.idx zE (.op .Mod a (.c (.int n))))=.ok (.cl (f t)):=by
 obtain⟨k,e,M⟩:=aCn x B;have q:=lH G (aI (.int n)) (by omega);rw[e] at q;have l:k<zs.length:=by omega
 exact⟨zs[k],AG l,aMA L I q (Ae l) (nf _ (AG l))⟩
end
theorem aEL{α:Type}{f:α->D}{v:Vl}(xs:List α)(x:α)(B:v.d=.lst ((xs++[x]).map f))(q:noL (f x)=true):cP v (.cl (.int (-1)))=.ok (.cl (f x)):=by
 have l:((xs++[x]).map f).length=xs.length+1:=by simp
 have G:((xs++[x]).map f)[xs.length]? = some (f x):=by simp
 unfold cP;rw[B];show(match Hp.ixN ((xs++[x]).map f).length (-1) with
  | some j=>(match ((xs++[x]).map f)[j]? with|some d=>R.ok (v.sub d)|none=>.bad)
  | none=>.bad)=_
 have:Hp.ixN ((xs++[x]).map f).length (-1)=some xs.length:=by
  rw[l];unfold Hp.ixN;rw[if_neg (by decide),if_pos (by omega)]
  congr 1
  omega
 rw[this];show(match ((xs++[x]).map f)[xs.length]? with|some d=>R.ok (v.sub d)|none=>.bad)=_;rw[G];exact congrArg R.ok (cA q)
theorem aGJ{ps:List (Nat×Sm)}{q p:Nat×Sm}(h:Up (ps++[q]))(B:q.1<p.1):Up (ps++[q]++[p]):=by unfold Up at h ⊢;rw[AX];refine⟨h,B9 _ _,λa G b l=>?_⟩;rw[Ai] at l;subst l;rw[AX] at h;rcases AJ.mp G with z|z;exact E4 (h.2.2 a z q (Ai.mpr rfl)) B;rw[Ai.mp z];exact B
theorem rC:∀is:List Int,lR (is.map D.int)=some is
 | []=>rfl|i::is=>by rw[mC,lR,rC is]
theorem tB:∀k:NK,oW (k.map λt=>D.tup (t.map .int))=some k
 | []=>rfl|t::k=>by rw[mC,oW,rC,tB k]
theorem tD(k:NK):kE (aH k)=some k:=tB k
theorem rD:∀ks:List NK,gK (ks.map aH)=some ks
 | []=>rfl|k::ks=>by rw[mC,gK,tD,rD ks]
theorem lJ(k:NK):noL (aH k)=true:=by show noLs (k.map λt=>D.tup (t.map .int))=true;exact cK (λt=>bC t) k
theorem tE(n:Nat):∀as bs:List Int,eP (n+1) (as.map D.int) (bs.map D.int)=some (as==bs)
 | [],[]=>rfl|[],_::_=>rfl|_::_,[]=>rfl|a::as,b::bs=>by rw[mC,mC,eP,aGA,tE n as bs];rfl
theorem yM(n:Nat)(a b:List Int):eqF (n+2) (aK a) (aK b)=some (a==b):=by unfold aK;rw[aBl,tE]
theorem yN(a b:List Int):eqD (aK a) (aK b)=some (a==b):=yM 118 a b
theorem mW{α:Type}(g:α->D)(n:Nat)(h:∀a,eqF n (g a) (g a)=some true):∀as:List α,eP n (as.map g) (as.map g)=some true
 | []=>rfl|a::as=>by rw[mC,eP,h a,mW g n h as];rfl
theorem aEM(n:Nat)(k:NK):eqF (n+3) (aH k) (aH k)=some true:=by unfold aH;rw[aBl];exact mW _ _ (λt=>(yM n t t).trans (by rw[beq_self_eq_true])) k
theorem aEN(n:Nat)(ks:List NK):eqF (n+4) (.lst (ks.map aH)) (.lst (ks.map aH))=some true:=by show(if (ks.map aH).length=(ks.map aH).length then eqL (eqF (n+3)) (ks.map aH) (ks.map aH) else some false)=_;rw[if_pos rfl,oV];exact mW _ _ (aEM n) ks
theorem yO(ks:List NK):eqD (.lst (ks.map aH)) (.lst (ks.map aH))=some true:=aEN 116 ks
theorem aOt{P:Pg}{W:Caller}{Z:Sg}{a l h:E}{v:Vl}{ys:List Int}{lo hi:Int}(G:ev P W Z a=.ok v)(I:v.d=.lst (ys.map D.int))(q:ev P W Z l=.ok (.cl (.int lo)))(B:ev P W Z h=.ok (.cl (.int hi)))(s1:aJ lo=true)(s2:aJ hi=true):ev P W Z (.sli a (.cons l .nil) (.cons h .nil))=.ok ⟨.lst ((cut ys (some lo) (some hi)).map D.int),true,false,[]⟩:=by
 have sl:dM v (some lo) (some hi)=.ok ⟨.lst ((cut ys (some lo) (some hi)).map D.int),true,false,[]⟩:=by unfold dM;rw[I];show R.ok (⟨.lst (cut (ys.map D.int) _ _),true,v.pa&&!noLs (ys.map D.int),if noLs (ys.map D.int) then [] else v.al⟩:Vl)=_;rw[fZ,Bh,GN,if_pos rfl];unfold cut;simp only[lM,Ht,Hr]
 rw[aGB,G,aA,q,aA,B,aA];dsimp only[Vl.cl];rw[s1,s2,Bool.and_self,nE,sl]
theorem aMB{P:Pg}{W:Caller}{Z:Sg}{a h:E}{v:Vl}{ys:List Int}{hi:Int}(q:ev P W Z a=.ok v)(B:v.d=.lst (ys.map D.int))(l:ev P W Z h=.ok (.cl (.int hi)))(s2:aJ hi=true):ev P W Z (.sli a .nil (.cons h .nil))=.ok ⟨.lst ((cut ys none (some hi)).map D.int),true,false,[]⟩:=by
 have sl:dM v none (some hi)=.ok ⟨.lst ((cut ys none (some hi)).map D.int),true,false,[]⟩:=by unfold dM;rw[B];show R.ok (⟨.lst (cut (ys.map D.int) _ _),true,v.pa&&!noLs (ys.map D.int),if noLs (ys.map D.int) then [] else v.al⟩:Vl)=_;rw[fZ,Bh,GN,if_pos rfl];unfold cut;simp only[lM,Ht,Hr]
 rw[aBk,q,aA,l,aA];dsimp only[Vl.cl];rw[s2,nE,sl]
theorem aEO{P:Pg}{W:Caller}{Z:Sg}{a b:E}{x y:Nat}(l:ev P W Z a=.ok (.cl (.int (x:Int))))(q:ev P W Z b=.ok (.cl (.int (y:Int))))(B:x<=1000)(G:y<=1000):ev P W Z (.op .Mult a b)=.ok (.cl (.int ((x*y:Nat):Int))):=by refine rN l q ((mul_int ?_).trans (by rw[EV]));simp only[mZ,BG,bA,Aq];right;omega
theorem yP(m:List (NK×D))(k:NK)(v:D):(kF m (k,v)).map (·.1)=if k∈m.map (·.1) then m.map (·.1) else m.map (·.1)++[k]:=by unfold kF;by_cases h:k∈m.map (·.1);rw[if_pos h,if_pos h,A7];refine CB λx _=>?_;show(if x.1=k then (x.1,v) else x).1=x.1;split <;> rfl;rw[if_neg h,if_neg h,Bj];rfl
theorem vM(m:List (NK×D))(k:NK)(v:D)(q:NK):q∈(kF m (k,v)).map (·.1)↔q∈m.map (·.1)\/q=k:=by rw[yP];split;rename_i h;exact⟨.inl,λz=>z.elim id λe=>e▸h⟩;rw[AJ,Ai]
theorem aJW{m:List (NK×D)}(h:(m.map (·.1)).Nodup)(k:NK)(v:D):((kF m (k,v)).map (·.1)).Nodup:=by rw[yP];split;exact h;rename_i B;exact List.nodup_append.mpr ⟨h,B9 _ _,λa l b q e=>B (by rw[<-Ai.mp q,<-e];exact l)⟩
theorem aAq{a b:List NK}(h:∀k,k∈a↔k∈b):ssN a=ssN b:=aDR (iB a) λx=>fM.trans (h x)
noncomputable def bsT(T:List Int):List (Str×Int):=(AF T.length).map λk=>((⟨#[97+k]⟩:Str),T.getD k 0)
theorem aGK{k:Nat}(h:k<4):cP (.cl (.str "abcd")) (.cl (.int (k:Int)))=.ok (.cl (.str ⟨#[97+k]⟩)):=by rcases(show k=0\/k=1\/k=2\/k=3 by omega) with rfl|rfl|rfl|rfl <;> rfl
theorem aGL{T:List Int}(G:T.length<=4)(W:Caller)(l s1:Sl)(h:s1=.own false (T.map D.int)\/s1=.sh false (.lst (T.map D.int))):exs pg W [l,s1] (drp 3 f6.body)=.ret ⟨.lst (aB (bsT T)),true,false,[]⟩:=by
 have q:∃v:Vl,(∀i,Sl.val i s1=.ok ⟨.lst (T.map D.int),false,false,match s1 with|.own _ _=>[i]|_=>[]⟩):=by rcases h with rfl|rfl <;> exact⟨.cl .non,λi=>rfl⟩
 obtain⟨_,q⟩:=q;have M:((T.map D.int).length:Int)=(T.length:Int):=by rw[lM]
 have L:walk pg W [l,s1] (.rng (.c (.int 0)) (.bi .len (.cons (.v 1) .nil)))=.ok ((AF T.length).map λ(k:Nat)=>Vl.cl (.int (k:Int)),[]):=by refine eI (v:=.cl (.int (T.length:Int))) ?_ rfl (by omega);simp only[nF,aF,aZ,eV,bH,gS,gZ,q,aA,iZ,M]
 have I:ev pg W [l,s1] (.comp 1 [1] (.n 0) (.rng (.c (.int 0)) (.bi .len (.cons (.v 1) .nil))) .nil (.tup (.cons (.idx (.c (.str "abcd")) (.v 0)) (.cons (.idx (.v 1) (.v 0)) .nil))))=.ok ⟨.lst ((AF T.length).map λk=>box (⟨#[97+k]⟩,T.getD k 0)),true,false,[]⟩:=
  vD (λ(k:Nat)=>Vl.cl (.int (k:Int))) (λk=>box (⟨#[97+k]⟩,T.getD k 0)) (λ_=>uX _) L (by rw[Cd];exact AC G (by decide)) λk B=>by have B:=BA.mp B;refine⟨[.sh false (.int (k:Int)),s1],rfl,?_⟩;have ix:∀al,cP ⟨.lst (T.map D.int),false,false,al⟩ (.cl (.int (k:Int)))=.ok (.cl (.int (T.getD k 0))):=λal=>aBq rfl B;simp only[uU,dW,aF,aZ,eV,aI,bH,gS,gZ,q,bX,aA,aGK (k:=k) (by omega),ix];rfl
 show exs pg W [l,s1] (.cons (.ret _) .nil)=_;rw[aX,qO,I];show O.ret _=_;unfold aB bsT;rw[A7];rfl
structure Gd (T:List Int):Prop where
 tops:eR (bsT T)
 pos:1<=(bsT T).length
 few:T.length<=4
theorem gd1{a:Int}(l:1<=a)(B:a<=4):Gd [a] where
 tops:=⟨show 1<=5 by decide,λb q=>by
  rw[Ai.mp q];exact⟨l,show a<=7 by omega⟩,show 1*(a+1)<=24 by omega⟩
 pos:=show 1<=1 by decide
 few:=show 1<=4 by decide
theorem gd2{a b:Int}(G:1<=a)(I:a<=7)(q:1<=b)(B:b<=7)(L:(a+1)*(b+1)<=24):Gd [a,b] where
 tops:=⟨show 2<=5 by decide,λc l=>by
  rcases Au.mp l with rfl|l;exact⟨G,I⟩;rw[Ai.mp l];exact⟨q,B⟩,show 1*(a+1)*(b+1)<=24 by rw[Li];exact L⟩
 pos:=show 1<=2 by decide
 few:=show 2<=4 by decide
theorem gd3{a b:Int}(B:1<=a)(L:a<=4)(q:1<=b)(I:b<=2)(G:(a+1)*(b+1)*(1+1)<=24):Gd [a,b,1] where
 tops:=⟨show 3<=5 by decide,λc l=>by
  rcases Au.mp l with rfl|l;exact⟨B,show a<=7 by omega⟩;rcases Au.mp l with rfl|l;exact⟨q,show b<=7 by omega⟩;rw[Ai.mp l];exact⟨show(1:Int)<=1 by decide,show(1:Int)<=7 by decide⟩,show 1*(a+1)*(b+1)*(1+1)<=24 by rw[Li];exact G⟩
 pos:=show 1<=3 by decide
 few:=show 3<=4 by decide
theorem gd4{a b c d:Int}(l:[a,b,c,d]=[2,1,1,1]\/[a,b,c,d]=[1,1,1,2]):Gd [a,b,c,d] where
 tops:=by rcases l with h|h <;> (rw[h];exact⟨by decide,by decide,by decide⟩)
 pos:=show 1<=4 by decide
 few:=show 4<=4 by decide
theorem aEP(n:Nat)(G q I x3 x4 x5 x6 x7 x8 x9 xa xb xc:Int):∃bs:List (Str×Int),eR bs/\1<=bs.length/\call pg (n+1) 6 [.lst ([G,q,I,x3,x4,x5,x6,x7,x8,x9,xa,xb,xc].map D.int)]=.ok (.lst (aB bs),true,false):=by
 have a0:0<=G % 4:=CA _ (by decide);have a1:G % 4<4:=BV _ (by decide);have b0:0<=q % 2:=CA _ (by decide);have b1:q % 2<2:=BV _ (by decide);have c0:0<=I % 3:=CA _ (by decide);have c1:I % 3<3:=BV _ (by decide);have r0:0<=q / 2 % 4:=CA _ (by decide);have r1:q / 2 % 4<4:=BV _ (by decide)
 let l:Sl:=.sh true (.lst [.int G,.int q,.int I,.int x3,.int x4,.int x5,.int x6,.int x7,.int x8,.int x9,.int xa,.int xb,.int xc])
 have m4:∀i:Int,opD .Mod (.cl (.int i)) (.cl (.int 4))=.ok (.cl (.int (i % 4))):=λi=>iY (by decide);have m2:∀i:Int,opD .Mod (.cl (.int i)) (.cl (.int 2))=.ok (.cl (.int (i % 2))):=λi=>iY (by decide);have m3:∀i:Int,opD .Mod (.cl (.int i)) (.cl (.int 3))=.ok (.cl (.int (i % 3))):=λi=>iY (by decide);have m5:∀i:Int,opD .Mod (.cl (.int i)) (.cl (.int 5))=.ok (.cl (.int (i % 5))):=λi=>iY (by decide);have d4:∀i:Int,opD .FloorDiv (.cl (.int i)) (.cl (.int 4))=.ok (.cl (.int (i / 4))):=λi=>vC (by decide);have d2:∀i:Int,opD .FloorDiv (.cl (.int i)) (.cl (.int 2))=.ok (.cl (.int (i / 2))):=λi=>vC (by decide);have i0:∀s1,ev pg (call pg n) [l,s1] (.idx (.v 0) (.c (.int 0)))=.ok (.cl (.int G)):=λ_=>rfl;have i1:∀s1,ev pg (call pg n) [l,s1] (.idx (.v 0) (.c (.int 1)))=.ok (.cl (.int q)):=λ_=>rfl;have i2:∀s1,ev pg (call pg n) [l,s1] (.idx (.v 0) (.c (.int 2)))=.ok (.cl (.int I)):=λ_=>rfl;have sk:aJ (1+I % 3)=true:=aGw (by omega) (by omega);have hm:eE [.cl (.int (1+G % 4)),.cl (.int (1+q % 2)),.cl (.int 1)]=⟨.lst [.int (1+G % 4),.int (1+q % 2),.int 1],true,false,[]⟩:=rfl;have e1:ex pg (call pg n) [l,.dead] (hdS f6.body)=.next [l,.own false (cut [.int (1+G % 4),.int (1+q % 2),.int 1] none (some (1+I % 3)))]:=by simp only[f6,hdS,dI,aBk,qM,aF,aZ,kT,aI,i0,i1,i2,aA,m4,m2,m3,add_int,hm,cJ,sk,nE];rfl
 generalize ha:1+G % 4=a at e1;generalize hb:1+q % 2=b at e1;have e2:∃T,Gd T/\ex pg (call pg n) [l,.own false (cut [.int a,.int b,.int 1] none (some (1+I % 3)))] (hdS (drp 1 f6.body))=.next [l,.own false (T.map D.int)]:=by
  have p2:(a+1)*(b+1)<=24:=by rcases(show b=1\/b=2 by omega) with rfl|rfl <;> omega
  rcases(show I % 3=0\/I % 3=1\/I % 3=2 by omega) with h|h|h;rw[h];exact⟨[a],gd1 (by omega) (by omega),rfl⟩;rw[h];exact⟨[a,b],gd2 (by omega) (by omega) (by omega) (by omega) p2,rfl⟩;rw[h];have mu:opD .Mult (.cl (.int a)) (.cl (.int b))=.ok (.cl (.int (a*b))):=mul_int (by
   simp only[mZ,BG,bA,Aq];right;omega)
  have t2:tst pg (call pg n) [l,.own false [.int a,.int b,.int 1]] (.an (.cmp .Eq (.bi .len (.cons (.v 1) .nil)) (.c (.int 3))) (.cmp .Gt (.op .Mult (.idx (.v 1) (.c (.int 0))) (.idx (.v 1) (.c (.int 1)))) (.c (.int 6))))=.ok (decide (6<a*b)):=by have j0:ev pg (call pg n) [l,.own false [.int a,.int b,.int 1]] (.idx (.v 1) (.c (.int 0)))=.ok (.cl (.int a)):=rfl;have j1:ev pg (call pg n) [l,.own false [.int a,.int b,.int 1]] (.idx (.v 1) (.c (.int 1)))=.ok (.cl (.int b)):=rfl;have k1:tst pg (call pg n) [l,.own false [.int a,.int b,.int 1]] (.cmp .Eq (.bi .len (.cons (.v 1) .nil)) (.c (.int 3)))=.ok true:=rfl;rw[qN,k1,aA,if_pos rfl,bT,kT,j0,j1,aA,aA,mu,aA,aI,aA];rfl
  by_cases W:6<a*b;rw[A8 W] at t2;refine⟨[a,b],gd2 (by omega) (by omega) (by omega) (by omega) p2,?_⟩;show O.from _ (tst pg (call pg n) [l,.own false [.int a,.int b,.int 1]] _) _=_;rw[t2];rfl;rw[Az W] at t2;refine⟨[a,b,1],gd3 (by omega) (by omega) (by omega) (by omega) ?_,?_⟩;rcases(show b=1\/b=2 by omega) with rfl|rfl <;> omega;show O.from _ (tst pg (call pg n) [l,.own false [.int a,.int b,.int 1]] _) _=_;rw[t2];rfl
 obtain⟨T,gT,e2⟩:=e2;have t3:∀s1,tst pg (call pg n) [l,s1] (.cmp .Eq (.op .Mod (.op .FloorDiv (.idx (.v 0) (.c (.int 0))) (.c (.int 4))) (.c (.int 5))) (.c (.int 0)))=.ok (G / 4 % 5==0):=λs1=>by simp only[bT,kT,i0,aI,aA,d4,m5,cJ,eJ,gJ]
 have e3:∃B s1,Gd B/\(s1=.own false (B.map D.int)\/s1=.sh false (.lst (B.map D.int)))/\ex pg (call pg n) [l,.own false (T.map D.int)] (hdS (drp 2 f6.body))=.next [l,s1]:=by
  cases W:(G / 4 % 5==0) with
  | false=>refine⟨T,_,gT,.inl rfl,?_⟩;refine(cD (P:=pg) _ _ _).trans ?_;rw[t3,W];rfl|true=>
   have ix:∀s1,ev pg (call pg n) [l,s1] (.op .Mod (.op .FloorDiv (.idx (.v 0) (.c (.int 1))) (.c (.int 2))) (.c (.int 4)))=.ok (.cl (.int (q / 2 % 4))):=λs1=>by simp only[kT,i1,aI,aA,d2,m4]
   have go:∀(B:List Int) (s1:Sl),cP (eE [eE [.cl (.int 7),.cl (.int 2)],eE [.cl (.int 2),.cl (.int 1),.cl (.int 1),.cl (.int 1)],eE [.cl (.int 1),.cl (.int 1),.cl (.int 1),.cl (.int 2)],eE [.cl (.int 5),.cl (.int 3)]]) (.cl (.int (q / 2 % 4)))=.ok ⟨.lst (B.map D.int),false,false,[]⟩\/cP (eE [eE [.cl (.int 7),.cl (.int 2)],eE [.cl (.int 2),.cl (.int 1),.cl (.int 1),.cl (.int 1)],eE [.cl (.int 1),.cl (.int 1),.cl (.int 1),.cl (.int 2)],eE [.cl (.int 5),.cl (.int 3)]]) (.cl (.int (q / 2 % 4)))=.ok ⟨.lst (B.map D.int),true,false,[]⟩ ->
    ∃s1,(s1=.own false (B.map D.int)\/s1=.sh false (.lst (B.map D.int)))/\ex pg (call pg n) [l,.own false (T.map D.int)] (hdS (drp 2 f6.body))=.next [l,s1]:=by intro B s1 hx;rcases hx with hx|hx;refine⟨_,.inr rfl,?_⟩;refine(cD (P:=pg) _ _ _).trans ?_;rw[t3,W,aT,if_pos rfl];simp only[aX,cU,dI,dW,qM,aF,aZ,aI,ix,aA,hx,aT];rfl;refine⟨_,.inl rfl,?_⟩;refine(cD (P:=pg) _ _ _).trans ?_;rw[t3,W,aT,if_pos rfl];simp only[aX,cU,dI,dW,qM,aF,aZ,aI,ix,aA,hx,aT];rfl
   rcases(show q / 2 % 4=0\/q / 2 % 4=1\/q / 2 % 4=2\/q / 2 % 4=3 by omega) with h|h|h|h;obtain⟨s1,L,M⟩:=go [7,2] .dead (by rw[h];first|exact .inl rfl|exact .inr rfl);exact⟨_,s1,gd2 (by decide) (by decide) (by decide) (by decide) (by decide),L,M⟩;obtain⟨s1,L,M⟩:=go [2,1,1,1] .dead (by rw[h];first|exact .inl rfl|exact .inr rfl);exact⟨_,s1,gd4 (.inl rfl),L,M⟩;obtain⟨s1,L,M⟩:=go [1,1,1,2] .dead (by rw[h];first|exact .inl rfl|exact .inr rfl);exact⟨_,s1,gd4 (.inr rfl),L,M⟩;obtain⟨s1,L,M⟩:=go [5,3] .dead (by rw[h];first|exact .inl rfl|exact .inr rfl);exact⟨_,s1,gd2 (by decide) (by decide) (by decide) (by decide) (by decide),L,M⟩
 obtain⟨B,s1,U,h1,e3⟩:=e3;refine⟨bsT B,U.tops,U.pos,aQ (F:=f6) rfl rfl (v:=⟨.lst (aB (bsT B)),true,false,[]⟩) ?_⟩;exact(stp e1).trans ((stp e2).trans ((stp e3).trans (aGL U.few _ _ _ h1)))
end K32
namespace K32
open Hp HpS PySem
variable {bs:List (Str×Int)}
theorem aJX(T:eR bs){k:Nat}(h:k<bs.length):0<=jG bs k/\jG bs k<=99:=by
 unfold jG;have l:k<(bs.map (·.2)).length:=by rw[lM];exact h
 rw[CU,Ae l,Dw,B3];have:=T.one bs[k] (AG h);omega
theorem aEQ:(aB bs).length=bs.length:=lM _
theorem aBx{W:Caller}{Z:Sg}{a b:E}{v:Vl}{x:Int}(l:ev pg W Z a=.ok (.cl (.int x)))(q:ev pg W Z b=.ok v)(G:v.d=.lst (aB bs))(I:1<=bs.length):∃k:Nat,k<bs.length/\ev pg W Z (.op .Mod a (.bi .len (.cons b .nil)))=.ok (.cl (bO k)):=by obtain⟨k,e,B⟩:=aCn x (n:=bs.length) (by omega);have:=lH l (aEK q G) (by rw[aEQ];omega);rw[aEQ,e] at this;exact⟨k,B,this⟩
theorem aAr(n:Nat){ys:List Int}(hl:ys.length=4)(I:1<=bs.length):∃g:Cn,g.wf bs.length true/\g.sz<=31/\call pg (n+1) 8 [.lst (ys.map D.int),.lst (aB bs)]=.ok (g.d,false,false):=by
 let Z:Sl->Sl->Sl->Sg:=λs2 B s4=>[.sh true (.lst (ys.map D.int)),.sh true (.lst (aB bs)),s2,B,s4]
 have y:∀(k:Nat) s2 B s4,k<4->ev pg (call pg n) (Z s2 B s4) (.idx (.v 0) (.c (.int (k:Int))))=.ok (.cl (.int (ys.getD k 0))):=λk _ _ _ hk=>lI (aW 0 rfl) rfl (aI _) (by omega);have U:∀s2 B s4,ev pg (call pg n) (Z s2 B s4) (.v 1)=.ok ⟨.lst (aB bs),false,true,[]⟩:=λ_ _ _=>aW 1 rfl;obtain⟨b,wb,e1⟩:=aBx (y 0 .dead .dead .dead (by decide)) (U _ _ _) rfl I;have k1:ex pg (call pg n) (Z .dead .dead .dead) (hdS f8.body)=.next (Z (.sh false (Sm.box b).d) .dead .dead):=cN (eA (aN (aI _) (aN e1 dJ)));obtain⟨q,wq,e2⟩:=aBx (y 1 (.sh false (Sm.box b).d) .dead .dead (by decide)) (U _ _ _) rfl I;have k2:ex pg (call pg n) (Z (.sh false (Sm.box b).d) .dead .dead) (hdS (drp 1 f8.body))=.next (Z (.sh false (Sm.box b).d) (.sh false (Sm.box q).d) .dead):=cN (eA (aN (aI _) (aN e2 dJ)));have G:tst pg (call pg n) (Z (.sh false (Sm.box b).d) (.sh false (Sm.box q).d) .dead) (.cmp .Eq (.op .Mod (.idx (.v 0) (.c (.int 2))) (.c (.int 2))) (.c (.int 0)))=.ok (ys.getD 2 0 % 2==0):=eW (lH (y 2 _ _ _ (by decide)) (aI (.int 2)) (by decide)) (aI (.int 0)) rfl;obtain⟨O,wO,zO,k3⟩:∃O:Sm,O.wf bs.length true/\O.sz=1/\ex pg (call pg n) (Z (.sh false (Sm.box b).d) (.sh false (Sm.box q).d) .dead) (hdS (drp 2 f8.body))=.next (Z (.sh false (Sm.box b).d) (.sh false O.d) .dead):=by
  cases M:(ys.getD 2 0 % 2==0) with
  | false=>rw[M] at G;exact⟨.box q,wq,rfl,eC G⟩|true=>rw[M] at G;refine⟨.num (ys.getD 1 0 % 4),?_,rfl,aED G (dA (cN (eA (aN (aI _) (aN (lH (y 1 _ _ _ (by decide)) (aI (.int 4)) (by decide)) dJ)))))⟩;simp only[Sm.wf];omega
 obtain⟨p,hp,e4⟩:=vL (P:=pg) (W:=call pg n) (Z:=Z (.sh false (Sm.box b).d) (.sh false O.d) .dead) (n:=2) (zs:=[true,false]) (f:=λp=>.str (qT p)) (zE:=.lst (.cons (.c (.str "is")) (.cons (.c (.str "less")) .nil))) (mV (aN (aI _) (aN (aI _) dJ))) rfl (rN (y 2 _ _ _ (by decide)) (aI (.int 2)) (vC (by decide))) rfl (by decide) (λ_ _=>rfl)
 let F:=Cn.cmp p (.box b) O
 have k4:ex pg (call pg n) (Z (.sh false (Sm.box b).d) (.sh false O.d) .dead) (hdS (drp 3 f8.body))=.next (Z (.sh false (Sm.box b).d) (.sh false O.d) (.sh false F.d)):=cN (eA (aN e4 (aN (bM 2 rfl) (aN (bM 3 rfl) dJ))));have w4:ev pg (call pg n) (Z (.sh false (Sm.box b).d) (.sh false O.d) (.sh false F.d)) (.v 4)=.ok (.cl F.d):=bM 4 rfl;obtain⟨g,L,e5⟩:=vL (P:=pg) (W:=call pg n) (Z:=Z (.sh false (Sm.box b).d) (.sh false O.d) (.sh false F.d)) (n:=3) (zs:=[Cn.yes,F,.nt F]) (f:=Cn.d) (mV (aN (eA (aN (aI (.str "yes")) dJ)) (aN w4 (aN (eA (aN (aI (.str "not")) (aN w4 dJ))) dJ)))) rfl (y 3 _ _ _ (by decide)) rfl (by decide) (λt _=>t.noL);have l:g.wf bs.length true/\g.sz<=31:=by simp only[Au,Dy,or_false] at L;rcases L with rfl|rfl|rfl <;> simp[F,Cn.wf,Sm.wf,Cn.sz,Sm.sz,wb,wO,zO]
 exact⟨g,l.1,l.2,aQ (F:=f8) rfl rfl (v:=.cl g.d) (cs k1 (cs k2 (cs k3 (cs k4 (eS e5)))))⟩
theorem aER(n:Nat)(T:eR bs){ys:List Int}(hl:ys.length=3)(hb:1<=bs.length){k:Nat}(G:k<bs.length):∃s:Sm,s.wf bs.length true/\s.sz<=3/\call pg (n+1) 9 [.lst (ys.map D.int),.lst (aB bs),.int k]=.ok (s.d,false,false):=by
 let Z:Sl->Sl->Sg:=λq s4=>[.sh true (.lst (ys.map D.int)),.sh true (.lst (aB bs)),.sh true (bO k),q,s4]
 have y:∀(k:Nat) q s4,k<3->ev pg (call pg n) (Z q s4) (.idx (.v 0) (.c (.int (k:Int))))=.ok (.cl (.int (ys.getD k 0))):=λk _ _ G=>lI (aW 0 rfl) rfl (aI _) (by omega);have v1:∀q s4,ev pg (call pg n) (Z q s4) (.v 1)=.ok ⟨.lst (aB bs),false,true,[]⟩:=λ_ _=>aW 1 rfl;have v2:∀q s4,ev pg (call pg n) (Z q s4) (.v 2)=.ok (.cl (bO k)):=λ_ _=>fF 2 rfl rfl;obtain⟨b,wb,e1⟩:=aBx (y 0 .dead .dead (by decide)) (v1 _ _) rfl hb
 let l:Sl:=.sh false (Sm.box b).d
 have k1:ex pg (call pg n) (Z .dead .dead) (hdS f9.body)=.next (Z l .dead):=cN (eA (aN (aI _) (aN e1 dJ)));have L:∀s4,ev pg (call pg n) (Z l s4) (.v 3)=.ok (.cl (Sm.box b).d):=λ_=>bM 3 rfl;have one:∀s4,ev pg (call pg n) (Z l s4) (.tup (.cons (.c (.str "number")) (.cons (.c (.int 1)) .nil)))=.ok (.cl (Sm.num 1).d):=λ_=>eA (aN (aI _) (aN (aI _) dJ))
 let A:List Sm:=[.num (ys.getD 1 0 % 4),.box b,.two true (.box b) (.num 1)]
 have U:ex pg (call pg n) (Z l .dead) (hdS (drp 1 f9.body))=.next (Z l (.own false (A.map Sm.d))):=eL (mV (aN (eA (aN (aI _) (aN (lH (y 1 _ _ (by decide)) (aI (.int 4)) (by decide)) dJ))) (aN (L _) (aN (eA (aN (aI _) (aN (L _) (aN (one _) dJ)))) dJ))))
 let B:List Sm:=[.two false (.box b) (.num 1)]
 have k3:ex pg (call pg n) (Z l (.own false (A.map Sm.d))) (hdS (drp 2 f9.body))=.next (Z l (.own false ((A++B).map Sm.d))):=by rw[Bj];exact eL (rN (bS 4 rfl) (mV (aN (eA (aN (aI _) (aN (L _) (aN (one _) dJ)))) dJ)) (aGH rfl rfl (cK Sm.noL A) (cK Sm.noL B) (by unfold lim;simp[A,B])))
 let C:List Sm:=[.two false (.num (jG bs k)) (.box k)]
 obtain⟨bd,nb,i1,i2⟩:=aBu G;have k4:ex pg (call pg n) (Z l (.own false ((A++B).map Sm.d))) (hdS (drp 3 f9.body))=.next (Z l (.own false ((A++B++C).map Sm.d))):=by rw[Bj (l₁:=A++B)];exact eL (rN (bS 4 rfl) (mV (aN (eA (aN (aI _) (aN (eA (aN (aI _) (aN (cO (cO (v1 _ _) (v2 _ _) i1) (aI (.int 1)) i2) dJ))) (aN (eA (aN (aI _) (aN (v2 _ _) dJ))) dJ)))) dJ)) (aGH rfl rfl (cK Sm.noL (A++B)) (cK Sm.noL C) (by unfold lim;simp[A,B,C])))
 obtain⟨s,hs,M⟩:=vL (n:=5) (zs:=A++B++C) (f:=Sm.d) (bS (P:=pg) (W:=call pg n) (Z:=Z l (.own false ((A++B++C).map Sm.d))) 4 rfl) rfl (y 2 _ _ (by decide)) rfl (by decide) (λt _=>t.noL);have tk:=aJX T G;have so:s.wf bs.length true/\s.sz<=3:=by
  simp only[A,B,C,IU,D8,Au,Dy,or_false] at hs;have I:0<=ys.getD 1 0 % 4/\ys.getD 1 0 % 4<=99:=by omega
  clear M k4 k3 U;generalize ys.getD 1 0 % 4=x4 at hs I;rcases hs with rfl|rfl|rfl|rfl|rfl <;> simp[Sm.wf,Sm.sz,wb,G,tk.1,tk.2,I.1,I.2]
 exact⟨s,so.1,so.2,aQ (F:=f9) rfl rfl (v:=.cl s.d) (cs k1 (cs U (cs k3 (cs k4 (eS M)))))⟩
variable {bs:List (Str×Int)}
abbrev wF(cell:Int)(bs:List (Str×Int))(e:Nat)(ys:List Int)(ps:List (Nat×Sm))(s5 s6:Sl):Sg:=[.sh true (.int cell),.sh true (.lst (aB bs)),.sh true (bO e),.own false (ys.map D.int),.own false (ps.map dP),s5,s6]
abbrev wB:Ss:=match hdS (drp 2 f10.body) with|.for _ _ b=>b|_=>.nil
theorem aOu{ys:List Int}(q:ys.length=14){a:Nat}(l:a<=10):(cut ys (some ((a:Nat):Int)) (some (((a+3:Nat)):Int))).length=3:=by unfold cut sIx;simp only[BI,Bc];rw[if_neg (by omega),if_neg (by omega)];omega
theorem aOv{ys:List Int}(l:ys.length=14):(cut ys none (some 4)).length=4:=by unfold cut sIx;simp only[BI,Bc];rw[if_neg (by omega)];omega
theorem aES(n:Nat)(T:eR bs)(hb:1<=bs.length){cell:Int}{e:Nat}{ys:List Int}(hl:ys.length=14){ps:List (Nat×Sm)}{k:Nat}(hk:k<2)(ok:∀p∈ps,lG bs.length p)(up:Up ps)(pl:ps.length<=k)(s6:Sl) :
 ∃(l:List (Nat×Sm)) (t6:Sl),(∀p∈l,lG bs.length p)/\Up l/\l.length<=k+1/\exs pg (call pg (n+1)) (wF cell bs e ys ps (.sh false (bO k)) s6) wB=.next (wF cell bs e ys l (.sh false (bO k)) t6):=by
 have v3:∀ps s6,ev pg (call pg (n+1)) (wF cell bs e ys ps (.sh false (bO k)) s6) (.v 3)=.ok ⟨.lst (ys.map D.int),false,false,[3]⟩:=λ_ _=>bS 3 rfl;have v1:∀ps s6,ev pg (call pg (n+1)) (wF cell bs e ys ps (.sh false (bO k)) s6) (.v 1)=.ok ⟨.lst (aB bs),false,true,[]⟩:=λ_ _=>aW 1 rfl;have v5:∀ps s6,ev pg (call pg (n+1)) (wF cell bs e ys ps (.sh false (bO k)) s6) (.v 5)=.ok (.cl (bO k)):=λ_ _=>bM 5 rfl;have y5:ev pg (call pg (n+1)) (wF cell bs e ys ps (.sh false (bO k)) s6) (.idx (.v 3) (.op .Add (.c (.int 5)) (.v 5)))=.ok (.cl (.int (ys.getD (5+k) 0))):=lI (v3 _ _) rfl (by
  have:=jL (P:=pg) (W:=call pg (n+1)) (Z:=wF cell bs e ys ps (.sh false (bO k)) s6) (aI (.int 5)) (v5 _ _);rw[show(5:Int)+(k:Int)=((5+k:Nat):Int) by omega] at this;exact this) (by omega)
 obtain⟨b,wb,e1⟩:=aBx y5 (v1 _ _) rfl hb;have k1:ex pg (call pg (n+1)) (wF cell bs e ys ps (.sh false (bO k)) s6) (hdS wB)=.next (wF cell bs e ys ps (.sh false (bO k)) (.sh false (bO b))):=cN e1
 let Z:=wF cell bs e ys ps (.sh false (bO k)) (.sh false (bO b))
 have m3:ev pg (call pg (n+1)) Z (.op .Mult (.c (.int 3)) (.v 5))=.ok (.cl (bO (3*k))):=aEO (x:=3) (aI _) (v5 _ _) (by decide) (by omega);have sl:=aOt (P:=pg) (W:=call pg (n+1)) (Z:=Z) (lo:=((7+3*k:Nat):Int)) (hi:=((7+3*k+3:Nat):Int)) (v3 _ _) rfl (by
  have:=jL (aI (P:=pg) (W:=call pg (n+1)) (Z:=Z) (.int 7)) m3;rw[show(7:Int)+((3*k:Nat):Int)=((7+3*k:Nat):Int) by omega] at this;exact this) (by
  have:=jL (aI (P:=pg) (W:=call pg (n+1)) (Z:=Z) (.int 10)) m3;rw[show(10:Int)+((3*k:Nat):Int)=((7+3*k+3:Nat):Int) by omega] at this;exact this) (nY (by omega)) (nY (by omega))
 obtain⟨s,w1,w2,cd⟩:=aER n T (aOu hl (a:=7+3*k) (by omega)) hb wb;have U:ev pg (call pg (n+1)) Z (.v 6)=.ok (.cl (bO b)):=bM 6 rfl;have e6:=bZ sl (v1 _ _) U cd;have po:lG bs.length (b,s):=⟨wb,w1,w2⟩
 have v4:=bS (P:=pg) (W:=call pg (n+1)) (Z:=Z) 4 rfl;have B:=aEK v4 rfl;have G:exs pg (call pg (n+1)) Z (match hdS (drp 1 wB) with|.iff _ a _=>a|_=>.nil)=.next (wF cell bs e ys (ps++[(b,s)]) (.sh false (bO k)) (.sh false (bO b))):=dA (vI (aAj U e6) rfl (by rw[lM];unfold lim;omega) rfl (by rw[Bj];rfl));have I:∀{Z'},ex pg (call pg (n+1)) Z (hdS (drp 1 wB))=.next Z'->exs pg (call pg (n+1)) (wF cell bs e ys ps (.sh false (bO k)) s6) wB=.next Z':=λe=>cs k1 (dA e);rcases(show ps=[]\/∃l p,ps=l++[p] from(GF ps).imp id λ⟨a,b,e⟩=>⟨a,b,by rw[e,GG]⟩) with rfl|⟨l,p,rfl⟩
 refine⟨[(b,s)],_,λp hp=>?_,B9 _ _,by simp,I (aED (aMy (eW B (aI _) rfl)) G)⟩;rw[Ai] at hp;rw[hp];exact po;have q:tst pg (call pg (n+1)) Z (.cmp .Lt (.idx (.idx (.v 4) (.neg (.c (.int 1)))) (.c (.int 0))) (.v 6))=.ok (decide ((p.1:Int)<(b:Int))):=eW (cO (cO v4 (by rw[aJO];rfl) (aEL (f:=dP) l p rfl (oE p))) (aI (.int 0)) (jF _ _ rfl)) U rfl;have L:tst pg (call pg (n+1)) Z (.cmp .Eq (.bi .len (.cons (.v 4) .nil)) (.c (.int 0)))=.ok false:=eW B (aI (.int 0)) (congrArg some (beq_eq_false_iff_ne.mpr (by simp;omega)));by_cases M:p.1<b;rw[A8 (by omega)] at q;exact⟨l++[p]++[(b,s)],_,qZ ok po,aGJ up M,by rw[lA];simp at pl ⊢;omega,I (aED (qX L q) G)⟩;rw[Az (by omega)] at q;exact⟨l++[p],_,ok,up,by omega,I (eC (qX L q))⟩
theorem aET(n:Nat)(T:eR bs)(hb:1<=bs.length)(cell:Int){e:Nat}(he:1<=e):∃w:Way,fE bs.length w/\0<=w.nx/\w.nx<(e:Int)/\call pg (n+2) 10 [.int cell,.lst (aB bs),.int e]=.ok (w.d,false,false):=by
 have q:=sZ (P:=pg) (f:=5) rfl n cell (m:=14) (by decide);have L:=aEs cell 14;generalize strm cell 14=ys at q L;have k1:ex pg (call pg (n+1)) [.sh true (.int cell),.sh true (.lst (aB bs)),.sh true (bO e),.dead,.dead,.dead,.dead] (hdS f10.body)=.next [.sh true (.int cell),.sh true (.lst (aB bs)),.sh true (bO e),.own false (ys.map D.int),.dead,.dead,.dead]:=eL (qY (fF 0 rfl rfl) (aI _) q);have v3:∀ps l s6,ev pg (call pg (n+1)) (wF cell bs e ys ps l s6) (.v 3)=.ok ⟨.lst (ys.map D.int),false,false,[3]⟩:=λ_ _ _=>bS 3 rfl;have y:∀(k:Nat) ps l s6,k<14->ev pg (call pg (n+1)) (wF cell bs e ys ps l s6) (.idx (.v 3) (.c (.int (k:Int))))=.ok (.cl (.int (ys.getD k 0))):=λk _ _ _ hk=>lI (v3 _ _ _) rfl (aI _) (by omega);have y0:=lH (y 4 [] .dead .dead (by decide)) (aI (.int 3)) (by decide);obtain⟨N,eN,hN⟩:=aCn (ys.getD 4 0) (n:=3) (by decide);rw[show((3:Nat):Int)=3 from rfl] at eN;rw[eN] at y0;obtain⟨Z',ef,ps,l,s6,G,I,h3,rfl⟩:=dY (P:=pg) (W:=call pg (n+1)) (Z:=wF cell bs e ys [] .dead .dead) (t:=.n 5) (b:=wB) (λi Z=>∃(ps:List (Nat×Sm)) (l s6:Sl),(∀p∈ps,lG bs.length p)/\Up ps/\ps.length<=i/\Z=wF cell bs e ys ps l s6) (eI y0 rfl (by omega)) ⟨[],_,_,λ_ z=>absurd z Dy,C6,Ah _,rfl⟩ λi hi Z ⟨ps,l,s6,G,I,h3,M⟩=>by
  have q0:i<N:=by simpa using hi
  subst M;obtain⟨U,t6,g1,g2,g3,g4⟩:=aES n T hb (cell:=cell) (e:=e) L (k:=i) (by omega) G I h3 s6;refine⟨wF cell bs e ys ps (.sh false (bO i)) s6,_,?_,g4,U,_,t6,g1,g2,g3,rfl⟩;rw[B3,F1,nI];rfl
 obtain⟨g,w1,w2,cg⟩:=aAr n (aOv L) hb;have e1:=oG (aMB (v3 ps l s6) rfl (aI (.int 4)) (by decide)) (aW 1 rfl) cg;obtain⟨x,B,hx⟩:=aCn (ys.getD 13 0) (n:=e) (by omega);have e3:=lH (y 13 ps l s6 (by decide)) (fF 2 (d:=bO e) rfl rfl) (by omega);rw[B] at e3;have e2:=kU (P:=pg) (W:=call pg (n+1)) (Z:=wF cell bs e ys ps l s6) (b:=.tuple) (bS 4 rfl) (aBt 4 (eX ps));refine⟨⟨g,ps,x⟩,⟨w1,w2,G,I⟩,F0 x,by show(x:Int)<e;omega,aQ (F:=f10) rfl rfl (v:=.cl (Way.d ⟨g,ps,x⟩)) (cs k1 (cs (Z':=wF cell bs e ys [] .dead .dead) rfl (cs ef (eS (aEC e1 e2 e3)))))⟩
variable {bs:List (Str×Int)}
abbrev hF(ns ys:List Int)(bs:List (Str×Int))(N:Nat)(rs:List (List Way))(s5 s6 s7 s8:Sl):Sg:=[.sh true (.lst (ns.map D.int)),.sh true (.lst (ys.map D.int)),.sh true (.lst (aB bs)),.sh false (bO N),.own false (aS rs),s5,s6,s7,s8]
abbrev hB:Ss:=match hdS (drp 2 f11.body) with|.for _ _ b=>b|_=>.nil
abbrev hC:Ss:=match hdS (drp 1 hB) with|.for _ _ b=>b|_=>.nil
noncomputable def WOk(m e:Nat)(w:Way):Prop:=fE m w/\0<=w.nx/\w.nx<(e:Int)+1
theorem aEU(n:Nat)(T:eR bs)(hb:1<=bs.length){ns ys:List Int}(hy:ys.length=13){N k j:Nat}(hN:N<=8)(hk:k<N)(hj:j<4){rs:List (List Way)}{ws:List Way}(hl:ws.length=j)(ok:∀w∈ws,WOk bs.length N w)(l:Sl) :
 ∃(B:List Way) (t8:Sl),B.length=j+1/\(∀w∈B,WOk bs.length N w)/\exs pg (call pg (n+2)) (hF ns ys bs N rs (.sh false (bO k)) (.own false (ws.map Way.d)) (.sh false (bO j)) l) hC=.next (hF ns ys bs N rs (.sh false (bO k)) (.own false (B.map Way.d)) (.sh false (bO j)) t8):=by
 let Z:Sl->Sg:=λl=>hF ns ys bs N rs (.sh false (bO k)) (.own false (ws.map Way.d)) (.sh false (bO j)) l
 have M:∀l,ev pg (call pg (n+2)) (Z l) (.v 5)=.ok (.cl (bO k)):=λ_=>bM 5 rfl;have U:∀l,ev pg (call pg (n+2)) (Z l) (.v 7)=.ok (.cl (bO j)):=λ_=>bM 7 rfl;have G:∀l,ev pg (call pg (n+2)) (Z l) (.idx (.v 1) (.c (.int 12)))=.ok (.cl (.int (ys.getD 12 0))):=λ_=>lI (k:=12) (aW 1 rfl) rfl (aI _) (by omega);have k1:ex pg (call pg (n+2)) (Z l) (hdS hC)=.next (Z (.sh false (.int (ys.getD 12 0+((31*k:Nat):Int)+(j:Int))))):=cN (jL (jL (G _) (aEO (x:=31) (aI _) (M _) (by decide) (by omega))) (U _));have ix:∀l,ev pg (call pg (n+2)) (Z l) (.op .Add (.op .Add (.c (.int 1)) (.op .Mult (.c (.int 4)) (.v 5))) (.v 7))=.ok (.cl (bO (1+4*k+j))):=λl=>by have:=jL (jL (aI (P:=pg) (W:=call pg (n+2)) (Z:=Z l) (.int 1)) (aEO (x:=4) (aI _) (M _) (by decide) (by omega))) (U _);rw[show(1:Int)+((4*k:Nat):Int)+(j:Int)=((1+4*k+j:Nat):Int) by omega] at this;exact this
 have L:∀l,ev pg (call pg (n+2)) (Z l) (.v 0)=.ok ⟨.lst (ns.map D.int),false,true,[]⟩:=λ_=>aW 0 rfl;obtain⟨c,k2⟩:∃c:Int,ex pg (call pg (n+2)) (Z (.sh false (.int (ys.getD 12 0+((31*k:Nat):Int)+(j:Int))))) (hdS (drp 1 hC))=.next (Z (.sh false (.int c))):=by have q:=aEK (L (.sh false (.int (ys.getD 12 0+((31*k:Nat):Int)+(j:Int))))) rfl;rw[lM] at q;by_cases h:1+4*k+j<ns.length;have t:tst pg (call pg (n+2)) (Z (.sh false (.int (ys.getD 12 0+((31*k:Nat):Int)+(j:Int))))) (.cmp .Lt (.op .Add (.op .Add (.c (.int 1)) (.op .Mult (.c (.int 4)) (.v 5))) (.v 7)) (.bi .len (.cons (.v 0) .nil)))=.ok true:=eW (ix _) q (congrArg some (A8 (by omega)));exact⟨_,aED t (dA (cN (lI (L _) rfl (ix _) h)))⟩;have t:tst pg (call pg (n+2)) (Z (.sh false (.int (ys.getD 12 0+((31*k:Nat):Int)+(j:Int))))) (.cmp .Lt (.op .Add (.op .Add (.c (.int 1)) (.op .Mult (.c (.int 4)) (.v 5))) (.v 7)) (.bi .len (.cons (.v 0) .nil)))=.ok false:=eW (ix _) q (congrArg some (Az (by omega)));exact⟨_,eC t⟩
 obtain⟨w,w1,w2,w3,cw⟩:=aET n T hb c (e:=N+1) (by omega);have I:=jL (bM (P:=pg) (W:=call pg (n+2)) (Z:=Z (.sh false (.int c))) 3 (d:=bO N) rfl) (aI (.int 1));rw[show(N:Int)+1=((N+1:Nat):Int) by omega] at I;have e3:=bZ (bM (P:=pg) (W:=call pg (n+2)) (Z:=Z (.sh false (.int c))) 8 rfl) (aW 2 rfl) I cw;refine⟨ws++[w],_,by rw[lA,hl];rfl,qZ ok ⟨w1,w2,by omega⟩,cs k1 (cs k2 (dA (vI e3 rfl (by rw[lM];unfold lim;omega) rfl (by rw[Bj];rfl))))⟩
theorem aCo(n:Nat)(T:eR bs)(hb:1<=bs.length){ns ys:List Int}(hy:ys.length=13){N k:Nat}(hN:N<=8)(hk:k<N){rs:List (List Way)}(hl:rs.length=k)(s6 s7 l:Sl) :
 ∃(ws:List Way) (t6 t7 U:Sl),1<=ws.length/\ws.length<=4/\(∀w∈ws,WOk bs.length N w)/\exs pg (call pg (n+2)) (hF ns ys bs N rs (.sh false (bO k)) s6 s7 l) hB=.next (hF ns ys bs N (rs++[ws]) (.sh false (bO k)) t6 t7 U):=by
 have k1:ex pg (call pg (n+2)) (hF ns ys bs N rs (.sh false (bO k)) s6 s7 l) (hdS hB)=.next (hF ns ys bs N rs (.sh false (bO k)) (.own false []) s7 l):=rfl;have i4:ev pg (call pg (n+2)) (hF ns ys bs N rs (.sh false (bO k)) (.own false []) s7 l) (.idx (.v 1) (.op .Add (.c (.int 4)) (.v 5)))=.ok (.cl (.int (ys.getD (4+k) 0))):=lI (aW 1 rfl) rfl (by
  have:=jL (aI (P:=pg) (W:=call pg (n+2)) (Z:=hF ns ys bs N rs (.sh false (bO k)) (.own false []) s7 l) (.int 4)) (bM 5 (d:=bO k) rfl);rw[show(4:Int)+(k:Int)=((4+k:Nat):Int) by omega] at this;exact this) (by omega)
 obtain⟨M,eM,hM⟩:=aCn (ys.getD (4+k) 0) (n:=4) (by decide);have y0:=lH i4 (aI (.int 4)) (by decide);rw[show((4:Nat):Int)=4 from rfl] at eM;rw[eM] at y0;have y1:=jL (aI (.int 1)) y0;rw[show(1:Int)+(M:Int)=((1+M:Nat):Int) by omega] at y1;obtain⟨Z',ef,ws,I,L,q,B,rfl⟩:=dY (P:=pg) (W:=call pg (n+2)) (Z:=hF ns ys bs N rs (.sh false (bO k)) (.own false []) s7 l) (t:=.n 7) (b:=hC) (λi Z=>∃(ws:List Way) (s7 l:Sl),ws.length=i/\(∀w∈ws,WOk bs.length N w)/\Z=hF ns ys bs N rs (.sh false (bO k)) (.own false (ws.map Way.d)) s7 l) (eI y1 rfl (by omega)) ⟨[],_,_,rfl,λ_ z=>absurd z Dy,rfl⟩ λi hi Z ⟨ws,s7,l,q,B,G⟩=>by
  have q1:i<1+M:=by simpa using hi
  subst G;obtain⟨q0,U,g1,g2,g3⟩:=aEU n T hb (ns:=ns) hy hN hk (j:=i) (by omega) (rs:=rs) q B l;refine⟨hF ns ys bs N rs (.sh false (bO k)) (.own false (ws.map Way.d)) (.sh false (bO i)) l,_,?_,g3,q0,_,U,g1,g2,rfl⟩;rw[B3,F1,nI];rfl
 rw[lM,Cd] at q;refine⟨ws,.sh false (bV ws),I,L,by omega,by omega,B,cs k1 (cs ef (dA ?_))⟩;exact vI (bS 6 rfl) rfl (by rw[lM];unfold lim;omega) rfl (by show(rs++[ws]).map bV=_;rw[Bj];rfl)
theorem aCp(n:Nat)(T:eR bs)(hb:1<=bs.length)(ns:List Int){ys:List Int}(hy:ys.length=13):∃h:List (List Way),aAk bs.length h/\call pg (n+3) 11 [.lst (ns.map D.int),.lst (ys.map D.int),.lst (aB bs)]=.ok (.lst (aS h),true,false):=by
 have i3:∀r,ev pg (call pg (n+2)) (.sh true (.lst (ns.map D.int))::.sh true (.lst (ys.map D.int))::r) (.idx (.v 1) (.c (.int 3)))=.ok (.cl (.int (ys.getD 3 0))):=λ_=>lI (k:=3) (aW 1 rfl) rfl (aI _) (by omega);obtain⟨N,U,hN⟩:=aCn (ys.getD 3 0) (n:=9) (by decide);have y0:=λr=>lH (i3 r) (aI (.int 9)) (by decide);rw[show((9:Nat):Int)=9 from rfl] at U;rw[U] at y0;have k1:ex pg (call pg (n+2)) [.sh true (.lst (ns.map D.int)),.sh true (.lst (ys.map D.int)),.sh true (.lst (aB bs)),.dead,.dead,.dead,.dead,.dead,.dead] (hdS f11.body)=.next [.sh true (.lst (ns.map D.int)),.sh true (.lst (ys.map D.int)),.sh true (.lst (aB bs)),.sh false (bO N),.dead,.dead,.dead,.dead,.dead]:=cN (y0 _);obtain⟨Z',ef,rs,M,s6,s7,B,l,q,rfl⟩:=dY (P:=pg) (W:=call pg (n+2)) (Z:=hF ns ys bs N [] .dead .dead .dead .dead) (t:=.n 5) (b:=hB) (λi Z=>∃(rs:List (List Way)) (M s6 s7 B:Sl),rs.length=i/\(∀ws∈rs,1<=ws.length/\ws.length<=4/\∀w∈ws,WOk bs.length N w)/\Z=hF ns ys bs N rs M s6 s7 B) (eI (n:=N) (bM 3 (d:=bO N) rfl) rfl (by omega)) ⟨[],_,_,_,_,rfl,λ_ z=>absurd z Dy,rfl⟩ λi hi Z ⟨rs,M,s6,s7,B,l,q,L⟩=>by
  have G:i<N:=by simpa using hi
  subst L;obtain⟨ws,t6,t7,t8,g1,g2,g3,g4⟩:=aCo n T hb (ns:=ns) hy (N:=N) (k:=i) (by omega) G l s6 s7 B;refine⟨hF ns ys bs N rs (.sh false (bO i)) s6 s7 B,_,?_,g4,rs++[ws],_,t6,t7,t8,by rw[lA,l];rfl,qZ q ⟨g1,g2,g3⟩,rfl⟩;rw[B3,F1,nI];rfl
 rw[lM,Cd] at l;refine⟨rs,⟨by omega,λws I=>⟨(q ws I).1,(q ws I).2.1,λw hx=>?_⟩⟩,aQ (F:=f11) rfl rfl (v:=⟨.lst (aS rs),true,false,[]⟩) (cs k1 (cs (Z':=hF ns ys bs N [] .dead .dead .dead .dead) rfl (cs ef rfl)))⟩;rw[l];exact(q ws I).2.2 w hx
end K32
namespace K32
open Hp HpS PySem L2
variable {bs:List (Str×Int)}
theorem yQ{bs:List (Str×Int)}:∀i,i<=bs.length->∀st:List Int,st.length=i->InR (bs.take i) st->st∈aE (bs.take i)
 | 0,_,st,h,_=>by rw[Dv.mp h];exact Ai.mpr rfl|i+1,hi,st,h,hr=>by
  rcases GF st with rfl|⟨a,x,rfl⟩
  cases h;rw[GG] at h hr ⊢;rw[lA,E9] at h;have G:=hr i x bs[i] (by rw[A1 (by omega),show i-a.length=0 by omega];rfl) (by rw[Dm (by omega)];exact Ae hi);rw[dZ hi];refine Be.mpr ⟨a,yQ i (by omega) a (by omega) λj y b q l=>?_,Ax.mpr ⟨x.toNat,BA.mpr (by omega),by rw[Ds G.1]⟩⟩;have B:j<a.length:=(Ar.mp q).1;rw[Dm (by omega)] at l;exact hr j y b (by rw[A5 B];exact q) (by rw[Dm (by omega)];exact l)
theorem aJY{st:List Int}(l:st.length=bs.length)(q:InR bs st):st∈aE bs:=by have:=yQ (bs:=bs) bs.length (Ah _) st l (by rw[Bn];exact q);rwa [Bn] at this
theorem aBy{st:List Int}:∀(ps:List (Nat×Sm)) {acc r:List Int},acc.length=bs.length->InR bs acc->putF bs st acc ps=some r->r.length=bs.length/\InR bs r
 | [],_,_,h1,h2,h=>by cases h;exact⟨h1,h2⟩|p::ps,acc,r,h1,h2,h=>by
  unfold putF at h;split at h;rename_i B;refine aBy ps (by rw[AM];exact h1) (λj a b l q=>?_) h;rw[List.getElem?_set] at l;split at l;rename_i e;subst e;split at l;cases l;have:jG bs p.1=b.2:=by unfold jG;rw[CU,A2,q];rfl
  rw[<-this];exact B;cases l;exact h2 j a b l q;cases h
theorem aJZ{w:Way}{st r:List Int}(hs:st∈aE bs)(h:jH bs w st=some r):r∈aE bs:=by unfold jH at h;split at h;obtain⟨B,G⟩:=rA hs;obtain⟨l,q⟩:=aBy w.ps B G h;exact aJY l q;cases h
noncomputable def eF(bs:List (Str×Int))(w:Way)(s:List Int):Option NK:=match jH bs w s with|some r=>if s=r then none else some [s,r]|none=>none
noncomputable def fU(bs:List (Str×Int))(w:Way):List NK:=(aE bs).filterMap (eF bs w)
abbrev eB(bs:List (Str×Int))(ws:List Way):List NK:=ws.flatMap (fU bs)
abbrev bD(bs:List (Str×Int))(h:List (List Way)):List NK:=h.flatMap (eB bs)
noncomputable def aAs(bs:List (Str×Int)):List NK:=(aE bs).flatMap λa=>(aE bs).map λb=>[a,b]
theorem aGM{w:Way}{s:List Int}{k:NK}(hs:s∈aE bs)(h:eF bs w s=some k):k∈aAs bs:=by unfold eF at h;split at h;rename_i r l;split at h;cases h;cases h;exact Be.mpr ⟨s,hs,Ax.mpr ⟨r,aJZ hs l,rfl⟩⟩;cases h
theorem mX{ws:List Way}{k:NK}(h:k∈eB bs ws):k∈aAs bs:=by obtain⟨w,_,h⟩:=Be.mp h;obtain⟨s,hs,h⟩:=Bs.mp h;exact aGM hs h
theorem dL{l:List (List Way)}{k:NK}(h:k∈bD bs l):k∈aAs bs:=by obtain⟨ws,_,h⟩:=Be.mp h;exact mX h
theorem lK{α q:Type}(f:α->List q)(c:Nat)(h:∀a,(f a).length<=c):∀l:List α,(l.flatMap f).length<=l.length*c
 | []=>AL _|a::l=>by rw[C8,lA,lC,Ib];have:=h a;have:=lK f c h l;omega
theorem s24(T:eR bs):(aE bs).length<=24:=by have:=aHu T bs.length (Ah _);rwa [Bn] at this
theorem aEV(T:eR bs):(aAs bs).length<=576:=AC (lK _ 24 (λa=>by rw[lM];exact s24 T) _) (Nat.mul_le_mul (s24 T) (Ah 24))
theorem aEW(T:eR bs){l:List NK}(nd:l.Nodup)(h:∀k∈l,k∈aAs bs):l.length<=700:=by have:=nd.length_le_of_subset h;have:=aEV T;omega
theorem rE(T:eR bs){l:List NK}(h:∀k∈l,k∈aAs bs):(ssN l).length<=700:=aEW T (aJc l) λk q=>h k (fM.mp q)
theorem aEX{l:List NK}(h:∀k∈l,k∈aAs bs):neN l=true:=Bo.mpr λk q=>by obtain⟨a,_,h⟩:=Be.mp (h k q);obtain⟨b,_,rfl⟩:=Ax.mp h;rfl
theorem jY(T:eR bs)(w:Way):(fU bs w).length<=24:=AC (List.length_filterMap_le _ _) (s24 T)
noncomputable def isS(s:List Int):Option (List Int)->Bool
 | none=>false|some r=>!(s==r)
theorem yR(n:Nat)(s:List Int)(o:Option (List Int)):call pg (n+1) 4 [.tup [aK s,stD o]]=.ok (.bl (isS s o),false,false):=by
 have l:=fF (P:=pg) (W:=call pg n) (Z:=[.sh true (.tup [aK s,stD o])]) 0 rfl (vE (bC s) (vH o));have q:=cO l (aI (.int 0)) (jF (aK s) [stD o] (bC s));have i1:=cO l (aI (.int 1)) (mR (aK s) (stD o) [] (vH o));have e:bU .NotEq (aK s) (stD o)=some (match o with|none=>true|some r=>!(s==r)):=by
  rw[qQ];cases o with
  | none=>rfl|some r=>rw[show stD (some r)=aK r from rfl,yN];rfl
 have:=aMm (aHw i1 (aI .non) aEG) (aHw q i1 e);refine aQ (F:=f4) rfl rfl (v:=.cl (.bl (isS s o))) (eS (this.trans ?_));cases o with
 | none=>rfl|some r=>exact congrArg (λb=>R.ok (Vl.cl (.bl b))) (Hy _)
abbrev iJ(bs:List (Str×Int))(w:Way)(s:List Int):D:=.tup [aK s,stD (jH bs w s)]
theorem rF(w:Way)(s:List Int):noL (iJ bs w s)=true:=vE (bC s) (vH _)
theorem aEY(w:Way):∀ss:List (List Int),(ss.filter λs=>isS s (jH bs w s)).map (iJ bs w)=(ss.filterMap (eF bs w)).map aH
 | []=>rfl|s::ss=>by
  rw[IX,BL];have l:=aEY w ss;unfold eF;cases q:jH bs w s with
  | none=>exact l|some r=>
   by_cases e:s=r;subst e;have:isS s (some s)=false:=by show(!(s==s))=false;rw[beq_self_eq_true];rfl
   rw[this,if_neg bN];dsimp only;rw[if_pos rfl];exact l;have:isS s (some r)=true:=by show(!(s==r))=true;rw[beq_eq_false_iff_ne.mpr e];rfl
   rw[this,if_pos rfl];dsimp only;rw[if_neg e,mC,mC];refine congr (congrArg List.cons ?_) l;show D.tup [aK s,stD (jH bs w s)]=_;rw[q];rfl
section
variable {P:Pg} {W:Caller} {Z:Sg}
theorem aMC{i:Nat}{e:E}{ds ds' r:List D}(h:ev P W Z e=.ok ⟨.lst ds',true,false,[]⟩)(n:noLs ds'=true)(hi:Z[i]? = some (.own false ds))(q:r.length<=lim)(l:r=ds++ds'):ex P W Z (.ext i e)=.next (Z.set i (.own false r)):=by
 subst l;have s:oX (⟨.lst ds',true,false,[]⟩:Vl)=some (.cl .non,ds'):=by show some (Vl.mk .non false (false&&!noLs ds') (if noLs ds'=true then [] else []),ds')=_;rw[n];rfl
 rw[aEo,h,aT,s];show put Z i (.cl .non) (λds=>some (ds++ds'))=_;unfold put jJ;rw[fX,bY,hi];show(if (ds++ds').length<=lim then O.next _ else .bad)=_;rw[if_pos q];rfl
end
theorem aEZ{W:Caller}{Z:Sg}{a:E}{x:Vl}{ks:List NK}(B:ev pg W Z a=.ok x)(G:x.d=.lst (ks.map aH))(l:neN ks=true)(q:(ssN ks).length<=700):ev pg W Z (.sst a)=.ok ⟨.lst ((ssN ks).map aH),true,false,[]⟩:=by
 show(ev pg W Z a >>= λx=>(match x.d with
  | .lst as=>(match gK as with
   | some ks=>R.iff (neN ks&&decide ((ssN ks).length<=700)) (R.ok (⟨.lst ((ssN ks).map aH),true,false,[]⟩:Vl))|_=>.bad)
  | _=>.bad))=_
 rw[B,aA,G];show(match gK (ks.map aH) with
  | some ks=>R.iff (neN ks&&decide ((ssN ks).length<=700)) (R.ok (⟨.lst ((ssN ks).map aH),true,false,[]⟩:Vl))|_=>.bad)=_
 rw[rD];show R.iff (neN ks&&decide ((ssN ks).length<=700)) _=_;rw[l,A8 q];rfl
theorem aHB{v:Vl}{d:D}(h:Hp.noL d=true):Vl.sub v d=.cl d:=by unfold Vl.sub;rw[if_pos h]
theorem aAt{v:Vl}(ks:List NK):items v (ks.map aH)=ks.map λk=>Vl.cl (aH k):=eK lJ ks
theorem aKa(a b:List Int):cP (.cl (aH [a,b])) (.cl (.int 0))=.ok (.cl (aK a)):=by show R.ok (Vl.sub _ (aK a))=_;rw[aHB (bC a)]
theorem aKb(a b:List Int):cP (.cl (aH [a,b])) (.cl (.int 1))=.ok (.cl (aK b)):=by show R.ok (Vl.sub _ (aK b))=_;rw[aHB (bC b)]
theorem aGN(n:Nat){ks:List NK}(L:∀k∈ks,∃a b,k=[a,b]):call pg (n+1) 13 [.lst (ks.map aH),.lst (ks.map aH)]=.ok (.bl true,false,false):=by
 let l:Sl:=.sh true (.lst (ks.map aH))
 have W:walk pg (call pg n) [l,l,.dead] (.seq (.v 0))=.ok (ks.map (λk=>Vl.cl (aH k)),[]):=by show R.ok (items _ (ks.map aH),[])=_;rw[aAt]
 have I:ex pg (call pg n) [l,l,.dead] (hdS f13.body)=.next [l,l,.dead]:=by refine(cD (P:=pg) _ _ _).trans ?_;rw[dX,fD,iX];show O.from _ (tst pg (call pg n) [l,l,.dead] (.cmp .NotEq (.v 0) (.v 1))) _=_;rw[bT];show O.from _ (match (eqD (.lst (ks.map aH)) (.lst (ks.map aH))).map (!·) with|some k=>R.ok k|none=>.bad) _=_;rw[yO];rfl
 obtain⟨Z',e,M⟩:=dY (t:=.n 2) (b:=match hdS (drp 1 f13.body) with|.for _ _ b=>b|_=>.nil) (λi Z=>∃s2,Z=[l,l,s2]) W ⟨_,rfl⟩ (λi hi Z B=>by
  obtain⟨s2,rfl⟩:=B;have q:i<ks.length:=by simpa using hi
  obtain⟨a,b,U⟩:=L ks[i] (AG q);have G:ev pg (call pg n) [l,l,.sh false (aH [a,b])] (.v 2)=.ok (.cl (aH [a,b])):=rfl;refine⟨[l,l,.sh false (aH [a,b])],[l,l,.sh false (aH [a,b])],by simp[U],?_,_,rfl⟩;refine(stp (Z':=[l,l,.sh false (aH [a,b])]) ?_).trans ((stp (Z':=[l,l,.sh false (aH [a,b])]) ?_).trans rfl);rw[cD,dX,fD,iX,G,aA,fD,iX,dW,G,aA,aI,aA,aKa];rfl;rw[cD,fD,iX,dW,G,aA,aI,aA,aKb];rfl)
 obtain⟨s2,rfl⟩:=M;refine aQ (F:=f13) rfl rfl (v:=.cl (.bl true)) ?_;exact(stp I).trans ((stp e).trans rfl)
variable {bs:List (Str×Int)}
abbrev oF(bs:List (Str×Int))(h:List (List Way))(acc:List NK)(s4 s5 s6:Sl):Sg:=[.sh true (.lst (aB bs)),.sh true (.lst (aS h)),.own false ((aE bs).map aK),.own false (acc.map aH),s4,s5,s6]
abbrev oB:Ss:=match hdS (drp 2 f3.body) with|.for _ _ b=>b|_=>.nil
abbrev oC:Ss:=match hdS oB with|.for _ _ b=>b|_=>.nil
theorem aFa(n:Nat)(T:eR bs){h:List (List Way)}{w:Way}(o:fE bs.length w){acc:List NK}(L:acc.length<=5000)(s4 s6:Sl) :
 ∃I,exs pg (call pg (n+32)) (oF bs h acc s4 (.sh false w.d) s6) oC=.next (oF bs h (acc++fU bs w) s4 (.sh false w.d) I):=by
 have l:=s24 T;have q:ev pg (call pg (n+32)) (oF bs h acc s4 (.sh false w.d) s6) (.comp 1 [0,5] (.n 0) (.seq (.v 2)) .nil (.tup (.cons (.v 0) (.cons (.call 2 (.cons (.v 1) (.cons (.v 2) (.cons (.v 0) .nil)))) .nil))))=.ok ⟨.lst ((aE bs).map (iJ bs w)),true,false,[]⟩:=
  vD (al:=[2]) (λs=>Vl.cl (aK s)) (iJ bs w) (rF w) (by
   rw[bR,bS 2 rfl,aA];show R.ok (items _ ((aE bs).map aK),[2])=_;rw[gI]) (AC l (by decide)) λs hs=>⟨[.sh false (aK s),.sh true (.lst (aB bs)),.sh false w.d],rfl,aAj (bM 0 rfl) (bZ (aW 1 rfl) (bM 2 rfl) (bM 0 rfl) (qW n (rA hs).1 T.few o))⟩
 have G:ex pg (call pg (n+32)) (oF bs h acc s4 (.sh false w.d) s6) (hdS oC)=.next (oF bs h acc s4 (.sh false w.d) (.own false ((aE bs).map (iJ bs w)))):=eL q;have B:ev pg (call pg (n+32)) (oF bs h acc s4 (.sh false w.d) (.own false ((aE bs).map (iJ bs w)))) (.comp 1 [] (.n 0) (.seq (.v 6)) (.cons (.call 4 (.cons (.v 0) .nil)) .nil) (.v 0))=.ok ⟨.lst ((fU bs w).map aH),true,false,[]⟩:=by
  have:=aJT (P:=pg) (W:=call pg (n+32)) (Z:=oF bs h acc s4 (.sh false w.d) (.own false ((aE bs).map (iJ bs w)))) (k:=1) (caps:=[]) (T:=.n 0) (it:=.seq (.v 6)) (c:=.call 4 (.cons (.v 0) .nil)) (elt:=.v 0) (al:=[6]) (ts:=aE bs) (λs=>Vl.cl (iJ bs w s)) (iJ bs w) (λs=>isS s (jH bs w s)) (rF w) (by
   rw[bR,bS 6 rfl,aA];show R.ok (items _ ((aE bs).map (iJ bs w)),[6])=_;rw[eK (rF w)]) (AC l (by decide)) λs hs=>⟨[.sh false (iJ bs w s)],rfl,aGI (bM 0 rfl) (yR (n+31) s _),bM 0 rfl⟩
  rw[aEY] at this;exact this
 have M:=jY T w;exact⟨_,cs G (dA (aMC B (cK lJ _) rfl (by rw[lM,lA];unfold lim;omega) (by rw[Bj])))⟩
theorem aGO(n:Nat)(T:eR bs){h:List (List Way)}{ws:List Way}(o:∀w∈ws,fE bs.length w)(hf:ws.length<=4){acc:List NK}(hl:acc.length<=1000)(l s6:Sl) :
 ∃t5 L,exs pg (call pg (n+32)) (oF bs h acc (.sh true (bV ws)) l s6) oB=.next (oF bs h (acc++eB bs ws) (.sh true (bV ws)) t5 L):=by
 obtain⟨Z',M,G,I,rfl⟩:=dY (P:=pg) (W:=call pg (n+32)) (Z:=oF bs h acc (.sh true (bV ws)) l s6) (t:=.n 5) (it:=.seq (.v 4)) (b:=oC) (al:=[]) (xs:=ws.map λw=>Vl.cl w.d) (λi Z=>∃l s6,Z=oF bs h (acc++eB bs (ws.take i)) (.sh true (bV ws)) l s6) (by
  rw[bR,aW 4 rfl,aA];show R.ok (items _ (ws.map Way.d),[])=_;rw[eK eO]) ⟨l,s6,by rw[C2];show _=oF bs h (acc++[]) _ _ _;rw[AV];rfl⟩ λi hi Z ⟨l,s6,B⟩=>by
  have q:i<ws.length:=by simpa using hi
  subst B;have U:=lK (fU bs) 24 (jY T) (ws.take i);rw[Bc] at U;obtain⟨L,e⟩:=aFa n T (h:=h) (o ws[i] (AG q)) (acc:=acc++eB bs (ws.take i)) (by rw[lA];show acc.length+((ws.take i).flatMap (fU bs)).length<=5000;omega) (.sh true (bV ws)) s6;refine⟨oF bs h (acc++eB bs (ws.take i)) (.sh true (bV ws)) (.sh false ws[i].d) s6,_,by rw[B3,nI];rfl,e,.sh false ws[i].d,L,?_⟩;rw[AD,AI q];show _=oF bs h (acc++(ws.take i++[ws[i]]).flatMap (fU bs)) _ _ _;rw[Dt,C8,FX,AV]
 rw[lM,Bn] at M;exact⟨G,I,dA M⟩
theorem vN(n:Nat)(T:eR bs){h:List (List Way)}(o:∀ws∈h,ws.length<=4/\∀w∈ws,fE bs.length w)(hf:h.length<=8):call pg (n+33) 3 [.lst (aB bs),.lst (aS h)]=.ok (.lst ((ssN (bD bs h)).map aH),true,false):=by
 have G:=sY (P:=pg) (f:=7) rfl (n+31) T;have k1:ex pg (call pg (n+32)) [.sh true (.lst (aB bs)),.sh true (.lst (aS h)),.dead,.dead,.dead,.dead,.dead] (hdS f3.body)=.next [.sh true (.lst (aB bs)),.sh true (.lst (aS h)),.own false ((aE bs).map aK),.dead,.dead,.dead,.dead]:=eL (vJ (aW 0 rfl) G);obtain⟨Z',M,s4,B,s6,rfl⟩:=dY (P:=pg) (W:=call pg (n+32)) (Z:=oF bs h [] .dead .dead .dead) (t:=.n 4) (it:=.seq (.v 1)) (b:=oB) (al:=[]) (xs:=h.map λws=>(⟨bV ws,false,true,[]⟩:Vl)) (λi Z=>∃s4 B s6,Z=oF bs h (bD bs (h.take i)) s4 B s6) (by
  rw[bR,aW 1 rfl,aA];show R.ok (items _ (aS h),[])=_;unfold items;rw[A7];rfl) ⟨_,_,_,by rw[C2];rfl⟩ λi hi Z ⟨s4,B,s6,L⟩=>by
  have q:i<h.length:=by simpa using hi
  subst L;obtain⟨o1,o2⟩:=o h[i] (AG q);have hr:(bD bs (h.take i)).length<=(h.take i).length*96:=by
   clear o1 o2;have:∀l:List (List Way),(∀ws∈l,ws.length<=4)->(bD bs l).length<=l.length*96:=λl=>by
    induction l with
    | nil=>intro _;exact AL _|cons ws l ih=>intro U;have h1:=ih λx hx=>U x (Ag _ hx);have h2:=lK (fU bs) 24 (jY T) ws;have h3:=U ws Ak;show(eB bs ws++bD bs l).length<=_;rw[lA,lC];show(ws.flatMap (fU bs)).length+(bD bs l).length<=_;omega
   exact this _ λws hw=>(o ws (BF hw)).1
  rw[Bc] at hr;obtain⟨t5,t6,e⟩:=aGO n T (h:=h) o2 o1 (acc:=bD bs (h.take i)) (by omega) B s6;refine⟨oF bs h (bD bs (h.take i)) (.sh true (bV h[i])) B s6,_,by rw[B3,fY];rfl,e,.sh true (bV h[i]),t5,t6,?_⟩;rw[AI q];show _=oF bs h ((h.take i++[h[i]]).flatMap (eB bs)) _ _ _;rw[Dt,C8,FX,AV]
 rw[lM,Bn] at M;refine aQ (F:=f3) rfl rfl (v:=⟨.lst ((ssN (bD bs h)).map aH),true,false,[]⟩) (cs k1 (cs (Z':=oF bs h [] .dead .dead .dead) rfl (cs M (eS (aEZ (bS 3 rfl) rfl (aEX λk I=>dL I) (rE T λk I=>dL I))))))
variable {bs:List (Str×Int)}
theorem aOw{W:Caller}{l a1 q B G I:Sl}{m:List (NK×D)}{e:E}{k:NK}(L:ev pg W [l,a1,.dct m,q,B,G,I] e=.ok (.cl (aH k)))(M:m.length<lim):ex pg W [l,a1,.dct m,q,B,G,I] (.dput 2 e)=.next [l,a1,.dct (kF m (k,.bl true)),q,B,G,I]:=by show O.from _ (ev pg W [l,a1,.dct m,q,B,G,I] e) _=_;rw[L,aT];show(match some (Sl.dct m),kE (aH k) with|some (.dct ks),some k=>(if ks.length<lim then O.next ([l,a1,.dct m,q,B,G,I].set 2 (.dct (kF ks (k,.bl true)))) else .bad)|_,_=>.bad)=_;rw[tD];show(if m.length<lim then _ else _)=_;rw[if_pos M];rfl
structure Dk (bs:List (Str×Int)) (h:List (List Way)) (m:List (NK×D)):Prop where
 nd:(m.map (·.1)).Nodup
 sb:∀k∈m.map (·.1),k∈bD bs h
theorem Dk.len(T:eR bs){h:List (List Way)}{m:List (NK×D)}(d:Dk bs h m):m.length<=700:=by have:=aEW T d.nd λk l=>dL (d.sb k l);rwa [lM] at this
abbrev dF(bs:List (Str×Int))(h:List (List Way))(m:List (NK×D))(s3 s4 s5 s6:Sl):Sg:=[.sh true (.lst (aB bs)),.sh true (.lst (aS h)),.dct m,s3,s4,s5,s6]
abbrev dB:Ss:=match hdS (drp 1 f12.body) with|.for _ _ b=>b|_=>.nil
abbrev dC:Ss:=match hdS dB with|.for _ _ b=>b|_=>.nil
abbrev dE:Ss:=match hdS dC with|.for _ _ b=>b|_=>.nil
theorem aMD{h:List (List Way)}{ws:List Way}{w:Way}{s:List Int}{k:NK}(l:ws∈h)(q:w∈ws)(B:s∈aE bs)(G:eF bs w s=some k):k∈bD bs h:=Be.mpr ⟨ws,l,Be.mpr ⟨w,q,Bs.mpr ⟨s,B,G⟩⟩⟩
theorem aFb(n:Nat)(T:eR bs){h:List (List Way)}{m:List (NK×D)}(d:Dk bs h m){ws:List Way}{w:Way}(W:ws∈h)(hx:w∈ws)(o:fE bs.length w){s:List Int}(hs:s∈aE bs)(s4 s6:Sl) :
 ∃L t6,Dk bs h L/\(∀k∈m.map (·.1),k∈L.map (·.1))/\(∀k,eF bs w s=some k->k∈L.map (·.1))/\exs pg (call pg (n+32)) (dF bs h m (.sh false (aK s)) s4 (.sh false w.d) s6) dE=.next (dF bs h L (.sh false (aK s)) s4 (.sh false w.d) t6):=by
 have q:ex pg (call pg (n+32)) (dF bs h m (.sh false (aK s)) s4 (.sh false w.d) s6) (hdS dE)=.next (dF bs h m (.sh false (aK s)) s4 (.sh false w.d) (.sh false (stD (jH bs w s)))):=cN (bZ (aW 0 rfl) (bM 5 rfl) (bM 3 rfl) (qW n (rA hs).1 T.few o));have G:ev pg (call pg (n+32)) (dF bs h m (.sh false (aK s)) s4 (.sh false w.d) (.sh false (stD (jH bs w s)))) (.v 6)=.ok (.cl (stD (jH bs w s))):=bM 6 rfl;have M:ev pg (call pg (n+32)) (dF bs h m (.sh false (aK s)) s4 (.sh false w.d) (.sh false (stD (jH bs w s)))) (.v 3)=.ok (.cl (aK s)):=bM 3 rfl;cases I:jH bs w s with
 | none=>
  have l:eF bs w s=none:=by unfold eF;rw[I]
  rw[I] at q G M;have B:=eW (o:=.IsNot) G (aI .non) (aEG (o:=none));refine⟨m,_,d,λ_ h=>h,λk z=>(by rw[l] at z;cases z),cs q (dA (eC (a:=.cons (.dput 2 (.tup (.cons (.v 3) (.cons (.v 6) .nil)))) .nil) ?_))⟩;rw[qN,B];rfl
 | some r=>
  rw[I] at q G M;have e:bU .NotEq (stD (some r)) (aK s)=some (!(r==s)):=by rw[qQ,show stD (some r)=aK r from rfl,yN];rfl
  have B:=aOr (eW (o:=.IsNot) G (aI .non) (aEG (o:=some r))) (eW G M e);by_cases z:s=r;have l:eF bs w s=none:=by unfold eF;rw[I];exact if_pos z
  rw[z,beq_self_eq_true] at B;rw[z] at q l;rw[z];exact⟨m,_,d,λ_ h=>h,λk y=>(by rw[l] at y;cases y),cs q (dA (eC B))⟩;have l:eF bs w s=some [s,r]:=by unfold eF;rw[I];exact if_neg z
  rw[beq_eq_false_iff_ne.mpr λy:r=s=>z y.symm] at B;have hl:=d.len T;have kp:=aOw (k:=[s,r]) (aAj M G) (show m.length<lim by unfold lim;omega);refine⟨kF m ([s,r],.bl true),_,⟨aJW d.nd _ _,λk U=>?_⟩,λk U=>(vM _ _ _ k).mpr (.inl U),λk y=>?_,cs q (dA (aED B (dA kp)))⟩;rcases(vM _ _ _ k).mp U with y|y;exact d.sb k y;rw[y];exact aMD W hx hs l;rw[l] at y;cases y;exact(vM _ _ _ _).mpr (.inr rfl)
theorem aGP(n:Nat)(T:eR bs){h:List (List Way)}{m:List (NK×D)}(d:Dk bs h m){ws:List Way}(hw:ws∈h)(o:∀w∈ws,fE bs.length w){s:List Int}(hs:s∈aE bs)(B s6:Sl) :
 ∃l t5 t6,Dk bs h l/\(∀k∈m.map (·.1),k∈l.map (·.1))/\(∀w∈ws,∀k,eF bs w s=some k->k∈l.map (·.1))/\exs pg (call pg (n+32)) (dF bs h m (.sh false (aK s)) (.sh true (bV ws)) B s6) dC=.next (dF bs h l (.sh false (aK s)) (.sh true (bV ws)) t5 t6):=by
 obtain⟨Z',ef,l,q0,q3,d',M,L,rfl⟩:=dY (P:=pg) (W:=call pg (n+32)) (Z:=dF bs h m (.sh false (aK s)) (.sh true (bV ws)) B s6) (t:=.n 5) (it:=.seq (.v 4)) (b:=dE) (al:=[]) (xs:=ws.map λw=>Vl.cl w.d) (λi Z=>∃l B s6,Dk bs h l/\(∀k∈m.map (·.1),k∈l.map (·.1))/\(∀w∈ws.take i,∀k,eF bs w s=some k->k∈l.map (·.1))/\Z=dF bs h l (.sh false (aK s)) (.sh true (bV ws)) B s6) (by
  rw[bR,aW 4 rfl,aA];show R.ok (items _ (ws.map Way.d),[])=_;rw[eK eO]) ⟨m,B,s6,d,λ_ h=>h,λw z=>(by rw[C2] at z;cases z),rfl⟩ λi hi Z ⟨l,B,s6,d',M,L,U⟩=>by
  have q:i<ws.length:=by simpa using hi
  subst U;obtain⟨m2,t6,d2,q1,q2,e⟩:=aFb n T d' hw (AG q) (o _ (AG q)) hs (.sh true (bV ws)) s6;refine⟨dF bs h l (.sh false (aK s)) (.sh true (bV ws)) (.sh false ws[i].d) s6,_,by rw[B3,nI];rfl,e,m2,_,t6,d2,λk G=>q1 k (M k G),λw I k G=>?_,rfl⟩;rw[AI q] at I;rcases AJ.mp I with z|z;exact q1 k (L w z k G);rw[Ai.mp z] at G;exact q2 k G
 rw[lM,Bn] at L;exact⟨l,q0,q3,d',M,L,dA ef⟩
theorem aCq(n:Nat)(T:eR bs){h:List (List Way)}(o:∀ws∈h,∀w∈ws,fE bs.length w){m:List (NK×D)}(d:Dk bs h m){s:List Int}(hs:s∈aE bs)(s4 q s6:Sl) :
 ∃l t4 t5 t6,Dk bs h l/\(∀k∈m.map (·.1),k∈l.map (·.1))/\(∀ws∈h,∀w∈ws,∀k,eF bs w s=some k->k∈l.map (·.1))/\exs pg (call pg (n+32)) (dF bs h m (.sh false (aK s)) s4 q s6) dB=.next (dF bs h l (.sh false (aK s)) t4 t5 t6):=by
 obtain⟨Z',ef,l,q3,q4,q5,d',M,I,rfl⟩:=dY (P:=pg) (W:=call pg (n+32)) (Z:=dF bs h m (.sh false (aK s)) s4 q s6) (t:=.n 4) (it:=.seq (.v 1)) (b:=dC) (al:=[]) (xs:=h.map λws=>(⟨bV ws,false,true,[]⟩:Vl)) (λi Z=>∃l s4 q s6,Dk bs h l/\(∀k∈m.map (·.1),k∈l.map (·.1))/\(∀ws∈h.take i,∀w∈ws,∀k,eF bs w s=some k->k∈l.map (·.1))/\Z=dF bs h l (.sh false (aK s)) s4 q s6) (by
  rw[bR,aW 1 rfl,aA];show R.ok (items _ (aS h),[])=_;unfold items;rw[A7];rfl) ⟨m,s4,q,s6,d,λ_ h=>h,λw z=>(by rw[C2] at z;cases z),rfl⟩ λi hi Z ⟨l,s4,q,s6,d',M,I,q0⟩=>by
  have B:i<h.length:=by simpa using hi
  subst q0;obtain⟨m2,t5,t6,d2,q1,q2,e⟩:=aGP n T d' (AG B) (o _ (AG B)) hs q s6;refine⟨dF bs h l (.sh false (aK s)) (.sh true (bV h[i])) q s6,_,by rw[B3,fY];rfl,e,m2,_,t5,t6,d2,λk L=>q1 k (M k L),λws G w U k L=>?_,rfl⟩;rw[AI B] at G;rcases AJ.mp G with z|z;exact q1 k (I ws z w U k L);rw[Ai.mp z] at U;exact q2 w U k L
 rw[lM,Bn] at I;exact⟨l,q3,q4,q5,d',M,I,dA ef⟩
theorem aGQ(n:Nat)(T:eR bs){h:List (List Way)}(o:∀ws∈h,∀w∈ws,fE bs.length w):call pg (n+33) 12 [.lst (aB bs),.lst (aS h)]=.ok (.lst ((ssN (bD bs h)).map aH),true,false):=by
 have L:=sY (P:=pg) (f:=7) rfl (n+31) T;obtain⟨Z',ef,m,s3,s4,B,s6,d,g,rfl⟩:=dY (P:=pg) (W:=call pg (n+32)) (Z:=dF bs h [] .dead .dead .dead .dead) (t:=.n 3) (it:=.seq (.call 7 (.cons (.v 0) .nil))) (b:=dB) (al:=[]) (xs:=(aE bs).map λs=>Vl.cl (aK s)) (λi Z=>∃m s3 s4 B s6,Dk bs h m/\(∀s∈(aE bs).take i,∀ws∈h,∀w∈ws,∀k,eF bs w s=some k->k∈m.map (·.1))/\Z=dF bs h m s3 s4 B s6) (by
  rw[bR,vJ (aW 0 rfl) L,aA];show R.ok (items _ ((aE bs).map aK),[])=_;rw[gI]) ⟨[],_,_,_,_,⟨Fm,λk z=>absurd z Dy⟩,λs z=>(by rw[C2] at z;cases z),rfl⟩ λi hi Z ⟨m,s3,s4,B,s6,d,g,U⟩=>by
  have q:i<(aE bs).length:=by simpa using hi
  subst U;obtain⟨m2,t4,t5,t6,d2,q1,q2,e⟩:=aCq n T o d (AG q) s4 B s6;refine⟨dF bs h m (.sh false (aK (aE bs)[i])) s4 B s6,_,by rw[B3,nI];rfl,e,m2,_,t4,t5,t6,d2,λs hs ws G w I k l=>?_,rfl⟩;rw[AI q] at hs;rcases AJ.mp hs with z|z;exact q1 k (g s z ws G w I k l);rw[Ai.mp z] at l;exact q2 ws G w I k l
 rw[lM,Bn] at g;have e:ssN (m.map (·.1))=ssN (bD bs h):=aAq λk=>⟨d.sb k,λl=>by
  obtain⟨ws,G,l⟩:=Be.mp l;obtain⟨w,I,l⟩:=Be.mp l;obtain⟨s,hs,l⟩:=Bs.mp l;exact g s hs ws G w I k l⟩
 have M:neN (m.map (·.1))=true:=aEX λk l=>dL (d.sb k l);refine aQ (P:=pg) (W:=call pg (n+32)) (f:=12) (ds:=[.lst (aB bs),.lst (aS h)]) (F:=f12) rfl rfl (v:=⟨.lst ((ssN (bD bs h)).map aH),true,false,[]⟩) (cs (Z':=dF bs h [] .dead .dead .dead .dead) rfl (cs ef ?_));show(O.from _ (R.iff (neN (m.map (·.1))&&decide (m.length<=700)) _) O.ret).on _=_;rw[M,A8 (d.len T),<-e];rfl
theorem aGR{m:Nat}{w:Way}(o:fE m w):okE 118 w.d=true:=by have l:=vK w.g (116-w.g.sz);rw[show 116-w.g.sz+w.g.sz+1=117 by have:=o.gs;omega] at l;show(okE 117 w.g.d&&((w.ps.map dP).all (okE 116)&&(true&&true)))=true;rw[l,Hy,DF,DF,Go,Bo];intro p B;have q:=rB p.2 (114-p.2.sz);rw[show 114-p.2.sz+p.2.sz+1=115 by have:=(o.ps p B).sz;omega] at q;show(true&&(okE 115 p.2.d&&true))=true;rw[q];rfl
theorem aGS{m:Nat}{h:List (List Way)}(o:aAk m h):eqD (.lst (aS h)) (.lst (aS h))=some true:=by refine yL 120 _ ?_;show(aS h).all (okE 119)=true;rw[Go,Bo];intro ws l;show(ws.map Way.d).all (okE 118)=true;rw[Go,Bo];exact λw q=>aGR ((o.ok ws l).ok w q).1
variable {bs:List (Str×Int)} {h:List (List Way)}
noncomputable def HS(h:List (List Way))(s:Sl):Prop:=s=.own false (aS h)\/s=.sh false (.lst (aS h))
theorem HS.val{s:Sl}(q:HS h s)(i:Nat):∃al,Sl.val i s=.ok ⟨.lst (aS h),false,false,al⟩:=by rcases q with rfl|rfl;exact⟨_,rfl⟩;refine⟨[],?_⟩;show R.ok (⟨.lst (aS h),false,false&&!Hp.noL (.lst (aS h)),[]⟩:Vl)=_;rfl
theorem aME{W:Caller}{Z:Sg}{a:E}{v:Vl}(l:ev pg W Z a=.ok v)(q:v.d=.lst (aS h)):∃w:Vl,w.d=.lst (aS h.reverse)/\ev pg W Z (.rvs a)=.ok w:=by
 refine⟨⟨.lst (aS h).reverse,true,v.pa&&!noLs (aS h),if noLs (aS h) then [] else v.al⟩,by rw[<-List.map_reverse],?_⟩;show(ev pg W Z a >>= λx=>(match x.d with
  | .lst ds=>R.ok (⟨.lst ds.reverse,true,x.pa&&!noLs ds,if noLs ds then [] else x.al⟩:Vl)|_=>.bad))=_
 rw[l,aA,q]
abbrev w0(w:Way):Way:=⟨w.g,w.ps,0⟩
theorem aFc(ws:List Way):bD bs [ws.map w0]=eB bs ws:=by show(ws.map w0).flatMap (fU bs)++[]=_;rw[AV,List.flatMap_map];rfl
theorem jZ{v:Vl}:items v (aS h)=h.map λws=>(⟨bV ws,false,v.pa,v.al⟩:Vl):=by unfold items;rw[A7];rfl
abbrev lF(ns ys:List Int)(bs:List (Str×Int))(s3 s4 s5 s6 s7 s8 s9:Sl):Sg:=[.sh true (.lst (ns.map D.int)),.own false (ys.map D.int),.own false (aB bs),s3,s4,s5,s6,s7,s8,s9]
theorem yS{W:Caller}{Z:Sg}{f:Nat}{a b:E}{x y:Vl}{l q d:D}(I:ev pg W Z a=.ok x)(L:ev pg W Z b=.ok y)(B:x.d=l)(G:y.d=q)(M:W f [l,q]=.ok (d,true,false)):ev pg W Z (.call f (.cons a (.cons b .nil)))=.ok ⟨d,true,false,[]⟩:=qY I L (by rw[B,G];exact M)
abbrev lB:Ss:=match hdS (drp 9 f27.body) with|.for _ _ b=>b|_=>.nil
theorem aCr(n:Nat)(T:eR bs){ns ys:List Int}{ws:List Way}(o:∀w∈ws,fE bs.length w)(hf:ws.length<=4){acc:List NK}(hl:acc.length<=100000)(q s4 B s6 I:Sl) :
 ∃t9,exs pg (call pg (n+33)) (lF ns ys bs q s4 B s6 (.own false (acc.map aH)) (.sh false (bV ws)) I) lB=.next (lF ns ys bs q s4 B s6 (.own false ((acc++ssN (eB bs ws)).map aH)) (.sh false (bV ws)) t9):=by
 have M:ev pg (call pg (n+33)) (lF ns ys bs q s4 B s6 (.own false (acc.map aH)) (.sh false (bV ws)) I) (.comp 3 [] (.t [0,1,2]) (.seq (.v 8)) .nil (.tup (.cons (.v 0) (.cons (.v 1) (.cons (.c (.int 0)) .nil)))))=.ok ⟨.lst (ws.map λw=>(w0 w).d),true,false,[]⟩:=
  vD (al:=[]) (λw=>Vl.cl w.d) (λw=>(w0 w).d) (λw=>eO _) (by
   rw[bR,bM 8 rfl,aA];show R.ok (items _ (ws.map Way.d),[])=_;rw[eK eO]) (by unfold lim;omega) λw L=>⟨[.sh false w.g.d,.sh false (.tup (w.ps.map dP)),.sh false (.int w.nx)],aMx _ w.g.noL (show Hp.noL (.tup (w.ps.map dP))=true from eX w.ps) rfl,aEC (bM 0 rfl) (bM 1 rfl) (aI _)⟩
 have k1:ex pg (call pg (n+33)) (lF ns ys bs q s4 B s6 (.own false (acc.map aH)) (.sh false (bV ws)) I) (hdS lB)=.next (lF ns ys bs q s4 B s6 (.own false (acc.map aH)) (.sh false (bV ws)) (.own false ((ws.map w0).map Way.d))):=by rw[A7];exact eL M
 have co:=vN n T (h:=[ws.map w0]) (λx hx=>by
  rw[Ai.mp hx];refine⟨by rw[lM];exact hf,λw L=>?_⟩;obtain⟨w',G,rfl⟩:=Ax.mp L;have:=o w' G;exact⟨this.g,this.gs,this.ps,this.up⟩) (show 1<=8 by decide)
 rw[aFc] at co
 let Z:=lF ns ys bs q s4 B s6 (.own false (acc.map aH)) (.sh false (bV ws)) (.own false ((ws.map w0).map Way.d))
 have e9:ev pg (call pg (n+33)) Z (.lst (.cons (.v 9) .nil))=.ok ⟨.lst [bV (ws.map w0)],true,false,[9]⟩:=by rw[qM,aF,bS 9 rfl,aA];rfl
 have U:=yS (bS (P:=pg) (W:=call pg (n+33)) (Z:=Z) 2 rfl) e9 rfl rfl co;have ls:=rE T (l:=eB bs ws) λk hk=>mX hk;refine⟨.own false ((ws.map w0).map Way.d),cs k1 (dA ?_)⟩;have:=eL (i:=7) (rN (o:=.Add) (bS 7 rfl) U (aGH rfl rfl (cK lJ acc) (cK lJ (ssN (eB bs ws))) (by rw[lM,lM];unfold lim;omega)));rw[<-Bj] at this;exact this
theorem pure(ns:List Int)(hn:ns.length<=63):∃fr pa,call pg 60 27 [.lst (ns.map D.int)]=.ok (.bl true,fr,pa):=by
 refine⟨false,false,?_⟩;generalize q1:(ns++[0]).getD 0 0=cell;have q0:=sZ (P:=pg) (f:=5) rfl 58 cell (m:=13) (by decide);have q0:call pg 59 5 [.int cell,.int 13]=.ok (.lst ([num cell 2,num cell 3,num cell 4,num cell 5,num cell 6,num cell 7,num cell 8,num cell 9,num cell 10,num cell 11,num cell 12,num cell 13,num cell 14].map D.int),true,false):=q0;obtain⟨bs,T,hb,cb⟩:=aEP 58 (num cell 2) (num cell 3) (num cell 4) (num cell 5) (num cell 6) (num cell 7) (num cell 8) (num cell 9) (num cell 10) (num cell 11) (num cell 12) (num cell 13) (num cell 14);generalize q7:[num cell 2,num cell 3,num cell 4,num cell 5,num cell 6,num cell 7,num cell 8,num cell 9,num cell 10,num cell 11,num cell 12,num cell 13,num cell 14]=ys at q0 cb;have hy:ys.length=13:=by rw[<-q7];rfl
 have cb:call pg 59 6 [.lst (ys.map D.int)]=.ok (.lst (aB bs),true,false):=cb;obtain⟨h,o,ch⟩:=aCp 56 T hb ns hy;have ch:call pg 59 11 [.lst (ns.map D.int),.lst (ys.map D.int),.lst (aB bs)]=.ok (.lst (aS h),true,false):=ch;have co:call pg 59 21 [.lst (aB bs),.lst (aS h)]=.ok (.lst (aS h),true,false):=yJ 20 o;have wo:∀ws∈h,ws.length<=4/\∀w∈ws,fE bs.length w:=λws hw=>⟨(o.ok ws hw).few,λw hx=>((o.ok ws hw).ok w hx).1⟩
 have cd:call pg 59 12 [.lst (aB bs),.lst (aS h)]=.ok (.lst ((ssN (bD bs h)).map aH),true,false):=aGQ 26 T λws hw=>(wo ws hw).2;have cw:call pg 59 3 [.lst (aB bs),.lst (aS h)]=.ok (.lst ((ssN (bD bs h)).map aH),true,false):=vN 26 T wo o.few;have cr:call pg 59 3 [.lst (aB bs),.lst (aS h.reverse)]=.ok (.lst ((ssN (bD bs h)).map aH),true,false):=by
  have:=vN 26 T (h:=h.reverse) (λws hw=>wo ws (BY.mp hw)) (by rw[Fa];exact o.few);rw[aAq (b:=bD bs h) λk=>by
   rw[Be,Be];exact⟨λ⟨ws,hw,hk⟩=>⟨ws,BY.mp hw,hk⟩,λ⟨ws,hw,hk⟩=>⟨ws,BY.mpr hw,hk⟩⟩] at this
  exact this
 have ct:call pg 59 13 [.lst ((ssN (bD bs h)).map aH),.lst ((ssN (bD bs h)).map aH)]=.ok (.bl true,false,false):=aGN 58 λk hk=>by obtain⟨a,_,hk⟩:=Be.mp (dL (fM.mp hk));obtain⟨b,_,rfl⟩:=Ax.mp hk;exact⟨a,b,rfl⟩
 let S0:Sl:=.sh true (.lst (ns.map D.int))
 have a0:∀r,ev pg (call pg 59) (S0::r) (.idx (.op .Add (.v 0) (.lst (.cons (.c (.int 0)) .nil))) (.c (.int 0)))=.ok (.cl (.int cell)):=λr=>by have e:=rN (o:=.Add) (aW (P:=pg) (W:=call pg 59) (Z:=S0::r) 0 rfl) (mV (aN (aI (.int 0)) dJ)) (aGH rfl rfl (fZ ns) rfl (by rw[lM];show ns.length+1<=lim;unfold lim;omega));have i0:=lI (k:=0) (xs:=ns++[0]) e (by rw[Bj];rfl) (aI _) (by simp);rw[q1] at i0;exact i0
 have k1:ex pg (call pg 59) [S0,.dead,.dead,.dead,.dead,.dead,.dead,.dead,.dead,.dead] (hdS f27.body)=.next [S0,.own false (ys.map D.int),.dead,.dead,.dead,.dead,.dead,.dead,.dead,.dead]:=eL (qY (a0 _) (aI _) q0);have k2:ex pg (call pg 59) [S0,.own false (ys.map D.int),.dead,.dead,.dead,.dead,.dead,.dead,.dead,.dead] (hdS (drp 1 f27.body))=.next (lF ns ys bs .dead .dead .dead .dead .dead .dead .dead):=eL (vJ (bS 1 rfl) cb);have v2:∀s3 s4 s5 s6 s7 M L,ev pg (call pg 59) (lF ns ys bs s3 s4 s5 s6 s7 M L) (.v 2)=.ok ⟨.lst (aB bs),false,false,[2]⟩:=λ_ _ _ _ _ _ _=>bS 2 rfl;have k3:ex pg (call pg 59) (lF ns ys bs .dead .dead .dead .dead .dead .dead .dead) (hdS (drp 2 f27.body))=.next (lF ns ys bs (.own false (aS h)) .dead .dead .dead .dead .dead .dead):=eL (yS (v2 _ _ _ _ _ _ _) (yG (aW 0 rfl) (bS 1 rfl) (v2 _ _ _ _ _ _ _) ch) rfl rfl co);obtain⟨I,h3,k4⟩:∃I,HS h I/\ex pg (call pg 59) (lF ns ys bs (.own false (aS h)) .dead .dead .dead .dead .dead .dead) (hdS (drp 3 f27.body))=.next (lF ns ys bs I (.own false (aS h)) .dead .dead .dead .dead .dead):=by
  have c4:ev pg (call pg 59) (lF ns ys bs (.own false (aS h)) .dead .dead .dead .dead .dead .dead) (.comp 1 [] (.n 0) (.seq (.v 3)) .nil (.bi .list (.cons (.v 0) .nil)))=.ok (fJ 1 [] [3] (h.map λws=>⟨bV ws,true,false,[]⟩)):=by rw[uW (xs:=h.map λws=>⟨bV ws,false,false,[3]⟩) (al:=[3]) (λx=>⟨x.d,true,false,[]⟩) ?_ (by rw[lM];have:=o.few;unfold lim;omega) λx hx=>?_];rw[A7];rfl;rw[bR,bS 3 rfl,aA];show R.ok (items _ (aS h),[3])=_;rw[jZ];obtain⟨ws,hw,rfl⟩:=Ax.mp hx;refine⟨[.sh false (bV ws)],rfl,kU (bM 0 rfl) ?_⟩;show R.ok (⟨.lst (ws.map Way.d),true,false&&!noLs (ws.map Way.d),if noLs (ws.map Way.d) then [] else []⟩:Vl)=_;rw[aCl];rfl
  have hd:(h.map λws=>(⟨bV ws,true,false,[]⟩:Vl)).map (·.d)=aS h:=by rw[A7];rfl
  cases h with
  | nil=>exact⟨_,.inl rfl,by
   refine(dI (P:=pg) _ _).trans ?_;rw[c4];rfl⟩
  | cons ws r=>
   refine⟨_,.inr rfl,?_⟩;have hz:fJ 1 [] [3] ((ws::r).map λws=>(⟨bV ws,true,false,[]⟩:Vl))=⟨.lst (aS (ws::r)),true,false,[3]⟩:=by
    have ha:cV ((ws::r).map λws=>(⟨bV ws,true,false,[]⟩:Vl))=false:=by unfold cV;rw[List.any_eq_false];intro x hx;obtain⟨y,_,rfl⟩:=Ax.mp hx;exact bN
    have hu:bE ((ws::r).map λws=>(⟨bV ws,true,false,[]⟩:Vl))=[]:=by unfold bE;rw[List.flatMap_eq_nil_iff];intro x hx;obtain⟨y,_,rfl⟩:=Ax.mp hx;rfl
    unfold fJ;rw[hd,ha,hu];rfl
   rw[hz] at c4;refine(dI (P:=pg) _ _).trans ?_;rw[c4];rfl
 have v3:∀{I:Sl},HS h I->∀s4 s5 s6 s7 M L,∃al,ev pg (call pg 59) (lF ns ys bs I s4 s5 s6 s7 M L) (.v 3)=.ok ⟨.lst (aS h),false,false,al⟩:=λq _ _ _ _ _ _=>q.val 3
 let G:Sl:=.own false (aS h)
 let B:Sl:=.own false ((ssN (bD bs h)).map aH)
 have k5:ex pg (call pg 59) (lF ns ys bs I G .dead .dead .dead .dead .dead) (hdS (drp 4 f27.body))=.next (lF ns ys bs I G B .dead .dead .dead .dead):=by obtain⟨_,q3⟩:=v3 h3 G .dead .dead .dead .dead .dead;exact eL (yS (v2 _ _ _ _ _ _ _) q3 rfl rfl cd)
 have v4:∀I s5 s6 s7 M L,ev pg (call pg 59) (lF ns ys bs I G s5 s6 s7 M L) (.v 4)=.ok ⟨.lst (aS h),false,false,[4]⟩:=λ_ _ _ _ _ _=>bS 4 rfl;have v5:∀I s6 s7 M L,ev pg (call pg 59) (lF ns ys bs I G B s6 s7 M L) (.v 5)=.ok ⟨.lst ((ssN (bD bs h)).map aH),false,false,[5]⟩:=λ_ _ _ _ _=>bS 5 rfl;have k6:ex pg (call pg 59) (lF ns ys bs I G B .dead .dead .dead .dead) (hdS (drp 5 f27.body))=.next (lF ns ys bs I G B B .dead .dead .dead):=eL (yS (v2 _ _ _ _ _ _ _) (v4 _ _ _ _ _ _) rfl rfl cw);have k7:ex pg (call pg 59) (lF ns ys bs I G B B .dead .dead .dead) (hdS (drp 6 f27.body))=.next (lF ns ys bs I G B B .dead .dead .dead):=by
  obtain⟨_,q3⟩:=v3 h3 G B B .dead .dead .dead;refine eC (qX (pH (k:=true) ?_) (eW (v4 _ _ _ _ _ _) q3 (aHA (aGS o))));have e:evs pg (call pg 59) (lF ns ys bs I G B B .dead .dead .dead) (.cons (.v 6) (.cons (.v 5) .nil))=.ok [⟨.lst ((ssN (bD bs h)).map aH),false,false,[6]⟩,⟨.lst ((ssN (bD bs h)).map aH),false,false,[5]⟩]:=by rw[aF,bS 6 rfl,aA,aF,v5,aA];rfl
  rw[iD,e,aA];show(call pg 59 13 [.lst ((ssN (bD bs h)).map aH),.lst ((ssN (bD bs h)).map aH)] >>= _)=_;rw[ct];rfl
 have l7:=rE T (l:=bD bs h) λk hk=>dL hk;obtain⟨U,k8⟩:∃U,ex pg (call pg 59) (lF ns ys bs I G B B .dead .dead .dead) (hdS (drp 7 f27.body))=.next (lF ns ys bs I G B U .dead .dead .dead):=⟨_,vI (aI .non) rfl (by rw[lM];unfold lim;omega) rfl rfl⟩
 have k9:ex pg (call pg 59) (lF ns ys bs I G B U .dead .dead .dead) (hdS (drp 8 f27.body))=.next (lF ns ys bs I G B U (.own false []) .dead .dead):=rfl;obtain⟨al,U3,u3,q6,hw⟩:∃(al:List Nat) (U3:Sl),HS h U3/\freeze (lF ns ys bs I G B U (.own false []) .dead .dead) al=lF ns ys bs U3 G B U (.own false []) .dead .dead/\walk pg (call pg 59) (lF ns ys bs I G B U (.own false []) .dead .dead) (.seq (.v 3))=.ok (h.map (λws=>(⟨bV ws,false,false,al⟩:Vl)),al):=by rcases h3 with rfl|rfl;refine⟨[3],_,.inr rfl,rfl,?_⟩;rw[bR,bS 3 rfl,aA];show R.ok (items _ (aS h),[3])=_;rw[jZ];refine⟨[],_,.inr rfl,rfl,?_⟩;rw[bR,bM 3 rfl,aA];show R.ok (items _ (aS h),[])=_;rw[jZ];rfl
 obtain⟨Z',ef,acc,M,L,ha,hm,rfl⟩:=dY (t:=.n 8) (b:=lB) (λi Z=>∃(acc:List NK) (M L:Sl),acc.length<=700*i/\(∀k,k∈acc↔k∈bD bs (h.take i))/\Z=lF ns ys bs U3 G B U (.own false (acc.map aH)) M L) hw ⟨[],_,_,AL _,λk=>by rw[C2];exact Iff.rfl,q6⟩ λi hi Z ⟨acc,M,L,ha,hm,q8⟩=>by
  have q2:i<h.length:=by simpa using hi
  have h8:=o.few;subst q8;obtain⟨t9,e⟩:=aCr 26 T (ns:=ns) (ys:=ys) (wo h[i] (AG q2)).2 (wo h[i] (AG q2)).1 (acc:=acc) (by omega) U3 G B U L;have ls:=rE T (l:=eB bs h[i]) λk hk=>mX hk;refine⟨lF ns ys bs U3 G B U (.own false (acc.map aH)) (.sh false (bV h[i])) L,_,by rw[B3,fY];rfl,e,_,_,t9,by rw[lA];omega,λk=>?_,rfl⟩;rw[AI q2,AJ,hm k,fM];show _↔k∈(h.take i++[h[i]]).flatMap (eB bs);rw[Dt,AJ,C8,FX,AV]
 rw[lM,Bn] at hm;have es:=aEZ (W:=call pg 59) (Z:=lF ns ys bs U3 G B U (.own false (acc.map aH)) M L) (bS 7 rfl) rfl (aEX λk hk=>dL ((hm k).mp hk)) (rE T λk hk=>dL ((hm k).mp hk));rw[aAq hm] at es;have q9:ex pg (call pg 59) (lF ns ys bs U3 G B U (.own false (acc.map aH)) M L) (hdS (drp 10 f27.body))=.next (lF ns ys bs U3 G B U (.own false (acc.map aH)) M L):=eC (eW es (v5 _ _ _ _ _) (aHA (yO _)));obtain⟨wv,wd,q4⟩:=aME (v4 U3 B U (.own false (acc.map aH)) M L) rfl;have q5:=oG (yS (v2 _ _ _ _ _ _ _) q4 rfl wd cr) (v5 U3 U (.own false (acc.map aH)) M L) ct;exact aQ (P:=pg) (W:=call pg 59) (f:=27) (ds:=[.lst (ns.map D.int)]) (F:=f27) rfl rfl (v:=.cl (.bl true)) (cs k1 (cs k2 (cs k3 (cs k4 (cs k5 (cs k6 (cs k7 (cs k8 (cs k9 (cs ef (cs q9 (eS q5))))))))))))
end K32
noncomputable section
set_option maxRecDepth 100000
set_option maxHeartbeats 0
namespace K32
open PySem PySem.W L2 Hp Hh
noncomputable def ix:List (Nat×List Str):=(20,["one", "ahead", "behind", "word", "left", "right"]) ::
 (21,["cond", "ahead", "behind", "word", "left", "right"]) ::
 (34,["boxes", "way", "stand", "held", "box", "one", "amount"]) ::
 (36,["boxes", "hand", "every", "found", "row", "way", "pairs"]) ::
 (37,["pair"]) ::
 (39,["_law_cell", "_law_many", "_law_found", "_law_number", "_law_k"]) ::
 (40,["_law_xs", "_law_tops"]) ::
 (9,["boxes", "found", "name", "top", "longer", "begun"]) ::
 (41,["_law_xs", "_law_boxes_here", "_law_one", "_law_other", "_law_found"]) ::
 (42,["_law_xs", "_law_boxes_here", "_law_box", "_law_one", "_law_some"]) ::
 (43,["_law_cell", "_law_boxes_here", "_law_places", "_law_xs", "_law_puts", "_law_k", "_law_box"]) ::
 (44,["_law_script", "_law_xs", "_law_boxes_here", "_law_many", "_law_rows", "_law_k", "_law_row", "_law_j", "_law_cell"]) ::
 (45,["_law_boxes_here", "_law_hand_here", "_law_due_here", "_law_ahead", "_law_row", "_law_way_here", "_law_later"]) ::
 (46,["_law_found", "_law_due_here", "_law_step"]) ::
 (6,["thing"]) ::
 (7,["thing", "least", "most"]) ::
 (15,["boxes", "thing", "plain"]) ::
 (16,["boxes", "thing", "plain"]) ::
 (17,["boxes", "kind", "thing", "plain", "seen", "form", "due", "inner"]) ::
 (18,["kind", "thing", "plain", "word", "form"]) ::
 (19,["boxes", "due", "thing", "most"]) ::
 (28,["boxes", "thing"]) ::
 (29,["boxes", "thing", "end"]) ::
 (30,["boxes", "thing", "end"]) ::
 (31,["boxes", "thing"]) ::
 (32,["boxes", "thing", "least", "put"]) ::
 (33,["boxes", "thing", "least"]) ::
 (47,["_law_script", "_law_xs", "_law_boxes_here", "_law_hand_here", "_law_handed", "_law_due_here", "_law_found", "_law_some", "_law_row", "_law_alone"])::[]
noncomputable def sn:Sn:=⟨[("MOST_PARTS",(.int 40)),("MOST_NUMBER",(.int 99)),("MOST_ROWS",(.int 8)),("MOST_WAYS",(.int 4)),("GUARD",(.int 0)),("PUTS",(.int 1)),("NEXT",(.int 2))],[("SUM_FORMS",[("number",["number"]),("box",["box"]),("after",["box"]),("plus",["sum", "sum"]),("minus",["sum", "sum"])]),("COND_FORMS",[("yes",[]),("is",["sum", "sum"]),("less",["sum", "sum"]),("not",["cond"]),("both",["cond", "cond"]),("either",["cond", "cond"])])]⟩
abbrev pw:=F2
theorem chk:iC ⟨[],[],(ix.map (nP pw)).map (·.x),sn.cns,[],true,sn.tbs.map (·.1)⟩ pg.fns (ix.map (nP pw))=true:=by decide +kernel
theorem lft:LM pw (sW pw) (uT pw) (λ_=>true) (λs=>iW pw sn s.heap) (λw=>mO pw sn w) 100000:=aJI (by kernel_rfl) rfl (λ_=>by kernel_rfl) λw os=>byRow2 "special-get-raises" (P:=λw=>aMg pw (sW pw) (uT pw) (λs=>iW pw sn s.heap) 100000 w os=some (true,Lh (sW pw) (uT pw),mO pw sn w)) (λw=>by
 kernel_rfl) (λw=>by
 kernel_rfl) w
end K32
end
noncomputable section
open PySem PySem.W PyProof.Rows Hh
set_option maxRecDepth 100000 in
set_option maxHeartbeats 0 in
theorem PySem.Challenge.cw_handpromise_k32_steps_of_a_hand_holds : PySem.Challenge.rw_handpromise_k32_steps_of_a_hand.Holds := by
 refine holds_law (by kernel_rfl) λ said => ?_;refine aJN (l := F3) (k := 59) (f := 27) (x := "_law_script") (sl := ["_law_xs", "_law_boxes_here", "_law_hand_here", "_law_handed", "_law_due_here", "_law_found", "_law_some", "_law_row", "_law_alone"]) said K32.lft (by kernel_rfl) (by kernel_rfl) rfl rfl (by decide +kernel) ⟨rfl, rfl, rfl, rfl, rfl, by decide +kernel⟩ ?hw rfl rfl (by decide +kernel) (by decide +kernel) K32.chk rfl (by decide +kernel) ⟨rfl, rfl, by decide, by decide⟩ (by kernel_rfl) rfl K32.pure
 w_witness2
end
