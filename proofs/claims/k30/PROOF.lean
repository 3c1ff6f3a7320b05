import PyProof.Rows.All
import Wide.All
import OpenK.AllK
import Wide.FinOn
import Lean
import PyProof.EqAt
import PyProof.EqKinds
import PyProof.TupleCall
import PyProof.TupleKey
import PyProof.DictRoadsH
import PyProof.Rows.TupTab
import PyProof.AttrMissHeap
import KE.KDictOf
import PyProof.FactsAll.tuple_2
import PyProof.NeKinds
import PySem.Syntax
import PySem.Builtin.Str.Common
import PyProof.ReprReads
import PyProof.StrLaws
import PyProof.ReprRoads
import PyProof.FitsInt
import KE.KIsAll
import PyProof.DictTable
import PyProof.Rows.SetFrom
import PyProof.SetRoads
import PyProof.ZipIter
import PyProof.StrWalks
import PyProof.EnumFor
import PyProof.EnumStmt
import PyProof.ListNew
import PyProof.Rows.SortRunsK
import PyProof.CollectIter
import KE.KSortTup
import PyProof.Rows.SortWalk
import PyProof.DictWalks
import PyProof.Rows.FactsT3
import PySem.Challenge.RW_handpromise_k30_one_promise_within
set_option genSizeOf false
set_option genInjectivity false
set_option bootstrap.genMatcherCode false
set_option Elab.async false
set_option linter.all false
noncomputable section
open PySem renaming wpAny_bind->Aa,wpAny_pure->Ab,Shared->Ac,Value->Ad,wpAny->Am,Program->A0,model->A4,Expr->A6,wpAny_setState_of->AH,wpAny_holding->AI,Around->AJ,World->AR,wpAny_call_entry->AZ,starEach->Bd,wpAny_newObj_type->Bj,wpAny_Call_Name_kw->Bs,wpAny_forIn_list->Bv,wpAny_isInstance->Bw,mainGlobals->Bx,tupleKind->B9,mem_of_lookup->BH,intKind->BJ,Builtin->BL,wpAny_mono->BO,compareOp->BU,sizeLine_eq->BV,wpAny_askSetting->BY,ofAClassStatement->Cg,cLine->Co,binaryOp->Cq,NameKind->Cr,foldedSetIterable->Cu,wpAny_callSpecial?_slot->Cy,DictEntry->Cz,wpAny_specialOf->C4,bootBuiltins->C9,wpAny_rule->CF,isSubtype_type->CG,Stmt->CK,rawInt->CL,wpAny_typeOf->CU,wpAny_dictEntries->CW,Paired->Dc,sysModules->Dd,wpAny_of_eq->Dr,wpAny_typeNameOfWhole_keyiter->Ds,assignEach->Du,richCompare_meets_room->Dw,codeAny_builtin->D3,wpAny_truthy_bool->D7,wpAny_storeSet_of->D8,Scope->DB,FuncData->DC,call_meets->DF,wpAny_seqItems->DG,carriedByValue->DH,backTo->DZ,eval->Ed,Pos->Eg,wpAny_passesOwn->Eh,sliceBounds->El,hashByValue->Em,entryFor_alias->E3,isSubtype_tuple_tuple->E8,wpAny_notOrdered_dict->EA,codeAny->EJ,plainId_quiet->EL,letOwnedTupleGo->ET,wpAny_dictEpoch->EX,wpAny_setEntries_of->Fb,wpAny_binaryOp_same->Fc,hashInt->Fh,codeAny_mono->Fj,wpAny_tupleItemsOf->Fw,setsByText->F7,wpAny_setField_rec->F8,firstArgMember->F9,wpAny_binaryOp_repeat_ref->FB,spliced->FI,holding->FJ,wpAny_pyIter_slot->FO,pyNext->FT,wpAny_comprehension_free->FX,wpAny_attempt->FZ,noFill_tuple_add->Ge,entryFor->Gg,assign->Gn,concat_meets->Gq,IsPart->Gr,getItem->Gu,typeIs_int->Gw,callerA->Gy,call->Gz,IsTupleKey->G0,Model->GE,importedModules->GL,builtinLookup_eq_fast->GO,wpAny_isOneOf_keyiter->GR,GenState->GT,Result->GU,wpAny_fieldsOf->Hd,codeAny_extend_loopS->He,Arguments->Hi,wpAny_standAt->Hq,behindInMarks->Hr,seq_tuple_add->Ht,setSearchFrom->Hw,setWalkUnseen->Hz,wpAny_newList->H0,builtinsNs->HC,reduceHash->HG,setEntries->HP,wpAny_assign_Name->Ib,wpAny_sequenceKey->Ig,slot_list_getitem->Ih,list_append->Ii,wpAny_pyIter_list->Iw,searchCouldBeSeen->IA,setAddHashed->IC,wpAny_eqBool_int->IH,pyIter->II,eqIsQuiet->IP,seqSlot_of->IQ,entryFor_of_tree->IR,setDiscardHashed->IW,treeTable->IZ,wpAny_field->Jd,wpAny_execs_nil->Ji,codeAny_of_tree->Jq,typeLookup_type->Js,relabel->Jy,wpAny_Name->Jz,recursionLimit->J1,bindArgs->J3,bindL->J4,bindC->J5,Params->JA,isInstance->JB,table->JD,wpAny_runValue->JK,isSubtype_stop->JM,wpAny_setField->JS,Thread->JT,Env->JY,intBits_le_64->JZ,evalPart_none->Kc,call_list_seq->Ke,attributeBase->Kf,wpAny_handled->Kh,fenceModules?->Km,swapsWith->Kn,cellsFrom->Kq,Meets->Kr,BindsTo->Kw,seqIndex_neg->Ky,PyData->K0,IsPair->K2,setNext->K7,denote->KC,Sem->KH,interactive->KI,IsRangeIter->KJ,richCompare->KL,seqIndex_of->KO,subscripted->KP,HeapKind->KR,compEnvC->KY,wpAny_BinOp->KZ,wpAny_alloc->La,slotArgs->Lb,wpAny_throw->Ld,Tok->Lq,BoolOp->Lv,argsOk->L0,newExc->L1,standAt->L4,Keyword->L5,piled->L7,newList->L8,setFind->L9,Fin->LN
open PySem.Heap renaming get?_push_of_some->Ae,lt_size->Ap,get?_push_size->A7,SameBut->BA,get?_update_ne->Ci,get?_update_other->Eu,size_push->Fz,get?_update_self->GN,ExtBut->Lc
open List renaming mem_cons_of_mem->Af,mem_map->Ag,getElem?_eq_getElem->Ah,mem_cons_self->Ai,size_toArray->Aj,mem_cons->Al,replicate->An,getElem?_set_ne->Aq,mem_append_right->As,getElem?_eq_some_iff->Au,mem_singleton->A3,getElem?_map->A5,range->AA,mem_append_left->AB,getElem?_append_right->AD,getElem?_append_left->AE,append_assoc->AG,map_map->AM,mem_append->AO,getElem?_set_self->AU,take_append_drop->AV,length_set->AW,perm_append_comm->AX,zip_cons_cons->AY,mem_range->Bb,pairwise_append->Bc,length_replicate->Be,append_nil->Bg,mem_iff_getElem?->Bm,length_take->Bo,pairwise_iff_getElem->Br,nodup_cons->Bu,replicate_succ->Bz,getElem?_toArray->B0,length_range->B3,take_succ_eq_append_getElem->B4,mem_filter->B6,length_drop->BC,getElem_mem->BD,all_eq_true->BE,map_append->BM,mem_filterMap->BP,length_eq_zero_iff->BW,mem_of_mem_take->BX,take_of_length_le->Ce,pairwise_cons->Cm,getElem?_replicate->Cv,pairwise_singleton->C1,pairwise_map->C2,foldl_cons->C3,getD_eq_getElem?_getD->CH,length_filter_le->CJ,flatten_cons->CV,eraseIdx_eq_take_drop_succ->Dj,filterMap_cons->Dk,map_congr_left->Dl,mem_reverse->Dn,mem_eraseIdx_iff_getElem?->Dq,length_append->Dv,drop_of_length_le->Dy,nil_append->Dz,length_eraseIdx_of_lt->DO,mem_flatMap->DT,take_length->DU,drop_eq_getElem_cons->DY,toList_toArray->Ec,getElem?_drop->Ej,reverse_cons->Et,drop_zero->E1,pairwise_lt_range->E2,pairwise_iff_forall_sublist->E5,getElem?_eq_none->EB,any_eq_true->EE,isEmpty_nil->EG,not_mem_nil->EI,getElem?_of_mem->EO,mem_of_mem_drop->ER,mem_iff_getElem->ES,of_mem_zip->EU,flatMap_append->Fd,zip_nil_right->Fu,nodup_nil->Fx,extract_eq_drop_take'->F1,getElem?_take->F4,extract_eq_drop_take->FC,getElem?_zip_eq_some->FE,reverse_perm->FM,lookup->FP,foldl_append->FQ,flatMap_cons->FR,all_cons->FV,length_cons->Gc,lookup_cons->Gh,drop_length->Gi,range_succ_eq_map->G5,length_map->GF,length_nil->GG,find?_cons->GH,forIn_cons->GJ,length_singleton->GM,eraseIdx_sublist->GQ,pairwise_flatMap->GS,length->GW,forIn_nil->GZ,take_zero->Ha,filter_sublist->Ho,map_take->Hx,map_drop->Hy,foldl->HE,map_filterMap->HN,take_sublist->Ic,zip_nil_left->Ie,getElem_drop->Ix,ext_getElem?->Iy,map_inj_left->IG,nodup_range->IS,map_toArray->IT,countP_cons->IX,getElem_map->Jb,range_succ->Jw,drop_drop->JF,drop_take->JG,filterMap->JI,map_cons->Kb,map_nil->Kx,range'->KT
open Nat renaming le_refl->Ak,le_trans->A2,ne_of_lt->A8,lt_of_lt_of_le->AF,lt_irrefl->AL,zero_le->AS,add_sub_cancel_left->Bf,lt_succ_of_lt->B2,lt_or_ge->BN,le_of_lt->Ca,lt_succ_self->Ck,not_lt_zero->C5,ne_of_gt->DS,zero_add->DV,lt_or_eq_of_le->Ei,lt_trans->Ex,le_add_right->EF,add_assoc->EK,pow_le_pow_right->EQ,succ_pos->Fl,le_succ->FL,lt_trichotomy->FN,le_of_not_lt->Gf,not_lt->G3,sub_zero->G6,mod_lt->G9,lt_of_le_of_ne->HL,lt_of_le_of_lt->HM,succ_mul->Ik,mul_comm->Im,le_of_eq->Io,le_succ_of_le->Iv,add_zero->Iz,zero_lt_succ->Jc,le_antisymm->Jm,sub_self->K3,pow_succ->K6,log2_lt->KW
open PyProof.Rows renaming wpS_bind->Ao,wpS_pure->Az,Keyed->A9,pendingOf->AC,SortSt->Bk,slot_tuple_getitem->Bl,wpS_forRange->Bn,callWith_builtin1->BB,wpS_mono->BG,callWith_type1->BZ,seqObj->Cs,IntsAre->Cw,listUpdate_at->Dh,SortKind->D2,get?_update_seq->D4,failedOf->DK,wpS_modify->DL,mirror->DN,wpS_get->Fm,AllBare->FH,wpS_lift->Gj,subscriptTail_builtinR->Gv,envOfC->GV,entry_tuple_getitem->Hk,args_tuple_getitem->HD,size_push'->HQ,slot_str_getitem->IK,wpS->Jf,seqEpoch_at->Jg,boot_sorted->Jh,entry_list_sort->Ju,slicePart_none->J7,sortedHeap->JO,slot_list_sort->JP,args_list_sort->JQ,sortedHeap_old->JR,tupleItemsOf_->Ka,subscriptTail->Kd,sortedHeap_at->Kk,setArr->K4,minRun'->K5,listItems_at->K8,plain_sorted->K9,entry_sorted->KA,args_sorted1->KB,kind_sorted->Lf,TupTab->Lj,lt_int->Lk,ge_int->Lm,bubble->Lw,tuples'->LA
open Option.some renaming inj->Av,injEq->CY
open PySem.Value renaming ref->Ay,none->Cj,notImplemented->CT,int->DQ,isInt->EN,bool->Fp,type->Fq,scannable->Jp,str->LH
open PySem.W renaming Frag->A1,boot_heap->Cn,kia_one->CP,keepIn->DD,methodObj->FG,cellsFrom_some->Go,fnOf->Gp,SharedT->Hj,boot_drawn->HV,boot_toks->Ja,OpenLaw->Jx,codeIn->J6,namesBound->JU,staticsOk->Kv,stepOk->KD,gensDone->Lg,laidKept->Lh,OpenLaw->L6,through->LC,stepT->LD,topStub->LE,topFrom->LF,LeftO->LT
open Array renaming length_toList->AK,getElem?_eq_getElem->AN,toList_append->AQ,getElem?_toList->AT,forIn_toList->BQ,getElem?_eq_some_iff->Cf,getD_eq_getD_getElem?->CA,toList_push->CZ,toList_reverse->Da,toList_inj->Dp,mem_of_getElem?->D6,mem_toList_iff->DM,toList_eraseIdxIfInBounds->E7,toList_map->EH,replicate->EZ,toList_setIfInBounds->F5,getElem?_eq_none_iff->F6,size_setIfInBounds->FY,getElem?_extract->G8,toList_filterMap->GA,getElem?_eq_none->GB,toList_extract->Hb,all_eq_true'->HI,foldl_toList->HJ,size_extract->HK,size_append->Ir,mk->JV,ext'->Lx
open PySem.NameKind renaming free->Ba
open PySem.PyData renaming shownAll->Bh,showable->D1,hasDict->DJ,shown->Ey,depth->Ez,showableAll->Fy,hasDictAll->FK,depthAll->GK
open Option renaming map_eq_some_iff->Bt,getD_none->EC,map_some->EY,getD_some->IY,none->KQ
open PySem.Builtin.Str renaming strSliceIndices->B1,occurrences->Dm,reprChar->DI,occurrences->Je,tooLong->Ll
open List.Perm renaming refl->B5,append_left->BK,append_right->G7,trans->Jn,of_eq->Jo,swap->JL,eq_nil->LM
open Bool renaming not_true->B7,or_eq_true->B8,not_eq_true'->Cd,false_ne_true->CC,not_false->Ew,not_eq_false'->F2,and_true->FW,and_self->Hu,and_eq_true->IJ,eq_iff_iff->Jl,false_and->J0,or_true->K1
open PySem.Builtin.Tuple renaming tupleHashOf->BF,tupleExact->De,tupleItemsOf->DE,tupleCompareSizes->E6,tupleIsExact->JE
open PySem.Heap.SameBut renaming update->BI,refl->D9
open Int renaming emod_lt_of_pos->BR,toNat_natCast->Ch,emod_nonneg->C6,toNat_of_nonneg->Ea,natCast_mul->GI,natCast_nonneg->HZ,le_trans->KG,one_mul->Li
open PySem.F renaming called_set->BS,slot_dict_keyiterator_next->CI,args_tuple_add_2->Ee,entry_tuple_add->Ek,plainAttrs_list->Eo,slot_tuple_add->Er,slot_tuple_hash->Ev,slot_tuple_mul->ED,slot_int_rmul->EV,slot_tuple_eq->EW,slot_tuple_hash->Gm,slot_dict_iter->GD,slot_set_iter->GP,args_list_append_2->GX,slot_set_and->Hf,slot_set_sub->Hg,entry_list_append->Hl,plain_extend_loop->Hm,slot_set_or->Hn,slot_list_append->HF,args_tuple_mul_2->HH,args_int_rmul_2->Il,slot_tuple_rmul->Ip,entry_tuple_mul->Iq,plain_list_iadd->IE,slot_int_index->IM,entry_int_rmul->IN,fills_int_mul->Jk,plain_set_new->Jr
open PySem.Obj renaming mapSeq->Cb,data_mapFields->HS,mapFields->Kl,putSet->Ly
open List.Pairwise renaming nil->Cc,drop->F0,take->F3,filterMap->Gk,imp_of_mem->Kj
open PySem.Builtin.Frozenset renaming sizeOf->Cp,copyOf->Di,unchanged->DA,slot1->En,updateFrom->Fa,isAnySet->FA,baseOf->Gb,differenceUpdate->HR,intersection->IU,difference->Jt,newClass->JJ,addrOf->Ki,slot0->Kt,merge->Ku
open PySem.StrLaws renaming sliceText->C0
open PySem.List renaming filterMap_getElem?_range_length->C7
open PyProof.Rows.F renaming plain_set_update_loop->C8,entry_set_update_loop->Eb
open PySem.Builtin.List renaming listExtendWith->CB,listTooLong->Df,listSameRef->Dg,listLengthHint->Fo,listTouch->GC,listFitsIndex->J9
open PySem.Calls renaming spliced_cons->CD,spliced_nil->Ep,Name_function_global->Ft,call_function_entry->FD,callWith_builtin->Gx
open PySem.Builtin.Slice renaming slicePlaces->CM,sliceAdjust->DX,sliceApplied->Fv,slicePartIndex->Jj,sliceFields->JW
open PySem.Builtin.Dict renaming dictSlotArgs->CN,showsAll->E9,samePairs->G4,dictSlotNone->JX
open Classical renaming byContradiction->CO,not_not->LB
open ForInStep renaming yield->CQ
open PySem.Around renaming under_plainId->Db
open False renaming elim->Dt
open PySem.SetTable renaming fill->D5,below->DP,advance->DW,slot->Hv,insertAt->IB,eraseAt->IV,fits->Kg,sameMemory->Ln,gaveWay->LJ,tooFull->LK,roomFor->LL,relaid->LQ
open Ne renaming symm->DR
open Prod.mk renaming injEq->Ef
open Function renaming comp_def->E4
open PySem.Shared renaming TypeIs->EM
open PySem.Challenge renaming pw_handpromise_k30_one_promise_within->Fe,rw_handpromise_k30_one_promise_within->Ff
open Sum renaming inr->Fi,inl->FF
open PySem.Str renaming ofString->Fk,length->J8,join->LS
open PySem.Paired renaming length->FS
open PySem.AutoSeq1 renaming sub_tuple_tuple->FU,list_extend_list_list_0->Ij
open List.cons renaming inj->Ga,injEq->LP
open True renaming intro->G1
open Std.Legacy.Range renaming forIn_eq_forIn_range'->GY
open PySem.W.Fast renaming te10156331382660048174->H9,te11892475500146522536->HA,te14364793385576792824->HB,te6613529449190102663->HW,te4187177175401517315->HX,te5923862056798008813->HY,sEq->IF,sEq_iff->KF
open PySem.AutoListH renaming list___mul___list_int_3->Ia
open PySem.pickOrder renaming go->ID
open PySem.IsL renaming update->IL
open PySem.Builtin.Dict_items renaming ownsTuple->Jv
open PyProof.Rows.SortSt renaming mk'->JH
open PUnit renaming unit->JN
open PySem.Builtin.Range renaming rangeSize->Ko
open PyProof.Rows.IsTup renaming new->Ks
open PySem.MeetsSeq renaming list_pop_last->Kz
open PySem.Data renaming fields->KKq
open Prod renaming ext->KM
open PySem.CmpOp renaming NotIn->KU
open PySem.ItemsOf renaming nil->Le
open PySem.SeqAt.EqAt renaming int_str->Lo,str_int->Lp,int_int->Lr
open PySem.Heap.IsSliceOf renaming new->Ls
open PySem.W.WShape renaming has->Lu
open PySem.ScopeKind renaming function->L3
open Iff renaming rfl->LG
open PySem.W.WData renaming int->LI
open PySem.PassesOwn renaming never->LR
def Ar:=@decide_eq_false
def Aw:=@decide_eq_true
def Ax:=@decide_eq_true_eq
def Bq:=@decide_eq_false_iff_not
def HU:=@decide_eq_true_iff
def Iu:=@and_self
def JC:=@and_true
theorem nf{p:Prop}(h:false=true):p:=absurd h CC
noncomputable def gS:=@List.getElem?_cons_succ.{0}
noncomputable def gZ:=@List.getElem?_cons_zero.{0}
noncomputable def lS:=@List.set_cons_succ.{0}
noncomputable def lZ:=@List.set_cons_zero.{0}
noncomputable def bF:=@Bool.false_eq_true
noncomputable def lC:=@List.length_cons.{0}
noncomputable def lN:=@List.length_nil.{0}
noncomputable def lA:=@List.length_append.{0}
noncomputable def mC:=@List.map_cons.{0,0}
noncomputable def mN:=@List.map_nil.{0,0}
noncomputable def lM:=@List.length_map.{0,0}
noncomputable def mG:=@List.mem_of_getElem?.{0}
noncomputable def bN:=@Bool.false_ne_true
noncomputable def bA:=@Bool.and_eq_true
noncomputable section
set_option maxRecDepth 100000
namespace L2
open PySem PySem.Spec PyProof.Rows
abbrev Key:=Sum Int Str
noncomputable def zF:Key->Ad->Bool
 | .inl k,v=>EN k v|.inr x,v=>Value.isStrOf x v
noncomputable def aIY(w:AR):Key->Int
 | .inl k=>Fh k|.inr x=>hashStr w x
theorem keyIs_shape:∀{k:Key} {v:Ad},zF k v=true->(∃i t,k=FF i/\v=DQ i t)\/(∃x t,k=Fi x/\v=LH x t)
 | .inl i,v,h=>by obtain⟨t,e⟩:=Value.isInt_shape (k:=i) (v:=v) h;exact .inl ⟨i,t,rfl,e⟩|.inr x,v,h=>by obtain⟨t,e⟩:=Value.isStrOf_shape (x:=x) (v:=v) h;exact .inr ⟨x,t,rfl,e⟩
theorem aDX(a b:Int):decide ((FF a:Key)=FF b)=(a==b):=by by_cases e:a=b;subst e;simp;have h:¬ (FF a:Key)=FF b:=λq=>e (Sum.inl.inj q);rw[Ar h];exact(beq_eq_false_iff_ne.mpr e).symm
theorem aDY(a b:Str):decide ((Fi a:Key)=Fi b)=decide (a=b):=by by_cases e:a=b;subst e;simp;have h:¬ (Fi a:Key)=Fi b:=λq=>e (Sum.inr.inj q);rw[Ar h,Ar e]
theorem aDZ(a:Int)(b:Str):decide ((FF a:Key)=Fi b)=false:=Ar (λq=>nomatch q)
theorem aEa(a:Str)(b:Int):decide ((Fi a:Key)=FF b)=false:=Ar (λq=>nomatch q)
noncomputable def eE(prog:A0)(w:AR):PySem.KeyKind prog w Key where
 is:=zF
 hash:=aIY w
 inj:=λv a b ha hb=>by
  rcases keyIs_shape ha with⟨i,t,rfl,rfl⟩|⟨x,t,rfl,rfl⟩
  rcases keyIs_shape hb with⟨j,u,rfl,e⟩|⟨y,u,rfl,e⟩
  injection e with e1 _;rw[e1]
  exact nomatch e;rcases keyIs_shape hb with⟨j,u,rfl,e⟩|⟨y,u,rfl,e⟩
  exact nomatch e;injection e with e1 _;rw[e1]
 byValue:=λk v h=>by rcases keyIs_shape h with⟨i,t,rfl,rfl⟩|⟨x,t,rfl,rfl⟩ <;> rfl
 pyHash:=λhv h=>by
  rcases keyIs_shape hv with⟨i,t,rfl,rfl⟩|⟨x,t,rfl,rfl⟩
  exact wpAny_pyHash_int h;exact wpAny_pyHash_str h
 eqBool:=λhu hv h=>by
  rcases keyIs_shape hu with⟨i,t,rfl,rfl⟩|⟨x,t,rfl,rfl⟩
  rcases keyIs_shape hv with⟨j,u,rfl,rfl⟩|⟨y,u,rfl,rfl⟩
  rw[aDX] at h;exact IH h;rw[aDZ] at h;exact Lo i t y u _ _ _ _ h;rcases keyIs_shape hv with⟨j,u,rfl,rfl⟩|⟨y,u,rfl,rfl⟩
  rw[aEa] at h;exact Lp x t j u _ _ _ _ h;rw[aDY] at h;exact wpAny_eqBool_str h
 «strs»:=λk x t v h=>by
  rcases keyIs_shape h with⟨i,u,rfl,e⟩|⟨y,u,rfl,e⟩
  exact nomatch e;injection e with e1 _
  subst e1;cases v <;> rfl
set_option genInjectivity true in
inductive V where
 | non|bl (b:Bool)|int (i:Int)|str (x:Str)|byt (b:Array UInt8)|flt (b:UInt64)|ref (a:Addr)|ty (n:String)
 deriving DecidableEq
noncomputable def aQ:V->Ad->Prop
 | .non,u=>u=Cj|.bl b,u=>u=Fp b|.int i,u=>∃t,u=DQ i t|.str x,u=>∃t,u=LH x t|.byt b,u=>∃t,u=Value.bytes b t|.flt b,u=>∃t,u=Value.float b t|.ref a,u=>u=Ay a|.ty n,u=>u=Fq n
abbrev aH:List V->List Ad->Prop:=Dc aQ
theorem aH.length{xs:List V}{us:List Ad}(r:aH xs us):xs.length=us.length:=FS r
theorem aH.get:∀{xs:List V} {us:List Ad} {i:Nat} {x:V},aH xs us->xs[i]? = some x->∃u,us[i]? = some u/\aQ x u
 | _,_,_,_,.nil,e=>by simp at e|_,_,0,_,.cons r _,e=>by simp at e;subst e;exact⟨_,rfl,r⟩|_,_,i+1,x,.cons _ t,e=>by obtain⟨u,g,q⟩:=aH.get (i:=i) (x:=x) t (by simpa using e);exact⟨u,by simpa using g,q⟩
theorem aH.set{x:V}{u:Ad}(r:aQ x u):∀{xs:List V} {us:List Ad} (i:Nat),aH xs us->aH (xs.set i x) (us.set i u)
 | _,_,_,.nil=>.nil|_,_,0,.cons _ t=>.cons r t|_,_,i+1,.cons q t=>.cons q (aH.set r i t)
theorem aH.append:∀{xs ys:List V} {us g:List Ad},aH xs us->aH ys g->aH (xs++ys) (us++g)
 | _,_,_,_,.nil,s=>s|_,_,_,_,.cons r t,s=>.cons r (aH.append t s)
theorem aH.take:∀{xs:List V} {us:List Ad} (n:Nat),aH xs us->aH (xs.take n) (us.take n)
 | _,_,0,_=>.nil|_,_,_+1,.nil=>.nil|_,_,n+1,.cons r t=>.cons r (aH.take n t)
theorem aH.drop:∀{xs:List V} {us:List Ad} (n:Nat),aH xs us->aH (xs.drop n) (us.drop n)
 | _,_,0,r=>r|_,_,_+1,.nil=>.nil|_,_,n+1,.cons _ t=>aH.drop n t
noncomputable def aGt:Option V->Option Ad->Prop
 | some v,some u=>aQ v u|none,none=>True|_,_=>False
noncomputable def KV{κ:Type}:List (κ×V)->List (κ×Ad)->Prop:=Dc λ(p:κ×V) (q:κ×Ad)=>p.1=q.1/\aQ p.2 q.2
noncomputable def kV:Key->V
 | .inl i=>.int i|.inr x=>.str x
set_option genInjectivity true in
inductive HO where
 | lst (xs:List V)
 | tup (xs:List V)
 | dK (kvs:List (Key×V))|dT (kvs:List (List Key×V))
 | set (S:Int->Bool) (n:Nat)
 | ins (C dx:Addr) (fs:List (Str×V))
 | own (x:Addr)
 | xd (fs:List (Str×V))
 | met (f x:Addr)
 | rng (lo hi:Int)
 | frz (o:Obj) (u:HO)
 | tbl (ps:Array Ad)
 | ext (φ:Heap->Prop)
abbrev Hp:=Addr->Option HO
noncomputable def upd(H:Hp)(a:Addr)(o:HO):Hp:=λb=>if b=a then some o else H b
theorem bG{H:Hp}{a:Addr}{o:HO}:upd H a o a=some o:=by unfold upd;rw[if_pos rfl]
theorem aJ{H:Hp}{a b:Addr}{o:HO}(h:b≠a):upd H a o b=H b:=by unfold upd;rw[if_neg h]
theorem bH{H:Hp}{a b:Addr}{o:HO}(h:H a=some o)(h':H b=none):a≠b:=by intro e;subst e;rw[h] at h';cases h'
section
variable (P:A0) (w:AR)
noncomputable def cW(H:Hp)(h:Heap)(a:Addr):HO->Prop
 | .lst xs=>xs.length<=sizeLine/\∃(its:List Ad) (n:Nat),aH xs its/\h.get? a=some { cls:=.type "list",data:=.seq its.toArray n }|.tup xs=>xs.length<=sizeLine/\∃its:List Ad,aH xs its/\IsTup h a its.toArray|.dK kvs=>kvs.length<=sizeLine/\(a==Dd)=false/\∃vs,KV kvs vs/\h.DictOf (eE P w) a vs|.dT kvs=>kvs.length<=sizeLine/\(a==Dd)=false/\∃xs:List (List Key×Addr×Ad),
  Dc (λ(p:List Key×V) (q:List Key×Addr×Ad)=>p.1=q.1/\H q.2.1=some (.tup (p.1.map kV))/\aQ p.2 q.2.2) kvs xs /\
  ∃o es ep,h.get? a=some o/\o.ExactDict/\o.data=.dict es ep/\es.toList=xs.map (entryOfKey (B9 (eE P w)))/\(xs.map (·.1)).Nodup
 | .set S n=>h.SetOf (BJ P w) a S n|.ins C dx fs=>H dx=some (.own a)/\fs.length<=1000/\dx≠a/\h.get? a=some (PySem.W.instObj C dx) /\
  ∃mA,h.Ns1 dx mA/\(∀f,aGt (fs.lookup f) (mA f))/\PySem.Within mA (fs.map (·.1))
 | .own _=>∃o,h.get? a=some o|.xd fs=>∃mA,h.Ns1 a mA/\∀f,aGt (fs.lookup f) (mA f)|.rng lo hi=>∃t u v,h.get? a=some { cls:=.type "range",data:=.fields #[.int lo t,.int hi u,.int 1 v] }|.frz o u=>h.get? a=some o/\cW H h a u|.tbl ps=>h.get? a=some { cls:=.none,data:=.fields ps }|.met f x=>h.get? a=some (FG (.ref f) (.ref x))|.ext φ=>φ h/\(∃o,h.get? a=some o)/\∀h1 h2:Heap,φ h1->(∀o,h1.get? a=some o->h2.get? a=some o)->φ h2
noncomputable def HOk(H:Hp)(h:Heap):Prop:=∀a o,H a=some o->cW P w H h a o
end
section
variable {P:A0} {w:AR} {H H':Hp} {h h':Heap} {a:Addr} {o:HO}
theorem cW.lt(x:cW P w H h a o):a<h.objs.size:=by
 cases o with
 | lst xs=>obtain⟨_,_,_,_,e⟩:=x;exact Ap e|tup xs=>obtain⟨_,_,_,p⟩:=x;exact p.lt|dK kvs=>obtain⟨_,_,_,_,o,_,_,e,_⟩:=x;exact Ap e|dT kvs=>obtain⟨_,_,_,_,o,_,_,e,_⟩:=x;exact Ap e|set S n=>obtain⟨o,_,_,_,e,_⟩:=x;exact Ap e|ins C dx fs=>obtain⟨_,_,_,e,_⟩:=x;exact Ap e|own y=>obtain⟨_,e⟩:=x;exact Ap e|xd fs=>obtain⟨_,⟨_,_,_,e,_⟩,_⟩:=x;exact Ap e|rng lo hi=>obtain⟨_,_,_,e⟩:=x;exact Ap e|frz ob u=>obtain⟨e,_⟩:=x;exact Ap e|tbl ps=>exact Ap (show h.get? a=some _ from x)|met f y=>exact Ap (show h.get? a=some _ from x)|ext φ=>obtain⟨_,⟨_,e⟩,_⟩:=x;exact Ap e
theorem Paired.mapP{α g:Type}{F G:α->g->Prop}:∀{l₁:List α} {l₂:List g},Dc F l₁ l₂->(∀a b,F a b->G a b)->Dc G l₁ l₂
 | _,_,.nil,_=>.nil|_,_,.cons r t,f=>.cons (f _ _ r) (Paired.mapP t f)
theorem cW.stay(x:cW P w H h a o)(k:∀b u,(b=a\/H b=some (.own a))->h.get? b=some u->h'.get? b=some u)
 (I:∀b,H b=some (.own a)->H' b=some (.own a)) (L:∀b xs,H b=some (.tup xs)->H' b=some (.tup xs)):cW P w H' h' a o:=by
 induction o with
 | lst xs=>obtain⟨z,g,n,r,e⟩:=x;exact⟨z,g,n,r,k _ _ (.inl rfl) e⟩|tup xs=>obtain⟨z,g,r,ob,e,c⟩:=x;exact⟨z,g,r,ob,k _ _ (.inl rfl) e,c⟩|dK kvs=>obtain⟨z,y,vs,r,ob,es,ep,e,c⟩:=x;exact⟨z,y,vs,r,ob,es,ep,k _ _ (.inl rfl) e,c⟩|dT kvs=>obtain⟨z,y,xs,r,ob,es,ep,e,c⟩:=x;exact⟨z,y,xs,Paired.mapP r λp q z=>⟨z.1,L _ _ z.2.1,z.2.2⟩,ob,es,ep,k _ _ (.inl rfl) e,c⟩|set S n=>obtain⟨ob,es,ep,t,e,c⟩:=x;exact⟨ob,es,ep,t,k _ _ (.inl rfl) e,c⟩|ins C dx fs=>obtain⟨d,z,ne,e,B,⟨od,es,ep,G,c⟩,r⟩:=x;exact⟨I _ d,z,ne,k _ _ (.inl rfl) e,B,⟨od,es,ep,k _ _ (.inr d) G,c⟩,r⟩|own y=>obtain⟨ob,e⟩:=x;exact⟨ob,k _ _ (.inl rfl) e⟩|xd fs=>obtain⟨B,⟨od,es,ep,e,c⟩,r⟩:=x;exact⟨B,⟨od,es,ep,k _ _ (.inl rfl) e,c⟩,r⟩|rng lo hi=>obtain⟨t,u,v,e⟩:=x;exact⟨t,u,v,k _ _ (.inl rfl) e⟩|frz ob u M=>obtain⟨e,q⟩:=x;exact⟨k _ _ (.inl rfl) e,M q⟩|tbl ps=>have e:h.get? a=some { cls:=.none,data:=.fields ps }:=x;show h'.get? a=some { cls:=.none,data:=.fields ps };exact k a _ (.inl rfl) e|met f y=>have e:h.get? a=some (FG (.ref f) (.ref y)):=x;show h'.get? a=some (FG (.ref f) (.ref y));exact k a _ (.inl rfl) e|ext φ=>obtain⟨p,⟨o,e⟩,st⟩:=x;exact⟨st _ _ p λo q=>k _ _ (.inl rfl) q,⟨o,k _ _ (.inl rfl) e⟩,st⟩
theorem HOk.lt(x:HOk P w H h)(e:H a=some o):a<h.objs.size:=(x a o e).lt
theorem HOk.fresh(x:HOk P w H h)(e:h.objs.size<=a):H a=none:=by
 cases q:H a with
 | none=>rfl|some u=>exact absurd (AF (x.lt q) e) (AL _)
theorem HOk.kept(x:HOk P w H h)(k:∀b u,h.get? b=some u->h'.get? b=some u):HOk P w H h':=λa o e=>(x a o e).stay (λb u _ q=>k b u q) (λ_ q=>q) λ_ _ q=>q
theorem HOk.laid(x:HOk P w H h)(k:∀b u,h.get? b=some u->h'.get? b=some u)(G:h.objs.size<=a)(new:cW P w (upd H a o) h' a o):HOk P w (upd H a o) h':=λb u e=>by have B:=x.fresh G;by_cases g:b=a;subst g;rw[bG] at e;cases e;exact new;rw[aJ g] at e;exact(x b u e).stay (λc v _ q=>k c v q) (λc q=>by rw[aJ (bH q B)];exact q) λc xs q=>by rw[aJ (bH q B)];exact q
end
noncomputable def Rd(H:Hp)(a:Addr)(u:HO):Prop:=H a=some u\/∃o,H a=some (.frz o u)
theorem Rd.ok{P:A0}{w:AR}{H:Hp}{h:Heap}{a:Addr}{u:HO}(r:Rd H a u)(x:HOk P w H h):cW P w H h a u:=by
 rcases r with r|⟨o,r⟩
 exact x a u r;obtain⟨_,q⟩:=x a _ r;exact q
noncomputable def Mut:Option HO->Prop
 | some (.lst _)=>True|some (.dK _)=>True|some (.dT _)=>True|some (.set _ _)=>True|some (.ins _ _ _)=>True|some (.ext _)=>True|_=>False
section
variable {P:A0} {w:AR} {H:Hp} {h h':Heap} {x e:Addr} {o':HO}
theorem HOk.write(ok:HOk P w H h)(M:Mut (H x))(W:e=x\/H e=some (.own x))(k:∀b u,b≠e->h.get? b=some u->h'.get? b=some u)(U:∃u,h'.get? e=some u)
 (new:cW P w (upd H x o') h' x o'):HOk P w (upd H x o') h':=λb u q=>by
 have B:∀c y,H c=some (.own y)->c≠x:=λc y r z=>by subst z;rw[r] at M;exact M
 have G:∀c xs,H c=some (.tup xs)->c≠x:=λc xs r z=>by subst z;rw[r] at M;exact M
 by_cases I:b=x;subst I;rw[bG] at q;cases q;exact new;rw[aJ I] at q;by_cases g:b=e;have q':H b=some (.own x):=by rcases W with z|z;exact absurd (g.trans z) I;rw[g];exact z
 rw[q] at q';cases q';obtain⟨v,hv⟩:=U;exact⟨v,by rw[g];exact hv⟩;refine(ok b u q).stay (λc v L r=>k c v ?_ r) (λc r=>by rw[aJ (B c b r)];exact r) λc xs r=>by rw[aJ (G c xs r)];exact r
 rcases L with rfl|L;exact g;rintro rfl;rcases W with z|z;exact B c b L z;rw[L] at z;cases z;exact I rfl
end
structure Un (fs ex:List Addr) (H H':Hp) (h h':Heap):Prop where
 keep:∀b o,h.get? b=some o->H b=none->b∉fs->b∉ex->h'.get? b=some o
 slot:∀b o,h.get? b=some o->H b=none->b∈fs->b∉ex->∃sl,h'.get? b=some { o with slots:=sl }
 free:∀b o,h.get? b=some o->H b=none->b∉ex->H' b=none
 there:∀b o,h.get? b=some o->b∉ex->∃o',h'.get? b=some o'
 tups:∀b xs,H b=some (.tup xs)->H' b=some (.tup xs)
 frzs:∀b o u,H b=some (.frz o u)->H' b=some (.frz o u)
 tbls:∀b ps,H b=some (.tbl ps)->∃more,H' b=some (.tbl (ps++more))
section
variable {fs fs' ex ex':List Addr} {H H1 H2:Hp} {h h1 h2 h':Heap} {a x e:Addr} {o:HO}
theorem Un.any(u:Un fs ex H H1 h h1){b:Addr}{ob:Obj}(q:h.get? b=some ob)(n:H b=none)(B:b∉ex):∃sl,h1.get? b=some { ob with slots:=sl }:=by by_cases g:b∈fs;exact u.slot b ob q n g B;exact⟨ob.slots,u.keep b ob q n g B⟩
theorem Un.kept(k:∀b u,h.get? b=some u->h'.get? b=some u):Un fs ex H H h h':=
 ⟨λb ob q _ _ _=>k b ob q,λb ob q _ _ _=>⟨ob.slots,k b ob q⟩,λ_ _ _ n _=>n,λb ob q _=>⟨ob,k b ob q⟩,λ_ _ q=>q,λ_ _ _ q=>q,λ_ ps q=>⟨#[],by rw[q];simp⟩⟩
theorem Un.refl:Un fs ex H H h h:=Un.kept λ_ _ q=>q
theorem Un.laid(k:∀b u,h.get? b=some u->h'.get? b=some u)(B:h.objs.size<=a)(g:H a=none):Un fs ex H (upd H a o) h h' where
 keep:=λb u q _ _ _=>k b u q
 slot:=λb u q _ _ _=>⟨u.slots,k b u q⟩
 free:=λb u q n _=>by rw[aJ (A8 (AF (Ap q) B))];exact n
 there:=λb u q _=>⟨u,k b u q⟩
 tups:=λb xs q=>by rw[aJ (bH q g)];exact q
 frzs:=λb u xs q=>by rw[aJ (bH q g)];exact q
 tbls:=λb ps q=>⟨#[],by rw[aJ (bH q g),q];simp⟩
theorem Un.write(B:Mut (H x))(U:e=x\/H e=some (.own x))(k:∀b u,b≠e->h.get? b=some u->h'.get? b=some u)(G:∃u,h'.get? e=some u):Un fs ex H (upd H x o) h h':=by
 have M:∀b,H b=none->b≠x:=λb n z=>by subst z;rw[n] at B;exact B
 have L:∀b,H b=none->b≠e:=λb n z=>by subst z;rcases U with r|r;exact M b n r;rw[n] at r;cases r
 have I:∀b u,H b=some u->¬ Mut (some u)->b≠x:=λb u q W z=>by subst z;rw[q] at B;exact W B
 refine⟨λb u q n _ _=>k b u (L b n) q,λb u q n _ _=>⟨u.slots,k b u (L b n) q⟩,λb u q n _=>by rw[aJ (M b n)];exact n,λb u q _=>?_,
  λb xs q=>by rw[aJ (I b _ q λz=>z)];exact q,λb u xs q=>by rw[aJ (I b _ q λz=>z)];exact q,λb ps q=>⟨#[],by rw[aJ (I b _ q λz=>z),q];simp⟩⟩
 by_cases g:b=e;subst g;exact G;exact⟨u,k b u g q⟩
end
noncomputable def trk(h:Heap)(H:Hp):List Addr:=(AA h.objs.size).filter λa=>(H a).isSome
noncomputable def oT(h:Heap)(H:Hp):Heap:=PySem.W.hideAll h (trk h H)
theorem xS(h:Heap)(H:Hp):(oT h H).objs.size=h.objs.size:=PySem.W.hideAll_size _ _
theorem zG{h:Heap}{H:Hp}{b:Addr}{o:Obj}(e:h.get? b=some o)(n:H b=none):(oT h H).get? b=some o:=
 PySem.W.hideAll_get _ e λg=>by have q:(H b).isSome=true:=(B6.mp g).2;rw[n] at q;simp at q
theorem aBP{h:Heap}{H:Hp}{b:Addr}{o:Obj}(e:(oT h H).get? b=some o):h.get? b=some o/\H b=none:=by
 have g:h.get? b=some o:=PySem.W.of_hideAll (trk h H) e;refine⟨g,?_⟩;cases q:H b with
 | none=>rfl|some x=>have B:b∈trk h H:=B6.mpr ⟨Bb.mpr (Ap g),by simp[q]⟩;have z:(oT h H).get? b=none:=PySem.W.hideAll_none (trk h H) B;rw[z] at e;cases e
noncomputable def aBQ(g h:Heap)(L:Addr):List (Addr×Obj):=(AA h.objs.size).filterMap λa=>if a=L\/(g.get? a).isSome=true then none else (h.get? a).map λo=>(a,o)
noncomputable def rest(g h:Heap)(L d:Addr):List (Addr×Obj):=(aBQ g h L).filter λp=>decide (p.1≠d)
structure Mod (K:A1) (mg:Str->Option Ad) (base:Heap):Prop where
 kin:K.In base
 glob:base.Ns Bx mg
 blt:∃mb,base.Ns HC mb/\∀x:Str,x ≠ "__name__" -> mb x=C9 x
 nolimit:base.NoLimit
set_option genInjectivity true in
structure Cx where
 prog:A0
 w:AR
 K:A1
 mg:Str->Option Ad
 base:Heap
 A:AJ
 N:List Str
 s₀:Ac
 H₀:Hp
 env:JY
 outer:List JY
 stack:List JY
 ex:List Addr
 fn:Str->Bool
 calm:Bool
 pn:List (Addr×Obj)
 xe:Ad->Ac->Prop
noncomputable def frs(l:List JY):List Addr:=l.filterMap (·.frame)
abbrev Cx.fs(X:Cx):List Addr:=frs X.outer
noncomputable def Vis(sc:DB)(x:Str):Prop:=sc.names.lookup x=some .local\/sc.names.lookup x=some .cell\/sc.names.lookup x=some .free
noncomputable def Loc(sc:DB)(x:Str):Prop:=sc.names.lookup x=some .local\/sc.names.lookup x=some .cell
noncomputable def aIZ(env:JY)(h:Heap)(m:Str->Option Ad)(x:Str)(u:Ad):Prop:=
 (env.kindOf x=some .local/\m x=some u)\/((env.kindOf x=some .cell\/env.kindOf x=some .free)/\∃c,env.cells.lookup x=some c/\h.IsCell c (some u))
structure Cx.Ok (X:Cx):Prop where
 mod:Mod X.K X.mg X.base
 kind:X.env.scope.kind=.function
 glob:X.env.globals=Bx
 blt:X.env.builtins=HC
 above:X.s₀.heap.objs.size<=X.env.locals
 inj:∀x y c,X.env.cells.lookup x=some c->X.env.cells.lookup y=some c->x=y
 has:∀x,(X.env.kindOf x=some .cell\/X.env.kindOf x=some .free)->∃c,X.env.cells.lookup x=some c
 cab:∀x c,X.fn x=true->X.env.cells.lookup x=some c->X.s₀.heap.objs.size<=c
 hd:X.calm=true->X.A.handled=none
 frames:X.A.frames=some X.stack
 stk:X.stack=X.outer\/(X.stack=X.env::X.outer/\X.env.frame=some X.env.locals)
 exf:∀b∈X.ex,b≠X.env.locals/\∀x c,X.env.cells.lookup x=some c->c≠b
 bs:∀b o,X.base.get? b=some o->X.s₀.heap.get? b=some o/\X.H₀ b=none
 bsz:X.base.objs.size<=X.s₀.heap.objs.size
 noex:∀b o,X.base.get? b=some o->b∉X.ex
 exfs:∀b∈X.ex,b∉X.fs
 funs:X.s₀.heap.FunFrames X.base X.outer
 frf:∀b∈X.fs,X.H₀ b=none
structure Inv (X:Cx) (pins:List (Addr×Obj)) (Z:List (Option V)) (H:Hp) (s:Ac):Prop where
 ok:X.Ok
 os:s.os=X.s₀.os
 bare:FH s.gens
 base:Un X.fs X.ex X.H₀ H X.s₀.heap s.heap
 loc:∃m,s.heap.Ns X.env.locals m/\∀(i:Nat) (x:Str) (v:V),X.N[i]? = some x->Z[i]? = some (some v)->Vis X.env.scope x->∃u,aQ v u/\aIZ X.env s.heap m x u
 cell:∀x c,X.env.cells.lookup x=some c->∃v,s.heap.IsCell c v
 free:H X.env.locals=none
 freeC:∀x c,X.env.cells.lookup x=some c->H c=none
 pin:∀p∈X.pn++pins,s.heap.get? p.1=some p.2/\H p.1=none/\p.1≠X.env.locals/\p.1∉X.fs/\∀v,p.2.data≠.cell v
 hok:HOk X.prog X.w H s.heap
 len:Z.length=X.N.length
section
variable {X:Cx} {pins:List (Addr×Obj)} {Z:List (Option V)} {H H':Hp} {s:Ac} {h':Heap}
theorem Cx.Ok.nofr(ok:X.Ok){b:Addr}{o:Obj}(e:X.base.get? b=some o):b∉X.fs:=λg=>by have:=(ok.funs.mem g).1;rw[e] at this;cases this
theorem Inv.bs(I:Inv X pins Z H s):∀b o,X.base.get? b=some o->s.heap.get? b=some o/\H b=none:=λb o e=>⟨I.base.keep b o (I.ok.bs b o e).1 (I.ok.bs b o e).2 (I.ok.nofr e) (I.ok.noex b o e),I.base.free b o (I.ok.bs b o e).1 (I.ok.bs b o e).2 (I.ok.noex b o e)⟩
theorem Inv.bk(I:Inv X pins Z H s):∀b o,X.base.get? b=some o->s.heap.get? b=some o:=λb o e=>(I.bs b o e).1
theorem Inv.mod(I:Inv X pins Z H s):Mod X.K X.mg X.base:=I.ok.mod
theorem Inv.kIn(I:Inv X pins Z H s):X.K.In s.heap:=I.ok.mod.kin.keeps I.bk
theorem Inv.lt(I:Inv X pins Z H s):X.env.locals<s.heap.objs.size:=let ⟨_,hn,_⟩:=I.loc;hn.lt
theorem Inv.sz(I:Inv X pins Z H s):X.s₀.heap.objs.size<=s.heap.objs.size:=A2 I.ok.above (Ca I.lt)
theorem Inv.nofs(I:Inv X pins Z H s){a:Addr}(h:s.heap.objs.size<=a):a∉X.fs:=λg=>by obtain⟨_,o,q,_⟩:=I.ok.funs.mem g;exact absurd (AF (Ap q) (A2 I.sz h)) (AL _)
theorem Inv.cne(I:Inv X pins Z H s):∀x c,X.env.cells.lookup x=some c->c≠X.env.locals:=λx c e z=>by obtain⟨v,o,B,hd⟩:=I.cell x c e;obtain⟨m,⟨o',es,ep,q,g,_⟩,_⟩:=I.loc;rw[z,q] at B;cases B;rw[g] at hd;cases hd
theorem Inv.funs(I:Inv X pins Z H s):s.heap.FunFrames X.base X.outer:=by
 have all:∀(l:List JY),(∀b∈frs l,b∈X.fs)->X.s₀.heap.FunFrames X.base l->s.heap.FunFrames X.base l:=by
  intro l
  induction l with
  | nil=>intro _ _;trivial|cons env r ih=>intro hs M;obtain⟨G,⟨L,o,B,U,W,hd⟩,hr⟩:=M;have g:L∈X.fs:=hs L (by unfold frs;rw[Dk,B];exact Ai);obtain⟨sl,e⟩:=I.base.slot L o W (I.ok.frf L g) g λz=>I.ok.exfs L z g;exact⟨G,⟨L,_,B,U,e,hd⟩,ih (λb q=>hs b (by unfold frs;rw[Dk,B];exact Af _ q)) hr⟩
 exact all X.outer (λ_ q=>q) I.ok.funs
theorem Inv.stack(I:Inv X pins Z H s):s.heap.FunFrames X.base X.stack:=by
 rcases I.ok.stk with e|⟨e,g⟩
 rw[e];exact I.funs;rw[e];obtain⟨m,q,_⟩:=I.loc;refine .cons (by rw[I.ok.kind];decide) g q ?_ I.funs;exact Heap.get?_none_of_le (A2 I.ok.bsz I.ok.above)
theorem Inv.stkSub(I:Inv X pins Z H s):∀b∈frs X.stack,b∈X.env.locals::X.fs:=λb g=>by
 rcases I.ok.stk with e|⟨e,q⟩
 rw[e] at g;exact Af _ g;rw[e] at g;unfold frs at g;rw[Dk,q] at g;exact g
theorem Inv.stkFree(I:Inv X pins Z H s):∀b∈frs X.stack,H b=none:=λb g=>by rcases Al.mp (I.stkSub b g) with e|g;rw[e];exact I.free;obtain⟨_,o,q,_⟩:=I.ok.funs.mem g;exact I.base.free b o q (I.ok.frf b g) λz=>I.ok.exfs b z g
theorem Inv.step{g':Array GT}{t':Nat}{d':Drawn}{ch:List Addr}(I:Inv X pins Z H s)
 (G:∀b∈ch,(b∈X.ex\/X.s₀.heap.objs.size<=b)/\b≠X.env.locals/\(∀x c,X.env.cells.lookup x=some c->c≠b)/\∀p∈X.pn++pins,p.1≠b)
 (keep:∀b o,b≠X.env.locals->b∉X.fs->b∉ch->s.heap.get? b=some o->H b=none->h'.get? b=some o)
 (slot:∀b o,b≠X.env.locals->b∈X.fs->b∉ch->s.heap.get? b=some o->H b=none->∃sl,h'.get? b=some { o with slots:=sl }) (free:∀b o,b∉ch->s.heap.get? b=some o->H b=none->H' b=none)
 (there:∀b o,b∉ch->s.heap.get? b=some o->∃o',h'.get? b=some o')
 (tups:∀b xs,H b=some (.tup xs)->H' b=some (.tup xs)) (frzs:∀b o u,H b=some (.frz o u)->H' b=some (.frz o u)) (tbls:∀b ps,H b=some (.tbl ps)->∃more,H' b=some (.tbl (ps++more)))
 (ns:∀m,s.heap.Ns X.env.locals m->h'.Ns X.env.locals m) (hok:HOk X.prog X.w H' h') (hg:FH g') :
 Inv X pins Z H' { s with heap:=h',gens:=g',drawn:=d',toks:=t' }:=by
 have q0:∀b o,X.s₀.heap.get? b=some o->b≠X.env.locals:=λb o e=>A8 (AF (Ap e) I.ok.above);have U:∀b o,X.s₀.heap.get? b=some o->b∉X.ex->b∉ch:=λb o e g W=>by rcases(G b W).1 with z|z;exact g z;exact absurd (AF (Ap e) z) (AL _)
 have B:∀x c,X.env.cells.lookup x=some c->∀v,s.heap.IsCell c v->h'.IsCell c v:=λx c e v ⟨o,ho,hd⟩=>by have L:c∉ch:=λz=>(G c z).2.2.1 x c e rfl;by_cases hc:c∈X.fs;obtain⟨sl,q⟩:=slot c o (I.cne x c e) hc L ho (I.freeC x c e);exact⟨_,q,hd⟩;exact⟨o,keep c o (I.cne x c e) hc L ho (I.freeC x c e),hd⟩
 refine⟨I.ok,I.os,hg,⟨λb o e n W g=>?_,λb o e n W g=>?_,λb o e n g=>?_,λb o e g=>?_,λb xs e=>tups b xs (I.base.tups b xs e),λb o xs e=>frzs b o xs (I.base.frzs b o xs e),λb ps e=>?_⟩,?_,λx c e=>?_,?_,λx c e=>?_,λp hp=>?_,hok,I.len⟩;exact keep b o (q0 b o e) W (U b o e g) (I.base.keep b o e n W g) (I.base.free b o e n g);obtain⟨sl,M⟩:=I.base.slot b o e n W g;obtain⟨q1,e2⟩:=slot b _ (q0 b o e) W (U b o e g) M (I.base.free b o e n g);exact⟨q1,e2⟩;obtain⟨o',M⟩:=I.base.there b o e g;exact free b o' (U b o e g) M (I.base.free b o e n g);obtain⟨o',M⟩:=I.base.there b o e g;exact there b o' (U b o e g) M;obtain⟨m1,M⟩:=I.base.tbls b ps e;obtain⟨m2,e2⟩:=tbls b _ M;exact⟨m1++m2,by rw[e2,Array.append_assoc]⟩;obtain⟨m,hn,hl⟩:=I.loc;refine⟨m,ns m hn,λi x v M e2 e3=>?_⟩;obtain⟨u,r,l⟩:=hl i x v M e2 e3;refine⟨u,r,?_⟩;rcases l with l|⟨k,c,e,z⟩
 exact .inl l;exact .inr ⟨k,c,e,B x c e _ z⟩;obtain⟨v,z⟩:=I.cell x c e;exact⟨v,B x c e v z⟩;obtain⟨m,⟨o,_,_,ho,_⟩,_⟩:=I.loc;exact free _ o (λz=>(G _ z).2.1 rfl) ho I.free;obtain⟨v,o,ho,hd⟩:=I.cell x c e;exact free c o (λz=>(G c z).2.2.1 x c e rfl) ho (I.freeC x c e);obtain⟨e,n,ne,nf,d⟩:=I.pin p hp;have L:p.1∉ch:=λz=>(G p.1 z).2.2.2 p hp rfl;exact⟨keep p.1 p.2 ne nf L e n,free p.1 p.2 L e n,ne,nf,d⟩
theorem Inv.un{t':Nat}(I:Inv X pins Z H s)(u:Un X.fs [] H H' s.heap h')(hok:HOk X.prog X.w H' h'):Inv X pins Z H' { s with heap:=h',toks:=t' }:=by
 obtain⟨m,⟨o,es,ep,L,r⟩,_⟩:=id I.loc;obtain⟨sl,M⟩:=u.any L I.free (by simp);exact I.step (g':=s.gens) (d':=s.drawn) (ch:=[]) (λ_ z=>nomatch z) (λb o _ G _ e n=>u.keep b o e n G (by simp)) (λb o _ G _ e n=>u.slot b o e n G (by simp)) (λb o _ e n=>u.free b o e n (by simp)) (λb o _ e=>u.there b o e (by simp)) u.tups u.frzs u.tbls (λm' U=>by
  obtain⟨o',B,q,g,W⟩:=U;rw[L] at g;cases g;exact⟨_,B,q,M,W⟩) hok I.bare
theorem Inv.call{g':Array GT}{t':Nat}{d':Drawn}{ch:List Addr}(I:Inv X pins Z H s)(u:Un (frs X.stack) ch H H' s.heap h')(hok:HOk X.prog X.w H' h')(hg:FH g')
 (q:∀b∈ch,(b∈X.ex\/X.s₀.heap.objs.size<=b)/\b≠X.env.locals/\(∀x c,X.env.cells.lookup x=some c->c≠b)/\∀p∈X.pn++pins,p.1≠b) :
 Inv X pins Z H' { s with heap:=h',gens:=g',drawn:=d',toks:=t' }:=by
 obtain⟨m,⟨o,es,ep,U,r⟩,_⟩:=id I.loc;obtain⟨sl,M⟩:=u.any U I.free λz=>(q _ z).2.1 rfl;exact I.step (ch:=ch) q (λb o M W g e n=>u.keep b o e n (λz=>(Al.mp (I.stkSub b z)).elim M W) g) (λb o _ _ g e n=>u.any e n g) (λb o g e n=>u.free b o e n g) (λb o g e=>u.there b o e g) u.tups u.frzs u.tbls (λm' hm=>by
  obtain⟨o',L,G,B,r'⟩:=hm;rw[U] at B;cases B;exact⟨_,L,G,M,r'⟩) hok hg
theorem Inv.turned{t':Nat}{it:Addr}(I:Inv X pins Z H s)(k:∀b o,b≠it->s.heap.get? b=some o->h'.get? b=some o)(hn:H it=none)(G:it≠X.env.locals)
 (L:it∈X.ex\/X.s₀.heap.objs.size<=it) (M:∀x c,X.env.cells.lookup x=some c->c≠it) (U:∀p∈X.pn++pins,p.1≠it):Inv X pins Z H { s with heap:=h',toks:=t' }:=by
 have B:∀b u,H b=some u->b≠it:=λb u e z=>by rw[z,hn] at e;cases e
 refine I.step (g':=s.gens) (d':=s.drawn) (ch:=[it]) (λb W=>?_) (λb o _ _ g e _=>k b o (λz=>g (by simp[z])) e) (λb o _ _ g e _=>⟨o.slots,k b o (λz=>g (by simp[z])) e⟩) (λ_ _ _ _ n=>n)
  (λb o g e=>⟨o,k b o (λz=>g (by simp[z])) e⟩) (λ_ _ e=>e) (λ_ _ _ e=>e) (λb ps e=>⟨#[],by rw[e];simp⟩) (λm hm=>?_) (λb u e=>?_) I.bare
 have e:b=it:=by simpa using W
 subst e;exact⟨L,G,M,U⟩;obtain⟨o,es,ep,ho,r⟩:=hm;exact⟨o,es,ep,k _ o (DR G) ho,r⟩;refine(I.hok b u e).stay (λc v g q=>k c v ?_ q) (λ_ q=>q) λ_ _ q=>q;rcases g with z|z;rw[z];exact B b u e;exact B c _ z
theorem Inv.tok(I:Inv X pins Z H s)(t:Nat):Inv X pins Z H { s with toks:=t }:=I.un (h':=s.heap) (t':=t) Un.refl I.hok
theorem Inv.kept{t':Nat}(I:Inv X pins Z H s)(k:∀b u,s.heap.get? b=some u->h'.get? b=some u):Inv X pins Z H { s with heap:=h',toks:=t' }:=I.un (Un.kept k) (I.hok.kept k)
theorem Inv.laid{a:Addr}{o:HO}{t':Nat}(I:Inv X pins Z H s)(k:∀b u,s.heap.get? b=some u->h'.get? b=some u)(g:s.heap.objs.size<=a)(new:cW X.prog X.w (upd H a o) h' a o) :
 Inv X pins Z (upd H a o) { s with heap:=h',toks:=t' }:=I.un (Un.laid k g (I.hok.fresh g)) (I.hok.laid k g new)
theorem Inv.write{x e:Addr}{o:HO}{t':Nat}(I:Inv X pins Z H s)(B:Mut (H x))(q:e=x\/H e=some (.own x))(k:∀b u,b≠e->s.heap.get? b=some u->h'.get? b=some u)(g:∃u,h'.get? e=some u)
 (new:cW X.prog X.w (upd H x o) h' x o):Inv X pins Z (upd H x o) { s with heap:=h',toks:=t' }:=I.un (Un.write B q k g) (I.hok.write B q k g new)
theorem Inv.pins_of{pins':List (Addr×Obj)}(I:Inv X pins Z H s)(h:∀p∈pins',s.heap.get? p.1=some p.2/\H p.1=none/\p.1≠X.env.locals/\p.1∉X.fs/\∀v,p.2.data≠.cell v):Inv X pins' Z H s:=
 ⟨I.ok,I.os,I.bare,I.base,I.loc,I.cell,I.free,I.freeC,λp g=>(AO.mp g).elim (λz=>I.pin p (AB _ z)) (h p),I.hok,I.len⟩
theorem qZ{N:List Str}(B:N.Nodup){i j:Nat}{x:Str}(a:N[i]? = some x)(b:N[j]? = some x):i=j:=by obtain⟨G,g⟩:=Au.mp a;obtain⟨I,q⟩:=Au.mp b;exact(List.getElem_inj B).mp (g.trans q.symm)
theorem nH{M:GE}{A:AJ}{E:Ad->Ac->Prop}{i:Nat}{x:Str}{v:V}{u:Ad}{Q:Unit->Ac->Prop}(I:Inv X pins Z H s)(hN:X.N.Nodup)(hi:X.N[i]? = some x)(L:Loc X.env.scope x)(r:aQ v u)
 (h:∀s',Inv X pins (Z.set i (some v)) H s'->(∃a,BA a s.heap s'.heap/\(a=X.env.locals\/X.env.cells.lookup x=some a))->Q () s') (hf:X.fn x=true\/X.env.scope.names.lookup x=some .local:=by first|exact .inl rfl|exact .inr rfl|assumption):Am M A (storeName X.env x u) Q E s:=by
 obtain⟨m,hn,hl⟩:=id I.loc;have q3:(X.env.scope.kind==.class||(X.env.scope.kind==.module&&X.env.locals != X.env.globals))=false:=by rw[I.ok.kind];rfl
 have q4:i<Z.length:=by rw[I.len];exact(Au.mp hi).1
 have cne:=I.cne;have B:∀{a:Addr} {h':Heap},(∃o,s.heap.get? a=some o/\H a=none)->BA a s.heap h'->HOk X.prog X.w H h':=λ{a h'} ha hs b ob e=>by obtain⟨_,_,U⟩:=ha;refine(I.hok b ob e).stay (λc w' G q=>(hs.2 c ?_).trans q) (λ_ q=>q) λ_ _ q=>q;rintro rfl;rcases G with rfl|G;rw[U] at e;cases e;rw[U] at G;cases G
 rcases L with hk|hk;refine wpAny_storeName_local hk hn (λh' q7 hs=>?_) q3;obtain⟨oL,_,_,q8,_⟩:=id hn;refine h _ ⟨I.ok,I.os,I.bare,⟨λb o e n hb L=>?_,λb o e n hb L=>?_,I.base.free,λb o e L=>?_,I.base.tups,I.base.frzs,I.base.tbls⟩,⟨_,q7,λj y v' g W e3=>?_⟩,λy c e=>?_,I.free,I.freeC,λp hp=>?_,B ⟨oL,q8,I.free⟩ hs,by simpa using I.len⟩ ⟨_,hs,.inl rfl⟩;exact(hs.2 b (A8 (AF (Ap e) I.ok.above))).trans (I.base.keep b o e n hb L);obtain⟨sl,g⟩:=I.base.slot b o e n hb L;exact⟨sl,(hs.2 b (A8 (AF (Ap e) I.ok.above))).trans g⟩;obtain⟨o',g⟩:=I.base.there b o e L;exact⟨o',(hs.2 b (A8 (AF (Ap e) I.ok.above))).trans g⟩;by_cases hj:j=i;subst hj;rw[hi] at g;cases g;rw[AU q4] at W;cases W;exact⟨u,r,.inl ⟨hk,by simp⟩⟩;rw[Aq (DR hj)] at W;obtain⟨u',r',q⟩:=hl j y v' g W e3;refine⟨u',r',?_⟩;rcases q with⟨k,e⟩|⟨k,c,e,z⟩
 refine .inl ⟨k,?_⟩;have:y≠x:=λe=>hj (qZ hN g (e▸hi));simp[this,e];exact .inr ⟨k,c,e,z.sameBut hs (cne y c e)⟩;obtain⟨w',z⟩:=I.cell y c e;exact⟨w',z.sameBut hs (cne y c e)⟩;obtain⟨e,n,ne,nf,d⟩:=I.pin p hp;exact⟨(hs.2 p.1 ne).trans e,n,ne,nf,d⟩;have q0:X.fn x=true:=by rcases hf with z|z;exact z;rw[z] at hk;cases hk
 obtain⟨c,G⟩:=I.ok.has x (.inl hk);obtain⟨w',z⟩:=I.cell x c G;refine wpAny_storeName_cell I.ok.kind hk G z (λh' q1 hs=>?_);obtain⟨oc,q5,q6⟩:=id z;refine h { s with heap:=h' } ⟨I.ok,I.os,I.bare,⟨λb o e n hb L=>?_,λb o e n hb L=>?_,I.base.free,λb o e L=>?_,I.base.tups,I.base.frzs,I.base.tbls⟩,⟨m,hn.sameBut hs (DR (cne x c G)),λj y v' g W e3=>?_⟩,λy c' e=>?_,I.free,I.freeC,λp hp=>?_,B ⟨oc,q5,I.freeC x c G⟩ hs,by simpa using I.len⟩ ⟨c,hs,.inr G⟩;exact(hs.2 b (A8 (AF (Ap e) (I.ok.cab x c q0 G)))).trans (I.base.keep b o e n hb L);obtain⟨sl,g⟩:=I.base.slot b o e n hb L;exact⟨sl,(hs.2 b (A8 (AF (Ap e) (I.ok.cab x c q0 G)))).trans g⟩;obtain⟨o',g⟩:=I.base.there b o e L;exact⟨o',(hs.2 b (A8 (AF (Ap e) (I.ok.cab x c q0 G)))).trans g⟩;by_cases hj:j=i;subst hj;rw[hi] at g;cases g;rw[AU q4] at W;cases W;exact⟨u,r,.inr ⟨.inl hk,c,G,q1⟩⟩;rw[Aq (DR hj)] at W;obtain⟨u',r',q⟩:=hl j y v' g W e3;refine⟨u',r',?_⟩;rcases q with q|⟨k,c',e,z'⟩
 exact .inl q;refine .inr ⟨k,c',e,z'.sameBut hs ?_⟩;rintro rfl;exact hj (qZ hN g (I.ok.inj _ _ _ e G▸hi));by_cases q2:c'=c;subst q2;exact⟨_,q1⟩;obtain⟨w2,z2⟩:=I.cell y c' e;exact⟨w2,z2.sameBut hs q2⟩;obtain⟨e,n,ne,nf,d⟩:=I.pin p hp;refine⟨(hs.2 p.1 ?_).trans e,n,ne,nf,d⟩;intro q;rw[q,q5] at e;have q':oc=p.2:=Av e;exact d w' (by rw[<-q'];exact q6)
theorem rA{M:GE}{A:AJ}{E:Ad->Ac->Prop}{i:Nat}{x:Str}{v:V}{u:Ad}{Q:Unit->Ac->Prop}(I:Inv X pins Z H s)(B:X.N.Nodup)(hi:X.N[i]? = some x)(L:Loc X.env.scope x)(r:aQ v u)
 (h:∀g,Inv X pins (Z.set i (some v)) H g->Q () g) (G:X.fn x=true\/X.env.scope.names.lookup x=some .local:=by first|exact .inl rfl|exact .inr rfl|assumption):Am M A (storeName X.env x u) Q E s:=
 nH I B hi L r (λg q _=>h g q) G
theorem Inv.call'{g:Ac}{ch:List Addr}(I:Inv X pins Z H s)(G:g.os=s.os)(u:Un (frs X.stack) ch H H' s.heap g.heap)(hok:HOk X.prog X.w H' g.heap)(B:FH g.gens)
 (q:∀b∈ch,(b∈X.ex\/X.s₀.heap.objs.size<=b)/\b≠X.env.locals/\(∀x c,X.env.cells.lookup x=some c->c≠b)/\∀p∈X.pn++pins,p.1≠b):Inv X pins Z H' g:=by obtain⟨h',g',d',t',o'⟩:=g;have e:o'=s.os:=G;subst e;exact I.call (g':=g') (t':=t') (d':=d') u hok B q
end
abbrev XK:=Ad->Option Addr->Hp->Prop
abbrev St:=List (Option V)
abbrev VK:=V->Hp->Prop
abbrev TE:=St->Hp->VK->Prop
abbrev TT:=St->Hp->(Bool->Hp->Prop)->Prop
abbrev TA:=St->Hp->(List V->Hp->Prop)->Prop
structure Ends where
 nx:St->Hp->Prop
 rt:VK
 bk:St->Hp->Prop:=λ_ _=>False
 ct:St->Hp->Prop:=λ_ _=>False
abbrev TS:=Ends->St->Hp->Prop
noncomputable def EP(X:Cx)(pins:List (Addr×Obj))(Z:St)(Q:VK)(u:Ad)(s':Ac):Prop:=∃v H',Inv X pins Z H' s'/\aQ v u/\Q v H'
noncomputable def TP(X:Cx)(pins:List (Addr×Obj))(Z:St)(Q:Bool->Hp->Prop)(b:Bool)(s':Ac):Prop:=∃H',Inv X pins Z H' s'/\Q b H'
noncomputable def AP(X:Cx)(pins:List (Addr×Obj))(Z:St)(Q:List V->Hp->Prop)(us:List Ad)(s':Ac):Prop:=∃vs H',Inv X pins Z H' s'/\aH vs us/\Q vs H'
noncomputable def SP(X:Cx)(pins:List (Addr×Obj))(D:Ends)(f:Flow)(s':Ac):Prop:=
 match f with
 | .next=>∃Z' H',Inv X pins Z' H' s'/\D.nx Z' H'|.brk=>∃Z' H',Inv X pins Z' H' s'/\D.bk Z' H'|.cont=>∃Z' H',Inv X pins Z' H' s'/\D.ct Z' H'|.ret u=>∃v Z' H',Inv X pins Z' H' s'/\aQ v u/\D.rt v H'
noncomputable def PE(X:Cx)(e:A6)(t:TE):Prop:=
 ∀(pins:List (Addr×Obj)) (s:Ac) (Z:St) (H:Hp) (Q:VK),Inv X pins Z H s->t Z H Q->Am (A4 X.prog X.w) X.A (Ed e X.env) (EP X pins Z Q) X.xe s
noncomputable def PT(X:Cx)(e:A6)(t:TT):Prop:=
 ∀(pins:List (Addr×Obj)) (s:Ac) (Z:St) (H:Hp) (Q:Bool->Hp->Prop),Inv X pins Z H s->t Z H Q->Am (A4 X.prog X.w) X.A (isTrue e X.env (Ed e X.env)) (TP X pins Z Q) X.xe s
noncomputable def PW(X:Cx)(e:A6)(t:TT):Prop:=
 ∀(whole:KH Ad) (pins:List (Addr×Obj)) (s:Ac) (Z:St) (H:Hp) (Q:Bool->Hp->Prop),Inv X pins Z H s->t Z H Q->Am (A4 X.prog X.w) X.A (isTrue e X.env whole) (TP X pins Z Q) X.xe s
theorem PW.pt{X:Cx}{e:A6}{t:TT}(h:PW X e t):PT X e t:=h _
noncomputable def PA(X:Cx)(es:List A6)(t:TA):Prop:=
 ∀(pos:Eg) (pins:List (Addr×Obj)) (s:Ac) (Z:St) (H:Hp) (Q:List V->Hp->Prop),Inv X pins Z H s->t Z H Q->Am (A4 X.prog X.w) X.A (FI (DZ pos (Bd es X.env))) (AP X pins Z Q) X.xe s
noncomputable def PS(X:Cx)(st:CK)(t:TS):Prop:=
 ∀(pins:List (Addr×Obj)) (s:Ac) (Z:St) (H:Hp) (D:Ends),Inv X pins Z H s->t D Z H->Am (A4 X.prog X.w) X.A (exec st X.env) (SP X pins D) X.xe s
noncomputable def PSs(X:Cx)(st:List CK)(t:TS):Prop:=
 ∀(pins:List (Addr×Obj)) (s:Ac) (Z:St) (H:Hp) (D:Ends),Inv X pins Z H s->t D Z H->Am (A4 X.prog X.w) X.A (execs st X.env) (SP X pins D) X.xe s
theorem thn{α:Type}{t:KH α}{Q g:α->Ac->Prop}{M:GE}{A:AJ}{E:Ad->Ac->Prop}{s:Ac}(h:Am M A t Q E s)(q:∀a s,Q a s->g a s):Am M A t g E s:=BO h q λ_ _ x=>x
section
variable {X:Cx}
noncomputable def aBR(i:Nat):TE:=λZ H Q=>∃v,Z[i]? = some (some v)/\Q v H
noncomputable def tC(v:V):TE:=λ_ H Q=>Q v H
theorem iL{i:Nat}{x:Str}{pos:Eg}(M:X.N[i]? = some x)(hv:Vis X.env.scope x)(hd:(x==("__debug__" : Str))=false:=by decide)(G:(x==("__classdict__" : Str))=false:=by decide):PE X (.Name x pos) (aBR i):=by
 intro pins s Z H Q I h;obtain⟨v,e,h⟩:=h;obtain⟨m,hn,U⟩:=I.loc;obtain⟨u,r,l⟩:=U i x v M e hv;have q:EP X pins Z Q u s:=⟨v,H,I,r,h⟩
 rcases l with⟨B,W⟩|⟨B,c,L,g⟩
 exact Jz (wpAny_loadName_local I.ok.kind B hn W q) hd;rcases B with B|B;exact Jz (wpAny_loadName_cell I.ok.kind B L g q) hd;exact Jz (wpAny_loadName_free I.ok.kind B L g q G) hd
theorem aEb{i j pos}:PE X (.Constant (.int i) j pos) (tC (.int i)):=λ_ _ _ H _ I h=>wpAny_Constant_int ⟨.int i,H,I.tok _,⟨_,rfl⟩,h⟩
theorem aGu{b j pos}:PE X (.Constant (.bool b) j pos) (tC (.bl b)):=λ_ _ _ H _ I h=>Constant_bool ⟨.bl b,H,I,rfl,h⟩
theorem aEc{j pos}:PE X (.Constant .none j pos) (tC .non):=λ_ _ _ H _ I h=>Constant_none ⟨.non,H,I,rfl,h⟩
theorem aEd{x j pos}:PE X (.Constant (.str x) j pos) (tC (.str x)):=λ_ _ _ H _ I h=>Calls.Constant_str ⟨.str x,H,I.tok _,⟨_,rfl⟩,h⟩
noncomputable def Gl(X:Cx)(x:Str):Prop:=X.env.kindOf x=some .globalImplicit
theorem oW{E:Ad->Ac->Prop}{pins:List (Addr×Obj)}{s:Ac}{Z:St}{H:Hp}{x:Str}{u:Ad}{pos:Eg}{Q:Ad->Ac->Prop}(I:Inv X pins Z H s)(g:Gl X x)(q:X.mg x=some u)(h:Q u s)
 (hd:(x==("__debug__" : Str))=false:=by decide):Am (A4 X.prog X.w) X.A (Ed (.Name x pos) X.env) Q E s:=
 Ft I.ok.kind g (Calls.loadGlobal_global (by rw[I.ok.glob];exact I.mod.glob.keeps I.bk) q h) hd
theorem dG{E:Ad->Ac->Prop}{pins:List (Addr×Obj)}{s:Ac}{Z:St}{H:Hp}{x:Str}{u:Ad}{pos:Eg}{Q:Ad->Ac->Prop}(I:Inv X pins Z H s)(B:Gl X x)(G:X.mg x=none)(M:C9 x=some u)(h:Q u s)
 (L:x ≠ "__name__" := by decide) (hd:(x==("__debug__" : Str))=false:=by decide):Am (A4 X.prog X.w) X.A (Ed (.Name x pos) X.env) Q E s:=by obtain⟨mb,g,q⟩:=I.mod.blt;exact Ft I.ok.kind B (Calls.loadGlobal_builtin (by rw[I.ok.glob];exact I.mod.glob.keeps I.bk) G (by rw[I.ok.blt];exact g.keeps I.bk) ((q x L).trans M) h) hd
theorem aBS{x:Str}{v:V}{u:Ad}{pos:Eg}(g:Gl X x)(q:X.mg x=some u)(r:aQ v u)(hd:(x==("__debug__" : Str))=false:=by decide):PE X (.Name x pos) (tC v):=
 λ_ _ _ H _ I h=>oW I g q ⟨v,H,I,r,h⟩ hd
variable {a b:A6} {ta tb:TE} {pos:Eg}
variable {tA tB':TT} {rest:List A6}
noncomputable def aJa(t u:TT):TT:=λZ H Q=>t Z H λc H1=>if c=true then u Z H1 Q else Q false H1
noncomputable def tOr(t u:TT):TT:=λZ H Q=>t Z H λc H1=>if c=true then Q true H1 else u Z H1 Q
noncomputable def aJb(t:TT):TT:=λZ H Q=>t Z H λc H1=>Q (!c) H1
theorem aBT(g:PT X a tA):PW X (.BoolOp .And [a] pos) tA:=by
 intro q pins s Z H Q I h;refine isTrue_and (thn (g pins s Z H Q I h) λc s1 e=>?_);cases c with
 | true=>exact isTrue_and_nil e|false=>exact e
theorem aEe(g:PT X a tA):PW X (.BoolOp .Or [a] pos) tA:=by
 intro q pins s Z H Q I h;refine isTrue_or (thn (g pins s Z H Q I h) λc s1 e=>?_);cases c with
 | false=>exact isTrue_or_nil e|true=>exact e
theorem aEf(B:PT X a tA)(G:PW X (.BoolOp .And (b::rest) pos) tB'):PW X (.BoolOp .And (a::b::rest) pos) (aJa tA tB'):=by
 intro L pins s Z H Q I h;refine isTrue_and (thn (B pins s Z H _ I h) λc s1 ⟨H1,g,q⟩=>?_);cases c with
 | true=>exact G L pins s1 Z H1 Q g q|false=>exact⟨H1,g,q⟩
theorem aGv(B:PT X a tA)(G:PW X (.BoolOp .Or (b::rest) pos) tB'):PW X (.BoolOp .Or (a::b::rest) pos) (tOr tA tB'):=by
 intro L pins s Z H Q I h;refine isTrue_or (thn (B pins s Z H _ I h) λc s1 ⟨H1,g,q⟩=>?_);cases c with
 | true=>exact⟨H1,g,q⟩|false=>exact G L pins s1 Z H1 Q g q
theorem aEg(g:PT X a tA):PT X (.UnaryOp .Not a pos) (aJb tA):=by intro pins s Z H Q I h;exact isTrue_not (g pins s Z H (λc H1=>Q (!c) H1) I h)
noncomputable def aGw(ta tb:TE):TE:=λZ H Q=>ta Z H λx H1=>∃c,x=.bl c/\if c=true then tb Z H1 Q else Q (.bl false) H1
noncomputable def aJc(ta tb:TE):TE:=λZ H Q=>ta Z H λx H1=>∃c,x=.bl c/\if c=true then Q (.bl true) H1 else tb Z H1 Q
theorem zH{op}{t:TE}(h:PE X a t):PE X (.BoolOp op [a] pos) t:=λpins s Z H Q I g=>BoolOp_one (h pins s Z H Q I g)
theorem aEh(B:PE X a ta)(G:PE X (.BoolOp .And (b::rest) pos) tb):PE X (.BoolOp .And (a::b::rest) pos) (aGw ta tb):=by
 intro pins s Z H Q I h;refine BoolOp_and (thn (B pins s Z H _ I h) λv s1 ⟨x,H1,q,L,g⟩=>?_);obtain⟨c,rfl,g⟩:=g;cases L;refine D7 ?_;cases c with
 | true=>exact G pins s1 Z H1 Q q g|false=>exact⟨.bl false,H1,q,rfl,g⟩
theorem aGx(B:PE X a ta)(G:PE X (.BoolOp .Or (b::rest) pos) tb):PE X (.BoolOp .Or (a::b::rest) pos) (aJc ta tb):=by
 intro pins s Z H Q I h;refine BoolOp_or (thn (B pins s Z H _ I h) λv s1 ⟨x,H1,q,L,g⟩=>?_);obtain⟨c,rfl,g⟩:=g;cases L;refine D7 ?_;cases c with
 | false=>exact G pins s1 Z H1 Q q g|true=>exact⟨.bl true,H1,q,rfl,g⟩
noncomputable def tIf(t:TT)(ta tb:TE):TE:=λZ H Q=>t Z H λc H1=>if c=true then ta Z H1 Q else tb Z H1 Q
theorem zI{c:A6}(L:PT X c tA)(B:PE X a ta)(G:PE X b tb):PE X (.IfExp c a b pos) (tIf tA ta tb):=by
 intro pins s Z H Q I h;refine wpAny_IfExp (thn (L pins s Z H _ I h) λd s1 ⟨H1,g,q⟩=>?_);cases d with
 | true=>exact B pins s1 Z H1 Q g q|false=>exact G pins s1 Z H1 Q g q
end
noncomputable def SqL(K:A1)(H:Hp)(a:Addr)(xs:List V):Prop:=
 Rd H a (.lst xs) \/
  ∃(o:Obj) (its:Array Ad) (n:Nat),K.lookup a=some o/\o.cls=.type "list" /\ o.dict=none/\o.data=.seq its n/\its.size<=sizeLine/\aH xs its.toList
noncomputable def SqT(K:A1)(H:Hp)(a:Addr)(xs:List V):Prop:=
 Rd H a (.tup xs) \/
  ∃(o:Obj) (its:Array Ad) (n:Nat),K.lookup a=some o/\o.cls=.type "tuple" /\ o.data=.seq its n/\its.size<=sizeLine/\aH xs its.toList
noncomputable def aJd:Ad->Option V
 | .none=>some .non|.bool b=>some (.bl b)|.int i _=>some (.int i)|.str x _=>some (.str x)|.bytes b _=>some (.byt b)|.float b _=>some (.flt b)|.ref a=>some (.ref a)|.type n=>some (.ty n)|_=>none
theorem aQ.abs{x:V}{u:Ad}(r:aQ x u):aJd u=some x:=by
 cases x with
 | non=>cases r;rfl|bl _=>cases r;rfl|int _=>obtain⟨t,rfl⟩:=r;rfl|str _=>obtain⟨t,rfl⟩:=r;rfl|byt _=>obtain⟨t,rfl⟩:=r;rfl|flt _=>obtain⟨t,rfl⟩:=r;rfl|ref _=>cases r;rfl|ty _=>cases r;rfl
theorem aQ.inj{x y:V}{u:Ad}(r:aQ x u)(q:aQ y u):x=y:=Av (r.abs.symm.trans q.abs)
theorem aH.inj:∀{xs ys:List V} {us:List Ad},aH xs us->aH ys us->xs=ys
 | _,_,_,.nil,.nil=>rfl|_,_,_,.cons r t,.cons r' t'=>by rw[r.inj r',aH.inj t t']
section
variable {X:Cx} {pins:List (Addr×Obj)} {Z:St} {H:Hp} {s:Ac} {a:Addr} {xs ys:List V}
theorem SqL.of{K:A1}(h:H a=some (.lst xs)):SqL K H a xs:=.inl (.inl h)
theorem SqT.of{K:A1}(h:H a=some (.tup xs)):SqT K H a xs:=.inl (.inl h)
theorem Inv.list(I:Inv X pins Z H s)(h:SqL X.K H a xs):∃g:List Ad,aH xs g/\PlainL s.heap a g.toArray/\xs.length<=sizeLine:=by
 rcases h with h|⟨o,g,n,B,q,hd,hs,G,r⟩
 obtain⟨z,g,n,r,e⟩:=h.ok I.hok;exact⟨g,r,⟨_,n,e,rfl,rfl,rfl⟩,z⟩;refine⟨g.toList,r,⟨o,n,I.kIn a o B,q,hd,by simpa using hs⟩,?_⟩;have e:=r.length;simp only[AK] at e;omega
theorem Inv.tuple(I:Inv X pins Z H s)(h:SqT X.K H a xs):∃g:List Ad,aH xs g/\IsTup s.heap a g.toArray/\xs.length<=sizeLine:=by
 rcases h with h|⟨o,g,n,B,q,hs,G,r⟩
 obtain⟨z,g,r,p⟩:=h.ok I.hok;exact⟨g,r,p,z⟩;refine⟨g.toList,r,⟨o,I.kIn a o B,q,n,by simpa using hs⟩,?_⟩;have e:=r.length;simp only[AK] at e;omega
theorem Inv.list_inj(I:Inv X pins Z H s)(h:SqL X.K H a xs)(h':SqL X.K H a ys):xs=ys:=by
 obtain⟨g,r,⟨o,n,e,_,_,d⟩,_⟩:=I.list h;obtain⟨its',B,⟨o',G,q,_,_,d'⟩,_⟩:=I.list h';rw[e] at q;cases q;rw[d] at d';injection d' with d1 _
 have:g=its':=by simpa using congrArg Array.toList d1
 subst this;exact r.inj B
theorem Inv.tuple_inj(I:Inv X pins Z H s)(h:SqT X.K H a xs)(h':SqT X.K H a ys):xs=ys:=by
 obtain⟨g,r,⟨o,e,_,n,d⟩,_⟩:=I.tuple h;obtain⟨its',B,⟨o',q,_,G,d'⟩,_⟩:=I.tuple h';rw[e] at q;cases q;rw[d] at d';injection d' with d1 _
 have:g=its':=by simpa using congrArg Array.toList d1
 subst this;exact r.inj B
end
abbrev Cx.wish(X:Cx)(E:Ad->Ac->Prop):Cx:={ X with xe:=E }
abbrev Cx.nox(X:Cx):Cx:=X.wish λ_ _=>False
theorem Cx.Ok.wish{X:Cx}(ok:X.Ok)(E:Ad->Ac->Prop):(X.wish E).Ok:=
 ⟨ok.mod,ok.kind,ok.glob,ok.blt,ok.above,ok.inj,ok.has,ok.cab,ok.hd,ok.frames,ok.stk,ok.exf,ok.bs,ok.bsz,ok.noex,ok.exfs,ok.funs,ok.frf⟩
theorem Cx.Ok.unwish{X:Cx}{E:Ad->Ac->Prop}(ok:(X.wish E).Ok):X.Ok:=
 ⟨ok.mod,ok.kind,ok.glob,ok.blt,ok.above,ok.inj,ok.has,ok.cab,ok.hd,ok.frames,ok.stk,ok.exf,ok.bs,ok.bsz,ok.noex,ok.exfs,ok.funs,ok.frf⟩
section
variable {X:Cx} {pins:List (Addr×Obj)} {Z:St} {H:Hp} {s:Ac} {E:Ad->Ac->Prop}
theorem Inv.wish(I:Inv X pins Z H s)(E:Ad->Ac->Prop):Inv (X.wish E) pins Z H s:=⟨I.ok.wish E,I.os,I.bare,I.base,I.loc,I.cell,I.free,I.freeC,I.pin,I.hok,I.len⟩
theorem Inv.unwish(I:Inv (X.wish E) pins Z H s):Inv X pins Z H s:=⟨I.ok.unwish,I.os,I.bare,I.base,I.loc,I.cell,I.free,I.freeC,I.pin,I.hok,I.len⟩
theorem SP.unwish{D:Ends}{f:Flow}{g:Ac}(h:SP (X.wish E) pins D f g):SP X pins D f g:=by
 cases f with
 | next=>obtain⟨Z',H',I,q⟩:=h;exact⟨Z',H',I.unwish,q⟩|brk=>obtain⟨Z',H',I,q⟩:=h;exact⟨Z',H',I.unwish,q⟩|cont=>obtain⟨Z',H',I,q⟩:=h;exact⟨Z',H',I.unwish,q⟩|ret u=>obtain⟨v,Z',H',I,r,q⟩:=h;exact⟨v,Z',H',I.unwish,r,q⟩
theorem PSs.nox{st:List CK}{t:TS}(h:PSs X.nox st t):PSs X st t:=λpins s Z H D I g=>BO (h pins s Z H D (I.wish _) g) (λ_ _ q=>q.unwish) λ_ _ z=>Dt z
end
section
variable {X:Cx} {st:CK} {rest:List CK} {t u:TS} {e:A6} {te:TE} {pos:Eg}
noncomputable def aDx:TS:=λD Z H=>D.nx Z H
noncomputable def aJe(t u:TS):TS:=λD Z H=>t { D with nx:=u D } Z H
theorem aBU:PSs X [] aDx:=λ_ _ Z H _ I h=>Ji ⟨Z,H,I,h⟩
theorem zJ(B:PS X st t)(G:PSs X rest u):PSs X (st::rest) (aJe t u):=by
 intro pins s Z H D I h;refine wpAny_execs_cons (thn (B pins s Z H { D with nx:=u D } I h) λf s1 q=>?_);cases f with
 | next=>obtain⟨Z',H',g,q⟩:=q;exact G pins s1 Z' H' D g q|ret v=>exact q|brk=>exact q|cont=>exact q
noncomputable def aEi:TS:=λD Z H=>D.bk Z H
noncomputable def aGy:TS:=λD Z H=>D.ct Z H
theorem aBV:PS X (.Pass pos) aDx:=λ_ _ Z H _ I h=>wpAny_Pass ⟨Z,H,I,h⟩
theorem zK:PS X (.Break pos) aEi:=λ_ _ Z H _ I h=>wpAny_Break ⟨Z,H,I,h⟩
theorem rB:PS X (.Continue pos) aGy:=λ_ _ Z H _ I h=>wpAny_Continue ⟨Z,H,I,h⟩
theorem Inv.quiet{pins:List (Addr×Obj)}{Z:St}{H:Hp}{s:Ac}(I:Inv X pins Z H s):KI X.env=false:=by simp[KI,I.ok.kind]
noncomputable def aGz(te:TE):TS:=λD Z H=>te Z H λ_ H1=>D.nx Z H1
theorem jU(q:PE X e te)(hs:Kn e none pos.line X.env=pure false:=by rfl):PS X (.Expr e pos) (aGz te):=by intro pins s Z H D I h;exact wpAny_Expr_any (thn (q pins s Z H _ I h) λv s1 ⟨x,H1,g,G,B⟩=>⟨Z,H1,g,B⟩) I.quiet hs
noncomputable def aJf(te:TE):TS:=λD Z H=>te Z H D.rt
theorem zL(q:PE X e te):PS X (.Return (some e) pos) (aJf te):=by intro pins s Z H D I h;exact wpAny_Return_some (thn (q pins s Z H _ I h) λv s1 ⟨x,H1,g,G,B⟩=>⟨x,Z,H1,g,G,B⟩)
noncomputable def aGA:TS:=λD _ H=>D.rt .non H
theorem aBW:PS X (.Return none pos) aGA:=λ_ _ Z H _ I h=>wpAny_Return_none ⟨.non,Z,H,I,rfl,h⟩
noncomputable def aJg(c:TT)(t u:TS):TS:=λD Z H=>c Z H λb H1=>if b=true then t D Z H1 else u D Z H1
theorem aGB{c:A6}{a b:List CK}{B:TT}(M:PT X c B)(G:PSs X a t)(L:PSs X b u):PS X (.If c a b pos) (aJg B t u):=by
 intro pins s Z H D I h;refine wpAny_If (thn (M pins s Z H _ I h) λd s1 ⟨H1,g,q⟩=>?_);cases d with
 | true=>exact G pins s1 Z H1 D g q|false=>exact L pins s1 Z H1 D g q
noncomputable def aEj:TS:=λ_ _ _=>False
theorem zM:PS X st aEj:=λ_ _ _ _ _ _ h=>h.elim
end
abbrev TG:=V->St->Hp->(St->Hp->Prop)->Prop
abbrev TGs:=List V->St->Hp->(St->Hp->Prop)->Prop
noncomputable def PG(X:Cx)(target:A6)(t:TG):Prop:=
 ∀(pins:List (Addr×Obj)) (s:Ac) (Z:St) (H:Hp) (v:V) (u:Ad) (Q:St->Hp->Prop),Inv X pins Z H s->aQ v u->t v Z H Q ->
  Am (A4 X.prog X.w) X.A (Gn target X.env u) (λ_ s'=>∃Z' H',Inv X pins Z' H' s'/\Q Z' H') X.xe s
noncomputable def PGs(X:Cx)(ts:List A6)(t:TGs):Prop:=
 ∀(pins:List (Addr×Obj)) (s:Ac) (Z:St) (H:Hp) (vs:List V) (us:List Ad) (Q:St->Hp->Prop),Inv X pins Z H s->aH vs us->t vs Z H Q ->
  Am (A4 X.prog X.w) X.A (assignInOrder ((Du ts X.env).map (·.2)) us) (λ_ s'=>∃Z' H',Inv X pins Z' H' s'/\Q Z' H') X.xe s
abbrev aEk:=V->V->V->Hp->(Hp->Prop)->Prop
noncomputable def aGC(X:Cx)(t:aEk):Prop:=
 ∀(pins:List (Addr×Obj)) (s:Ac) (Z:St) (H:Hp) (o i v:V) (ov iv u:Ad) (Q:Hp->Prop),Inv X pins Z H s->aQ o ov->aQ i iv->aQ v u->t o i v H Q ->
  Am (A4 X.prog X.w) X.A (setItem ov iv u) (λ_ s'=>∃H',Inv X pins Z H' s'/\Q H') X.xe s
section
variable {X:Cx} {pos:Eg}
noncomputable def nI(i:Nat):TG:=λv Z H Q=>Q (Z.set i (some v)) H
theorem vM{i:Nat}{x:Str}(q:X.N.Nodup)(hi:X.N[i]? = some x)(G:Loc X.env.scope x)(B:X.fn x=true\/X.env.scope.names.lookup x=some .local:=by first|exact .inl rfl|exact .inr rfl|assumption):PG X (.Name x pos) (nI i):=by intro pins s Z H v u Q I r h;exact Ib (rA I q hi G r (λL g=>⟨_,H,g,h⟩) B)
noncomputable def aGD:TGs:=λvs Z H Q=>vs=[]/\Q Z H
noncomputable def aDy(t:TG)(u:TGs):TGs:=λvs Z H Q=>∃v r,vs=v::r/\t v Z H λZ' H'=>u r Z' H' Q
theorem aBX:PGs X [] aGD:=by intro pins s Z H vs us Q I r h;obtain⟨e,h⟩:=h;subst e;cases r;exact assignInOrder_nil ⟨Z,H,I,h⟩
theorem zN{e:A6}{es:List A6}{t:TG}{u:TGs}(G:PG X e t)(L:PGs X es u)
 (hs:(Du (e::es) X.env).map (·.2)=Gn e X.env::(Du es X.env).map (·.2):=by rfl):PGs X (e::es) (aDy t u):=by
 intro pins s Z H vs us Q I r h;obtain⟨v,W,B,h⟩:=h;subst B;cases r with
 | cons r U=>rw[hs];refine assignInOrder_cons (thn (G pins s Z H _ _ _ I r h) λ_ s1 ⟨q,H1,g,M⟩=>?_);exact L pins s1 q H1 _ _ Q g U M
noncomputable def aGE(K:A1)(n:Nat)(t:TGs):TG:=λv Z H Q=>∃a xs,v=.ref a/\SqT K H a xs/\xs.length=n/\t xs Z H Q
theorem aEl{es:List A6}{k:Nat}{t:TGs}{n:Nat}(L:X.calm=true)(h:PGs X es t)
 (U:(Du es X.env).length=n:=by rfl) (g:(Du es X.env).findIdx? (·.1)=none:=by rfl):PG X (.Tuple es k pos) (aGE X.K n t):=by intro pins s Z H v u Q I r q;obtain⟨a,xs,G,W,M,q⟩:=q;subst G;cases r;obtain⟨q0,rv,ht,hz⟩:=I.tuple W;refine assign_Tuple_tuple (I.ok.hd L) ht (by simp[U,<-M,rv.length]) g λh' hx=>?_;have B:Inv X pins Z H { s with heap:=h' }:=I.kept (t':=s.toks) λb o e=>hx b o (A8 (Ap e)) e;exact h pins _ Z H xs _ Q B (by simpa using rv) q
noncomputable def aJh(to ti:TE)(t:aEk):TG:=λv Z H Q=>to Z H λo H1=>ti Z H1 λi H2=>t o i v H2 λH3=>Q Z H3
theorem aEm{o i:A6}{G B:TE}{t:aEk}(ho:PE X o G)(hi:PE X i B)(hs:aGC X t)
 (ha:∀v,Gn (.Subscript o i pos) X.env v=(do
  let g<-FJ [v] (Ed o X.env)
  let q<-FJ [v,g] (Ed i X.env)
  L4 pos
  FJ [v,g,q] (setItem g q v)
  release [v,g,q] []):=by intro _;rfl):PG X (.Subscript o i pos) (aJh G B t):=by intro pins s Z H v u Q I r h;rw[ha];refine Aa (AI (thn (ho pins s Z H _ I h) λg s1 ⟨x,H1,U,r1,q1⟩=>?_));refine Aa (AI (thn (hi pins s1 Z H1 _ U q1) λq s2 ⟨y,L,W,r2,q2⟩=>?_));refine Aa (Hq (Aa (AI (thn (hs pins s2 Z L x y v g q u _ W r1 r2 r q2) λ_ s3 ⟨M,I3,q3⟩=>?_))));exact wpAny_release ⟨Z,M,I3,q3⟩
noncomputable def aBY(te:TE)(g:TG):TS:=λD Z H=>te Z H λx H1=>g x Z H1 D.nx
theorem tW{tg e:A6}{te:TE}{g:TG}(L:PE X e te)(M:PG X tg g)(hs:swapsWithSole [tg] e pos.line X.env=pure false:=by rfl)(U:swappedStores [tg] e X.env=pure none:=by rfl)
 (G:(Du [tg] X.env).map (·.2)=[Gn tg X.env]:=by rfl):PS X (.Assign [tg] e pos) (aBY te g):=by intro pins s Z H D I h;refine wpAny_Assign_stores (thn (L pins s Z H _ I h) λv s1 ⟨x,H1,B,r1,W⟩=>?_) hs U;rw[G];exact thn (M pins s1 Z H1 x v _ B r1 W) λ_ s2 q=>q
theorem oX{i:Nat}{x:Str}{e:A6}{te:TE}{g:Eg}(G:X.N.Nodup)(hi:X.N[i]? = some x)(U:Loc X.env.scope x)(L:PE X e te)(hs:Kn e (some (.Name x g)) pos.line X.env=pure false:=by rfl)(M:X.fn x=true\/X.env.scope.names.lookup x=some .local:=by first|exact .inl rfl|exact .inr rfl|assumption) :
 PS X (.Assign [.Name x g] e pos) (aBY te (nI i)):=by intro pins s Z H D I h;refine wpAny_Assign_Name (thn (L pins s Z H _ I h) λv s1 ⟨y,H1,q,r1,W⟩=>?_) hs;exact rA q G hi U r1 (λs2 B=>⟨_,H1,B,W⟩) M
end
structure It where
 go:Nat->Hp->Prop
 yld:Nat->Hp->V->Hp->Prop
 stop:Nat->Hp->Prop
noncomputable def iM(X:Cx)(pins:List (Addr×Obj))(H:Hp)(b:Addr):Prop:=
 H b=none/\b≠X.env.locals/\b∉X.fs/\(b∈X.ex\/X.s₀.heap.objs.size<=b)/\(∀x c,X.env.cells.lookup x=some c->c≠b)/\∀p∈X.pn++pins,p.1≠b
theorem Inv.fpOk{X:Cx}{pins:List (Addr×Obj)}{Z:St}{H H':Hp}{s:Ac}{b:Addr}(I:Inv X pins Z H s)(g:s.heap.objs.size<=b)(B:H' b=none):iM X pins H' b:=by refine⟨B,DS (AF I.lt g),I.nofs g,.inr (A2 I.sz g),λx c e z=>?_,λp G z=>?_⟩;obtain⟨v,q⟩:=I.cell x c e;exact absurd (AF q.lt (by rw[z];exact g)) (AL _);exact absurd (AF (Ap (I.pin p G).1) (by rw[z];exact g)) (AL _)
structure xT (P:A0) (w:AR) (K:A1) (tg:A6) (J:It) (fp:List Addr) (it:Addr) (tn:Nat->Heap->Prop):Prop where
 mem:it∈fp
 obj:∀i h,tn i h->∀b∈fp,∃o,h.get? b=some o/\∀v,o.data≠.cell v
 keep:∀i h h',tn i h->(∀b∈fp,∀o,h.get? b=some o->h'.get? b=some o)->tn i h'
 item:∀(X:Cx),X.prog=P->X.w=w->X.K=K->X.calm=true->∀(i:Nat) (pins:List (Addr×Obj)) (s:Ac) (Z:St) (H:Hp) (E:Ad->Ac->Prop),Inv X pins Z H s->(∀b∈fp,iM X pins H b)->tn i s.heap->J.go i H ->
  Am (A4 P w) X.A (FT (.ref it)) (λr s1=>∃u,r=some u /\
   Am (A4 P w) X.A (ET tg (.ref it) u) (λ_ s2=>∃x H',Inv X pins Z H' s2/\aQ x u/\J.yld i H x H'/\tn (i+1) s2.heap/\∀b∈fp,H' b=none) E s1) E s
 done:∀(X:Cx),X.prog=P->X.w=w->X.K=K->X.calm=true->∀(i:Nat) (pins:List (Addr×Obj)) (s:Ac) (Z:St) (H:Hp) (E:Ad->Ac->Prop),Inv X pins Z H s->(∀b∈fp,iM X pins H b)->tn i s.heap->J.stop i H ->
  Am (A4 P w) X.A (FT (.ref it)) (λr s1=>r=none/\Inv X pins Z H s1) E s
 self:∀(A:AJ) (i:Nat) (s:Ac) (Q:Ad->Ac->Prop) (E:Ad->Ac->Prop),tn i s.heap->Q (.ref it) s->Am (A4 P w) A (II (.ref it)) Q E s
abbrev TI:=St->Hp->(It->Hp->Prop)->Prop
noncomputable def PIE(X:Cx)(pins:List (Addr×Obj))(Z:St)(tg:A6)(R:It->Hp->Prop)(itv:Ad)(s2:Ac):Prop:=
 ∃(it:Addr) (fp:List Addr) (tn:Nat->Heap->Prop) (J:It) (H':Hp),itv=.ref it/\Inv X pins Z H' s2/\xT X.prog X.w X.K tg J fp it tn/\tn 0 s2.heap/\(∀b∈fp,iM X pins H' b)/\R J H'
noncomputable def PI(X:Cx)(tg iter:A6)(wi:TI):Prop:=
 ∀(pins:List (Addr×Obj)) (s:Ac) (Z:St) (H:Hp) (R:It->Hp->Prop),Inv X pins Z H s->wi Z H R ->
  Am (A4 X.prog X.w) X.A (Ed iter X.env) (λv s1=>Am (A4 X.prog X.w) X.A (II v) (PIE X pins Z tg R) X.xe s1) X.xe s
theorem kJ{M:GE}{A:AJ}{E:Ad->Ac->Prop}{s:Ac}{tg:A6}{it:Addr}{u:Ad}{o:Obj}{n:String}{vs:Array Ad}{Q:Unit->Ac->Prop}(G:s.heap.get? it=some o)(q:o.cls=.type n)(hd:o.data=.fields vs)
 (B:["enumerate", "zip", "dict_itemiterator", "dict_reverseitemiterator", "odict_iterator", "itertools.zip_longest", "itertools.pairwise"].contains n=false) (g:Q () s):Am M A (ET tg (.ref it) u) Q E s:=by
 unfold ET;cases tg <;> first
  | exact Ab g
  | (cases u <;> first
   | exact Ab g
   | (refine Aa (wpAny_load G ?_)
      rw[q,hd];show Am M A (if (["enumerate", "zip", "dict_itemiterator", "dict_reverseitemiterator", "odict_iterator", "itertools.zip_longest", "itertools.pairwise"].contains n&&vs[0]?==some (CL _))=true then _ else _) Q E s;rw[if_neg (by intro h;rw[B,J0] at h;cases h)];exact Ab g))
noncomputable def Itl(K:A1)(a:Addr):It:=
 ⟨λi H=>∃xs x,SqL K H a xs/\xs[i]? = some x,λi H x H'=>H'=H/\∀xs,SqL K H a xs->xs[i]? = some x,λi H=>∃xs,SqL K H a xs/\xs.length<=i⟩
noncomputable def Itt(K:A1)(a:Addr):It:=
 ⟨λi H=>∃xs x,SqT K H a xs/\xs[i]? = some x,λi H x H'=>H'=H/\∀xs,SqT K H a xs->xs[i]? = some x,λi H=>∃xs,SqT K H a xs/\xs.length<=i⟩
noncomputable def Itr(lo:Int)(n:Nat):It:=⟨λi _=>i<n,λi H x H'=>H'=H/\x=.int (lo+i),λi _=>n<=i⟩
theorem xU{P:A0}{w:AR}{K:A1}{tg:A6}(a it:Addr):xT P w K tg (Itl K a) [it] it (λi h=>h.IsListIter it a i) where
 mem:=by simp
 obj:=λi h st b g=>by
  have e:b=it:=by simpa using g
  subst e;obtain⟨o,e,c,d⟩:=st;exact⟨o,e,λv z=>by rw[d] at z;cases z⟩
 keep:=λi h h' st k=>st.at λo e=>k it (by simp) o e
 item:=by intro X L U G hc i pins s Z H E I q st M;subst L U G;obtain⟨xs,x,B,W⟩:=M;obtain⟨q0,rv,p,hz⟩:=I.list B;obtain⟨u,hu,ru⟩:=rv.get W;obtain⟨f0,f1,f2,f3,f4,f5⟩:=q it (by simp);refine wpAny_pyNext_list_item st p.isList (x:=u) (by simpa using hu) λh' st' sb=>?_;have I1:Inv X pins Z H { s with heap:=h' }:=I.turned (t':=s.toks) (λb o g e=>(sb.2 b g).trans e) f0 f1 f3 f4 f5;obtain⟨o,e,c,d⟩:=id st';exact⟨u,rfl,kJ (s:={ s with heap:=h' }) e c d (by decide) ⟨x,H,I1,ru,⟨rfl,λys hy=>by rw[I.list_inj hy B];exact W⟩,st',λb g=>(q b g).1⟩⟩
 done:=by intro X L U G hc i pins s Z H E I q st M;subst L U G;obtain⟨xs,B,W⟩:=M;obtain⟨q0,rv,p,hz⟩:=I.list B;obtain⟨f0,f1,f2,f3,f4,f5⟩:=q it (by simp);have hl:=rv.length;exact wpAny_pyNext_list_end (I.ok.hd hc) st p.isList (by simp;omega) λh' eb=>⟨rfl,I.turned (t':=s.toks) (λb o g e=>eb b o g e) f0 f1 f3 f4 f5⟩
 self:=λ_ _ _ _ _ st h=>wpAny_pyIter_listiter st h
theorem tX{P:A0}{w:AR}{K:A1}{tg:A6}(a it:Addr):xT P w K tg (Itt K a) [it] it (λi h=>h.IsTupleIter it a i) where
 mem:=by simp
 obj:=λi h st b g=>by
  have e:b=it:=by simpa using g
  subst e;obtain⟨o,e,c,d⟩:=st;exact⟨o,e,λv z=>by rw[d] at z;cases z⟩
 keep:=λi h h' st k=>st.at λo e=>k it (by simp) o e
 item:=by intro X M W L hc i pins s Z H E I B st U;subst M W L;obtain⟨xs,x,G,hx⟩:=U;obtain⟨q,rv,p,hz⟩:=I.tuple G;obtain⟨u,hu,ru⟩:=rv.get hx;obtain⟨f0,f1,f2,f3,f4,f5⟩:=B it (by simp);refine wpAny_pyNext_tuple_item st (show s.heap.IsTuple a q.toArray from p) (x:=u) (by simpa using hu) λh' st' sb=>?_;have I1:Inv X pins Z H { s with heap:=h' }:=I.turned (t':=s.toks) (λb o g e=>(sb.2 b g).trans e) f0 f1 f3 f4 f5;obtain⟨o,e,c,d⟩:=id st';exact⟨u,rfl,kJ (s:={ s with heap:=h' }) e c d (by decide) ⟨x,H,I1,ru,⟨rfl,λys hy=>by rw[I.tuple_inj hy G];exact hx⟩,st',λb g=>(B b g).1⟩⟩
 done:=by intro X M W L hc i pins s Z H E I B st U;subst M W L;obtain⟨xs,G,hx⟩:=U;obtain⟨q,rv,p,hz⟩:=I.tuple G;obtain⟨f0,f1,f2,f3,f4,f5⟩:=B it (by simp);have hl:=rv.length;exact wpAny_pyNext_tuple_end (I.ok.hd hc) st (show s.heap.IsTuple a q.toArray from p) (by simp;omega) λh' eb=>⟨rfl,I.turned (t':=s.toks) (λb o g e=>eb b o g e) f0 f1 f3 f4 f5⟩
 self:=λ_ _ _ _ _ st h=>wpAny_pyIter_tupleiter st h
theorem tY{P:A0}{w:AR}{K:A1}{tg:A6}(it:Addr)(lo:Int)(n:Nat):xT P w K tg (Itr lo n) [it] it (λi h=>KJ h it (lo+(i:Nat)*1) ((n:Int)-(i:Nat)) 1) where
 mem:=by simp
 obj:=λi h st b g=>by
  have e:b=it:=by simpa using g
  subst e;exact⟨_,st,λv z=>by
   have z':KKq _=Data.cell v:=z;cases z'⟩
 keep:=λi h h' st k=>k it (by simp) _ st
 item:=by intro X G U B L i pins s Z H E I q st M;subst G U B;obtain⟨f0,f1,f2,f3,f4,f5⟩:=q it (by simp);have W0:=Walks.range (prog:=X.prog) (w:=X.w) (I.ok.hd L) it lo 1 n;refine W0.item i s _ _ M st λv h' tk hv st' kk=>?_;obtain⟨t,rfl⟩:=hv;have W:Inv X pins Z H { s with heap:=h',toks:=tk }:=I.turned (λb o g e=>kk b o (by simpa using g) e) f0 f1 f3 f4 f5;refine⟨_,rfl,kJ (s:={ s with heap:=h',toks:=tk }) (n:= "range_iterator") st' rfl rfl (by decide) ⟨.int (lo+i),H,W,⟨t,?_⟩,⟨rfl,rfl⟩,st',λb g=>(q b g).1⟩⟩;rw[Int.mul_one]
 done:=by intro X G U B L i pins s Z H E I q st M;subst G U B;obtain⟨f0,f1,f2,f3,f4,f5⟩:=q it (by simp);exact wpAny_pyNext_range_end (I.ok.hd L) st (by have:n<=i:=M;omega) λh' eb=>⟨rfl,I.turned (t':=s.toks) (λb o g e=>eb b o g e) f0 f1 f3 f4 f5⟩
 self:=λ_ _ _ _ _ st h=>wpAny_pyIter_rangeiter st h
section
variable {X:Cx} {tg:A6}
theorem rC{pins:List (Addr×Obj)}{Z:St}{H:Hp}{s:Ac}{R:It->Hp->Prop}{E:Ad->Ac->Prop}{lo hi:Int}{t u v:Lq}{tk:Nat}(I:Inv X pins Z H s)(L:-(2 ^ 62)<=lo)(M:lo<2 ^ 62)(U:-(2 ^ 62)<=hi)(W:hi<2 ^ 62)
 (q:R (Itr lo (hi-lo).toNat) H):Am (A4 X.prog X.w) X.A (II (.ref s.heap.objs.size)) (PIE X pins Z tg R) E { s with heap:=s.heap.push { cls:=.type "range",data:=.fields #[.int lo t,.int hi u,.int 1 v] },toks:=tk }:=by
 refine wpAny_pyIter_range (IsRange.new ..) (small_one L M U W) ?_;have g:Inv X pins Z H { s with heap:=s.heap.push { cls:=.type "range",data:=.fields #[.int lo t,.int hi u,.int 1 v] },toks:=tk }:=I.kept λb o e=>Ae _ e;refine⟨(s.heap.push { cls:=.type "range",data:=.fields #[.int lo t,.int hi u,.int 1 v] }).objs.size,[(s.heap.push { cls:=.type "range",data:=.fields #[.int lo t,.int hi u,.int 1 v] }).objs.size],_,_,H,rfl,
  g.kept (t':=tk) λb o e=>Ae _ e,tY _ lo (hi-lo).toNat,?_,λb hb=>?_,q⟩
 have B:lo+((0:Nat):Int)*1=lo:=by simp
 have G:(((hi-lo).toNat:Nat):Int)-((0:Nat):Int)=Ko lo hi 1:=by rw[rangeSize_one];split <;> omega
 show KJ _ _ (lo+((0:Nat):Int)*1) ((((hi-lo).toNat:Nat):Int)-((0:Nat):Int)) 1;rw[B,G];exact A7 _ rfl;have e:b=(s.heap.push { cls:=.type "range",data:=.fields #[.int lo t,.int hi u,.int 1 v] }).objs.size:=by simpa using hb
 subst e;exact g.fpOk (Ak _) (g.hok.fresh (Ak _))
noncomputable def aGF(ta:TA):TI:=λZ H R=>ta Z H λvs H1=>∃j:Int,vs=[.int j]/\-(2 ^ 62)<=j/\j<2 ^ 62/\R (Itr 0 j.toNat) H1
noncomputable def aGG(ta:TA):TI:=λZ H R=>ta Z H λvs H1=>∃i j:Int,vs=[.int i,.int j]/\(-(2 ^ 62)<=i/\i<2 ^ 62/\-(2 ^ 62)<=j/\j<2 ^ 62)/\R (Itr i (j-i).toNat) H1
theorem xV{a:A6}{B:TA}{p pos:Eg}(M:Gl X "range")(U:X.mg "range" = none)(L:PA X [a] B)(hs:Bd [a] X.env=[(false,Ed a X.env)]:=by rfl):PI X tg (.Call (.Name "range" p) [a] [] pos) (aGF B):=by
 intro pins s Z H R I h;refine Call_ (dG I M U boot_range (BZ (thn (L pos pins s Z H _ I h) λus s1 ⟨vs,H1,G,r1,g⟩=>?_) hs rfl));obtain⟨j,e,g,W,q⟩:=g;subst e;cases r1 with
 | cons r rr=>cases rr;obtain⟨t,rfl⟩:=r;exact call_range_1 (rC G (by omega) (by omega) g W (by simpa using q))
theorem xW{a b:A6}{L:TA}{p pos:Eg}(W:Gl X "range")(hm:X.mg "range" = none)(U:PA X [a,b] L)(hs:Bd [a,b] X.env=[(false,Ed a X.env),(false,Ed b X.env)]:=by rfl)(g:Bd [b] X.env=[(false,Ed b X.env)]:=by rfl) :
 PI X tg (.Call (.Name "range" p) [a,b] [] pos) (aGG L):=by
 intro pins s Z H R I h;refine Call_ (dG I W hm boot_range (BZ (thn (U pos pins s Z H _ I h) λus s1 ⟨vs,H1,M,r1,B⟩=>?_) (by rw[hs,g]) (by rw[g];rfl)));obtain⟨i,j,e,⟨B,q2,q3,q4⟩,q⟩:=B;subst e;cases r1 with
 | cons r G=>
  cases G with
  | cons r' G=>cases G;obtain⟨t,rfl⟩:=r;obtain⟨t',rfl⟩:=r';exact call_range_2 (rC M B q2 q3 q4 q)
noncomputable def aJi(wi:TI)(g:TG)(tb:TS):TS:=λD Z H=>wi Z H λJ H1=>∃W0:Nat->Nat->St->Hp->Prop,(∃m,W0 0 m Z H1)/\∀i m Z H,W0 i m Z H ->
 (J.stop i H/\D.nx Z H)\/(J.go i H/\∃N:St->Hp->Prop,(∀Z' H',N Z' H'->∃m',m'<m/\W0 (i+1) m' Z' H')/\∀x H',J.yld i H x H'->g x Z H' λZ2 H2=>tb { D with nx:=N,ct:=N,bk:=D.nx } Z2 H2)
noncomputable def kK(fp:List Addr)(h:Heap):List (Addr×Obj):=fp.filterMap λb=>(h.get? b).map λo=>(b,o)
theorem eF{fp:List Addr}{h:Heap}{b:Addr}{o:Obj}(g:b∈fp)(e:h.get? b=some o):(b,o)∈kK fp h:=BP.mpr ⟨b,g,by rw[e];rfl⟩
theorem xX{fp:List Addr}{h:Heap}{p:Addr×Obj}(G:p∈kK fp h):p.1∈fp/\h.get? p.1=some p.2:=by
 obtain⟨b,B,e⟩:=BP.mp G;cases q:h.get? b with
 | none=>rw[q] at e;cases e|some o=>rw[q] at e;have g:(b,o)=p:=Av e;subst g;exact⟨B,q⟩
theorem Inv.pinned{pins:List (Addr×Obj)}{Z:St}{H:Hp}{s:Ac}{fp:List Addr}(I:Inv X pins Z H s)(B:∀b∈fp,iM X pins H b)(G:∀b∈fp,∃o,s.heap.get? b=some o/\∀v,o.data≠.cell v):Inv X (pins++kK fp s.heap) Z H s:=
 I.pins_of λp L=>(AO.mp L).elim (λz=>I.pin p (As _ z)) λz=>by obtain⟨q,e⟩:=xX z;obtain⟨f0,f1,f2,_⟩:=B p.1 q;obtain⟨o,g,d⟩:=G p.1 q;rw[e] at g;cases g;exact⟨e,f0,f1,f2,d⟩
theorem Inv.unpinned{pins q:List (Addr×Obj)}{Z:St}{H:Hp}{s:Ac}(I:Inv X (pins++q) Z H s):Inv X pins Z H s:=I.pins_of λp g=>I.pin p (As _ (AB _ g))
theorem aEn{U:A6}{body:List CK}{wi:TI}{g:TG}{tb:TS}{pos:Eg}(hp:PassesOwn (A4 X.prog X.w) X.A X.env X.xe)(hc:X.calm=true)(hi:PI X tg U wi)(hg:PG X tg g)(M:PSs X body tb)
 (hs:∀x,Cu U X.env x=pure x:=by intro _;rfl):PS X (.For tg U body [] pos) (aJi wi g tb):=by
 intro pins s Z H D I h;refine wpAny_For (thn (hi pins s Z H _ I h) λv s1 h1=>thn h1 λq9 s2 h2=>?_) hs;obtain⟨it,fp,tn,J,H2,e,I2,T,q8,f2,W0,⟨m0,w0⟩,q3⟩:=h2;subst e;have W:∀{H':Hp},(∀b∈fp,H' b=none)->∀b∈fp,iM X pins H' b:=λhn b M=>⟨hn b M,(f2 b M).2⟩
 refine codeAny_forLoop_any (λn s'=>∃i Z' H',Inv X pins Z' H' s'/\tn i s'.heap/\(∀b∈fp,H' b=none)/\W0 i n Z' H') ?_ m0 ⟨0,Z,H2,I2,q8,λb M=>(f2 b M).1,w0⟩;rintro n s3 ⟨i,Z3,H3,I3,q2,q1,w3⟩;rcases q3 i n Z3 H3 w3 with⟨stop,qn⟩|⟨go,N,hN,step⟩
 refine Eh hp (thn (T.done X rfl rfl rfl hc i pins s3 Z3 H3 X.xe I3 (W q1) q2 stop) λr s4 ⟨hr,I4⟩=>?_);subst hr;exact Ji ⟨Z3,H3,I4,qn⟩;refine Eh hp (thn (T.item X rfl rfl rfl hc i pins s3 Z3 H3 X.xe I3 (W q1) q2 go) λr s4 ⟨u,hr,h4⟩=>?_);subst hr;refine Eh hp (thn h4 λ_ s5 ⟨x,H5,I5,r5,y5,q0,q5⟩=>?_);have q4:=I5.pinned (W q5) (T.obj _ _ q0);refine Eh hp (thn (hg _ s5 Z3 H5 x u _ q4 r5 (step x H5 y5)) λ_ s6 ⟨Z6,H6,I6,q6⟩=>?_);refine Eh hp (thn (M _ s6 Z6 H6 _ I6 q6) λf s7 q7=>?_);have L:∀{G:St} {q:Hp},Inv X (pins++kK fp s5.heap) G q s7->N G q->∃m,m<n/\∃i Z' H',Inv X pins Z' H' s7/\tn i s7.heap/\(∀b∈fp,H' b=none)/\W0 i m Z' H':=λ{G q} B n7=>by obtain⟨m',hm,w7⟩:=hN G q n7;refine⟨m',hm,i+1,G,q,B.unpinned,T.keep _ _ _ q0 λb M o e=>(B.pin (b,o) (As _ (As _ (eF M e)))).1,λb M=>?_,w7⟩;obtain⟨o,e,d⟩:=T.obj _ _ q0 b M;exact(B.pin (b,o) (As _ (As _ (eF M e)))).2.1
 cases f with
 | next=>obtain⟨G,q,B,n7⟩:=q7;exact L B n7|cont=>obtain⟨G,q,B,n7⟩:=q7;exact L B n7|brk=>obtain⟨G,q,B,q7⟩:=q7;exact⟨G,q,B.unpinned,q7⟩|ret v=>obtain⟨x7,G,q,B,r7,q7⟩:=q7;exact⟨x7,G,q,B.unpinned,r7,q7⟩
end
abbrev R2:=V->V->Hp->VK->Prop
noncomputable def OpR(X:Cx)(f:Ad->Ad->KH Ad)(r:R2):Prop:=
 ∀(pins:List (Addr×Obj)) (s:Ac) (Z:St) (H:Hp) (x y:V) (v u:Ad) (Q:VK),Inv X pins Z H s->aQ x v->aQ y u->r x y H Q ->
  Am (A4 X.prog X.w) X.A (f v u) (EP X pins Z Q) X.xe s
noncomputable def gB(X:Cx)(f:Ad)(r:List V->Hp->VK->Prop):Prop:=
 ∀(pins:List (Addr×Obj)) (s:Ac) (Z:St) (H:Hp) (xs:List V) (us:List Ad) (Q:VK),Inv X pins Z H s->aH xs us->r xs H Q ->
  Am (A4 X.prog X.w) X.A (call f us) (EP X pins Z Q) X.xe s
noncomputable def aJj(X:Cx)(r:V->Hp->(Bool->Hp->Prop)->Prop):Prop:=
 ∀(pins:List (Addr×Obj)) (s:Ac) (Z:St) (H:Hp) (x:V) (v:Ad) (Q:Bool->Hp->Prop),Inv X pins Z H s->aQ x v->r x H Q ->
  Am (A4 X.prog X.w) X.A (truthy v) (TP X pins Z Q) X.xe s
noncomputable def tOp(r:R2)(ta tb:TE):TE:=λZ H Q=>ta Z H λx H1=>tb Z H1 λy H2=>r x y H2 Q
noncomputable def rI(C:Int->Int->Prop)(g:Int->Int->V):R2:=λx y H Q=>∃i j,x=.int i/\y=.int j/\C i j/\Q (g i j) H
noncomputable def rI0(g:Int->Int->V):R2:=λx y H Q=>∃i j,x=.int i/\y=.int j/\Q (g i j) H
section
variable {X:Cx} {a b c:A6} {ta tb tc:TE} {pos:Eg}
theorem aGH(M:PE X a ta)(U:PE X b tb){pins:List (Addr×Obj)}{s:Ac}{Z:St}{H:Hp}{R:V->V->Hp->Prop}(I:Inv X pins Z H s)
 (h:ta Z H λx H1=>tb Z H1 λy g=>R x y g) {Q:Ad->Ac->Prop} {f:Ad->Ad->KH Ad}
 (W:∀v u s2 x y g,Inv X pins Z g s2->aQ x v->aQ y u->R x y g->Am (A4 X.prog X.w) X.A (f v u) Q X.xe s2) :
 Am (A4 X.prog X.w) X.A (Ed a X.env) (λv q=>Am (A4 X.prog X.w) X.A (Ed b X.env) (λu B=>Am (A4 X.prog X.w) X.A (f v u) Q X.xe B) X.xe q) X.xe s:=by refine thn (M pins s Z H _ I h) λv s1 ⟨x,H1,G,r1,q1⟩=>?_;refine thn (U pins s1 Z H1 _ G q1) λu s2 ⟨y,g,L,r2,q2⟩=>?_;exact W v u s2 x y g L r1 r2 q2
theorem opI{f:Ad->Ad->KH Ad}{C:Int->Int->Prop}{g:Int->Int->Int}
 (B:∀(i j:Int) (t u:Lq) (s:Ac) (Q:Ad->Ac->Prop) (E:Ad->Ac->Prop),C i j->Q (.int (g i j) s.toks) { s with toks:=s.toks+1 }->Am (A4 X.prog X.w) X.A (f (.int i t) (.int j u)) Q E s) :
 OpR X f (rI C λi j=>.int (g i j)):=by intro pins s Z H x y v u Q I L M h;obtain⟨i,j,rfl,rfl,G,q⟩:=h;obtain⟨t,rfl⟩:=L;obtain⟨t',rfl⟩:=M;exact B i j t t' s _ _ G ⟨.int (g i j),H,I.tok _,⟨_,rfl⟩,q⟩
theorem aGI{f:Ad->Ad->KH Ad}{g:Int->Int->Int}
 (B:∀(i j:Int) (t u:Lq) (s:Ac) (Q:Ad->Ac->Prop) (E:Ad->Ac->Prop),Q (.int (g i j) s.toks) { s with toks:=s.toks+1 }->Am (A4 X.prog X.w) X.A (f (.int i t) (.int j u)) Q E s) :
 OpR X f (rI0 λi j=>.int (g i j)):=by intro pins s Z H x y v u Q I G L h;obtain⟨i,j,rfl,rfl,q⟩:=h;obtain⟨t,rfl⟩:=G;obtain⟨t',rfl⟩:=L;exact B i j t t' s _ _ ⟨.int (g i j),H,I.tok _,⟨_,rfl⟩,q⟩
theorem aBZ{f:Ad->Ad->KH Ad}{g:Int->Int->Bool}
 (B:∀(i j:Int) (t u:Lq) (s:Ac) (Q:Ad->Ac->Prop) (E:Ad->Ac->Prop),Q (.bool (g i j)) s->Am (A4 X.prog X.w) X.A (f (.int i t) (.int j u)) Q E s) :
 OpR X f (rI0 λi j=>.bl (g i j)):=by intro pins s Z H x y v u Q I G L h;obtain⟨i,j,rfl,rfl,q⟩:=h;obtain⟨t,rfl⟩:=G;obtain⟨t',rfl⟩:=L;exact B i j t t' s _ _ ⟨.bl (g i j),H,I,rfl,q⟩
noncomputable def aJk(i j:Int):Prop:=0<j/\j<1073741824
noncomputable def aJl(i j:Int):Prop:=0<=j/\j<=1000000/\i.natAbs<2 ^ 64
noncomputable def aEo(i j:Int):Prop:=(-(2 ^ 64)<i/\i<2 ^ 64)\/(-(2 ^ 64)<j/\j<2 ^ 64)
theorem aEo.ok{i j:Int}(h:aEo i j):IntMulOk i j:=by
 rcases h with⟨g,q⟩|⟨g,q⟩
 exact .of_left (JZ g q);exact .of_right (JZ g q)
theorem aEp:OpR X (Cq .Add) (rI0 λi j=>.int (i+j)):=aGI λ_ _ _ _ _ _ _ q=>add_int q
theorem aEq:OpR X (Cq .Sub) (rI0 λi j=>.int (i-j)):=aGI λ_ _ _ _ _ _ _ q=>sub_int q
theorem aEr:OpR X (Cq .Mult) (rI aEo λi j=>.int (i*j)):=opI λ_ _ _ _ _ _ _ g q=>mul_int q g.ok
theorem aCa:OpR X (Cq .FloorDiv) (rI aJk λi j=>.int (i / j)):=opI λi j _ _ _ _ _ g q=>by have B:(0:Int)<j:=g.1;have G:j<1073741824:=g.2;exact floordiv_int (by omega) (by rw[Int.fdiv_eq_ediv_of_nonneg i (by omega)];exact q) (.inl (PyProof.noPylong_small (by omega)))
theorem aEs:OpR X (Cq .Mod) (rI (λ_ j=>0<j) λi j=>.int (i % j)):=opI λi j _ _ _ _ _ g q=>by have B:(0:Int)<j:=g;exact mod_int' (by omega) (by rw[Int.fmod_eq_emod_of_nonneg i (by omega)];exact q)
theorem aEt:OpR X (Cq .Pow) (rI aJl λi j=>.int (i ^ j.toNat)):=opI λ_ _ _ _ _ _ _ g q=>pow_int_small g.1 g.2.1 g.2.2 q
theorem tZ{pins:List (Addr×Obj)}{Z:St}{H:Hp}{s:Ac}{Q:VK}{k g:Bool}(I:Inv X pins Z H s)(q:Q (.bl k) H)(e:k=g):EP X pins Z Q (.bool g) s:=by subst e;exact⟨.bl k,H,I,rfl,q⟩
theorem aGJ:OpR X (BU .Lt) (rI0 λi j=>.bl (decide (i<j))):=aBZ λ_ _ _ _ _ _ _ q=>lt_int q
theorem aGK:OpR X (BU .LtE) (rI0 λi j=>.bl (decide (i<=j))):=aBZ λ_ _ _ _ _ _ _ q=>le_int q
theorem aGL:OpR X (BU .Gt) (rI0 λi j=>.bl (decide (j<i))):=aBZ λ_ _ _ _ _ _ _ q=>gt_int q
theorem aGM:OpR X (BU .GtE) (rI0 λi j=>.bl (decide (j<=i))):=aBZ λ_ _ _ _ _ _ _ q=>ge_int q
theorem xY:OpR X (BU .In) (λx y H Q=>∃i j,x=.str i/\y=.str j/\Q (.bl (!(Dm j i 0 j.length 1).isEmpty)) H):=by intro pins s Z H x y v u Q I g B h;obtain⟨i,j,rfl,rfl,q⟩:=h;obtain⟨t,rfl⟩:=g;obtain⟨t',rfl⟩:=B;exact in_str (tZ I q rfl)
theorem aEu:OpR X (BU .Is) (λx y H Q=>y=.non/\Q (.bl (decide (x=.non))) H):=by
 intro pins s Z H x y v u Q I g B h;obtain⟨rfl,q⟩:=h;cases B;refine is_none_gen (tZ I q ?_);cases x <;> first
  | (cases g;rfl)
  | (obtain⟨t,rfl⟩:=g;rfl)
theorem aCb:OpR X (BU .IsNot) (λx y H Q=>y=.non/\Q (.bl (!decide (x=.non))) H):=by
 intro pins s Z H x y v u Q I g B h;obtain⟨rfl,q⟩:=h;cases B;refine isnot_none_gen (tZ I q ?_);cases x <;> first
  | (cases g;rfl)
  | (obtain⟨t,rfl⟩:=g;rfl)
theorem vN{op:CmpOp}{r:R2}(U:OpR X (BU op) r)(G:PE X a ta)(L:PE X b tb)(M:Hr op b=false):PE X (.Compare a [op] [b] pos) (tOp r ta tb):=by intro pins s Z H Q I h;exact wpAny_Compare1 (aGH G L I h λv u s2 x y g B W ry q=>U pins s2 Z g x y v u Q B W ry q) M
noncomputable def aGN(t:TE):TT:=λZ H Q=>t Z H λx H'=>∃k,x=.bl k/\Q k H'
theorem vO{op:CmpOp}{r:R2}(ho:OpR X (BU op) r)(M:PE X a ta)(U:PE X b tb)(W:Hr op b=false):PT X (.Compare a [op] [b] pos) (aGN (tOp r ta tb)):=by
 intro pins s Z H Q I h;refine wpAny_isTrue_Compare1 (thn (M pins s Z H _ I h) λv s1 ⟨x,H1,B,r1,q1⟩=>thn (U pins s1 Z H1 _ B q1) λu s2 ⟨y,g,G,r2,q2⟩=>
  thn (ho pins s2 Z g x y v u _ G r1 r2 q2) λc s3 ⟨z,q,L,r3,k,e,q3⟩=>?_) W
 subst e;cases r3;exact D7 ⟨q,L,q3⟩
noncomputable def aCc(K:A1)(x:V)(H:Hp)(k:Bool):Prop:=
 match x with
 | .non=>k=false|.bl b=>k=b|.int i=>k=(i != 0)
 | .str y=>y.length<=sizeLine/\k=((y.length:Int) != 0)
 | .byt y=>y.size<=sizeLine/\k=((y.size:Int) != 0)
 | .ref p=>(∃xs,SqL K H p xs/\k=!xs.isEmpty)\/(∃xs,SqT K H p xs/\k=!xs.isEmpty)\/∃kvs,H p=some (.dK kvs)/\k=!kvs.isEmpty|_=>False
theorem uA{κ:Type}{kvs:List (κ×V)}{vs:List (κ×Ad)}(r:KV kvs vs):(!vs.isEmpty)=!kvs.isEmpty:=by cases r <;> rfl
theorem kL{xs:List V}{g:List Ad}(r:aH xs g):(!g.toArray.isEmpty)=!xs.isEmpty:=by cases r <;> simp
theorem iN:(sizeLine:Nat)<2 ^ 63:=by rw[BV];decide
theorem zO:aJj X (λx H Q=>∃k,aCc X.K x H k/\Q k H):=by
 intro pins s Z H x v Q I G h;obtain⟨k,e,q⟩:=h;have hl:=iN;have hs:sizeLine=16777216:=BV;cases x with
 | non=>cases G;have g:k=false:=e;subst g;exact truthy_none ⟨H,I,q⟩|bl b=>cases G;have g:k=b:=e;subst g;exact D7 ⟨H,I,q⟩|int i=>obtain⟨t,rfl⟩:=G;have g:k=(i != 0):=e;subst g;exact PySem.P.truthy_int ⟨H,I,q⟩|str y=>obtain⟨t,rfl⟩:=G;obtain⟨hy,g⟩:y.length<=sizeLine/\k=((y.length:Int) != 0):=e;subst g;exact PySem.P.truthy_str (by omega) ⟨H,I.tok _,q⟩|byt y=>obtain⟨t,rfl⟩:=G;obtain⟨hy,g⟩:y.size<=sizeLine/\k=((y.size:Int) != 0):=e;subst g;exact PySem.W.truthy_bytes (by omega) ⟨H,I.tok _,q⟩|ref p=>
  cases G;have g:(∃xs,SqL X.K H p xs/\k=!xs.isEmpty)\/(∃xs,SqT X.K H p xs/\k=!xs.isEmpty)\/∃kvs,H p=some (.dK kvs)/\k=!kvs.isEmpty:=e;rcases g with⟨xs,L,g⟩|⟨xs,L,g⟩|⟨kvs,L,g⟩
  subst g;obtain⟨M,r,U,W⟩:=I.list L;have B:=r.length;exact wpAny_truthy_list U.isList (by simp only[Aj];omega) ⟨H,I.tok _,by rw[kL r];exact q⟩;subst g;obtain⟨M,r,U,W⟩:=I.tuple L;have B:=r.length;exact truthy_tuple U (by simp only[Aj];omega) ⟨H,I.tok _,by rw[kL r];exact q⟩;subst g;obtain⟨W,hS,vs,r,m⟩:kvs.length<=sizeLine/\(p==Dd)=false/\∃vs,KV kvs vs/\s.heap.DictOf (eE X.prog X.w) p vs:=I.hok p _ L;have B:kvs.length=vs.length:=FS r;exact wpAny_truthy_dict hS m (by omega) ⟨H,I.tok _,by rw[uA r];exact q⟩
 | _=>exact(show False from e).elim
theorem zP(B:PE X a ta)(G:∀g,isTrue a X.env g=(do let v<-g;L4 a.pos;FJ [v] (truthy v))) :
 PT X a (λZ H Q=>ta Z H λx H'=>∃k,aCc X.K x H' k/\Q k H'):=by intro pins s Z H Q I h;exact isTrue_plain (thn (B pins s Z H _ I h) λv s1 ⟨x,H1,q,M,L⟩=>zO pins s1 Z H1 x v Q q M L) (G _)
theorem uB:OpR X (Cq .Add) (λx y H Q=>∃i j,x=.str i/\y=.str j/\i.length+j.length<=sizeLine/\Q (.str (i++j)) H):=by intro pins s Z H x y v u Q I B G h;obtain⟨i,j,rfl,rfl,g,q⟩:=h;obtain⟨t,rfl⟩:=B;obtain⟨t',rfl⟩:=G;exact add_str (λt' tk=>⟨.str (i++j),H,I.tok _,⟨_,rfl⟩,q⟩) g
theorem zQ{x:V}{us:List Ad}(r:aH [x] us):∃u,us=[u]/\aQ x u:=by
 cases r with
 | cons g q=>cases q;exact⟨_,rfl,g⟩
end
structure gF (k:Nat) (A:AJ):Prop where
 hd:A.handled=none
 gd:A.guards=some []
 dp:A.depth+3*k+5<J1
 un:A.units+16*k+200<Co
theorem gF.deeper{k:Nat}{A:AJ}(r:gF (k+1) A)(env:JY):gF k (A.deeper env):=
 ⟨r.hd,r.gd,by have:=r.dp;show A.depth+1+3*k+5<_;omega,by have:=r.un;show A.units+3+16*k+200<_;omega⟩
theorem gF.depth{k:Nat}{A:AJ}(r:gF k A):A.depth<J1:=by have:=r.dp;omega
noncomputable def aGO:TA:=λ_ H Q=>Q [] H
noncomputable def aGP(ta:TE)(tr:TA):TA:=λZ H Q=>ta Z H λx H1=>tr Z H1 λxs H2=>Q (x::xs) H2
section
variable {X:Cx} {e:A6} {es:List A6} {te:TE} {t:TA} {pos:Eg}
theorem kM:PA X [] aGO:=λ_ _ _ _ H Q I h=>Ep ⟨[],H,I,.nil,h⟩
theorem gO(G:PE X e te)(L:PA X es t)(hs:Bd (e::es) X.env=(false,Ed e X.env)::Bd es X.env:=by rfl):PA X (e::es) (aGP te t):=by intro pos pins s Z H Q I h;rw[hs];show Am _ _ (FI ((false,Ed e X.env)::DZ pos (Bd es X.env))) _ _ s;refine CD (thn (G pins s Z H _ I h) λu s1 ⟨x,H1,q,W,M⟩=>?_);exact thn (L pos pins s1 Z H1 _ q M) λus s2 ⟨xs,g,B,r2,U⟩=>⟨x::xs,g,B,.cons W r2,U⟩
noncomputable def aJm(t:TA):TE:=λZ H Q=>t Z H λxs H1=>xs.length<=sizeLine/\∀p,H1 p=none->Q (.ref p) (upd H1 p (.tup xs))
noncomputable def aJn(t:TA):TE:=λZ H Q=>t Z H λxs H1=>xs.length<=sizeLine/\∀p,H1 p=none->Q (.ref p) (upd H1 p (.lst xs))
theorem aEv{x1}(h:PA X es t):PE X (.Tuple es x1 pos) (aJm t):=by intro pins s Z H Q I G;refine wpAny_Tuple_spliced (thn (h pos pins s Z H _ I G) λus s1 ⟨xs,H1,g,r,z,q⟩=>⟨by rw[<-r.length];exact z,?_⟩);have B:H1 s1.heap.objs.size=none:=g.hok.fresh (Ak _);refine⟨.ref s1.heap.objs.size,upd H1 s1.heap.objs.size (.tup xs),g.laid (t':=s1.toks) (λb u e=>Ae _ e) (Ak _) ?_,rfl,q _ B⟩;exact⟨z,us,r,⟨_,A7 _ rfl,rfl,_,rfl⟩⟩
theorem aEw(h:PA X es t):PE X (.List es pos) (aJn t):=by intro pins s Z H Q I G;refine wpAny_List_spliced (thn (h pos pins s Z H _ I G) λus s1 ⟨xs,H1,g,r,z,q⟩=>⟨by rw[<-r.length];exact z,?_⟩);have B:H1 s1.heap.objs.size=none:=g.hok.fresh (Ak _);refine⟨.ref s1.heap.objs.size,upd H1 s1.heap.objs.size (.lst xs),g.laid (t':=s1.toks) (λb u e=>Ae _ e) (Ak _) ?_,rfl,q _ B⟩;exact⟨z,us,0,r,A7 _ rfl⟩
end
abbrev Sp:=List V->Hp->VK->XK->Prop
abbrev CXT:=List JY->Hp->Ac->XK->Ad->Ac->Prop
structure aCd (P:A0) (w:AR) (K:A1) (mg:Str->Option Ad) (base:Heap) (A:AJ) (outer:List JY) (s:Ac) (H:Hp):Prop where
 frames:A.frames=some outer
 mod:Mod K mg base
 bs:∀b o,base.get? b=some o->s.heap.get? b=some o/\H b=none
 bsz:base.objs.size<=s.heap.objs.size
 funs:s.heap.FunFrames base outer
 frf:∀b∈frs outer,H b=none
 hok:HOk P w H s.heap
 bare:FH s.gens
noncomputable def CE(outer:List JY)(P:A0)(w:AR)(H:Hp)(s:Ac)(Q:VK)(u:Ad)(s':Ac):Prop:=
 ∃v H',s'.os=s.os/\FH s'.gens/\Un (frs outer) [] H H' s.heap s'.heap/\HOk P w H' s'.heap/\aQ v u/\Q v H'
noncomputable def CR(CX:CXT)(outer:List JY)(P:A0)(w:AR)(H:Hp)(s:Ac)(Q:VK)(E:XK)(r:GU)(s':Ac):Prop:=
 match r with
 | .ok (.ret u)=>CE outer P w H s Q u s'|.ok _=>False|.error e=>CX outer H s E e s'
structure jM (P:A0) (w:AR) (K:A1) (mg:Str->Option Ad) (base:Heap) (CX:CXT) (k:Nat) (f:Addr) (fd:DC) (ps:List Str) (sp:Sp):Prop where
 len:∀vs H Q E,sp vs H Q E->vs.length=ps.length
 run:∀(A:AJ) (outer:List JY) (s:Ac) (H:Hp) (args:Args) (us:List Ad) (vs:List V) (Q:VK) (E:XK),gF k A->aCd P w K mg base A outer s H->Kw s fd args (ps.zip us)->aH vs us->sp vs H Q E ->
  EJ (A4 P w) A (.call (.ref f) args) (CR CX outer P w H s Q E) s
section
variable {X:Cx} {pins:List (Addr×Obj)} {Z:St} {H:Hp} {s s':Ac}
theorem Inv.env0(I:Inv X pins Z H s):aCd X.prog X.w X.K X.mg X.base X.A X.stack s H:=
 ⟨I.ok.frames,I.ok.mod,I.bs,A2 I.ok.bsz I.sz,I.stack,I.stkFree,I.hok,I.bare⟩
theorem Inv.after{Q:VK}{u:Ad}(I:Inv X pins Z H s)(h:CE X.stack X.prog X.w H s Q u s'):EP X pins Z Q u s':=by obtain⟨v,H',os,bare,un,hok,r,q⟩:=h;obtain⟨G,g,d,t,B⟩:=s';obtain rfl:B=s.os:=os;exact⟨v,H',I.call (h':=G) (g':=g) (d':=d) (t':=t) (ch:=[]) un hok bare (λb z=>absurd z (by simp)),r,q⟩
end
noncomputable def aDz(sp:Sp)(dvs:List V)(E:XK)(t:TA):TE:=λZ H Q=>t Z H λvs H1=>sp (vs++dvs) H1 Q E
noncomputable def gC(K:A1)(fd:DC)(ps:List Str)(ds:List Ad):Prop:=
 ∀(s:Ac) (us:List Ad),K.In s.heap->(us++ds).length=ps.length->Kw s fd ⟨us,[]⟩ (ps.zip (us++ds))
theorem gC.all{K:A1}{fd:DC}{ps:List Str}(h:∀us:List Ad,us.length=ps.length->J3 fd ⟨us,[]⟩=pure (ps.zip us)):gC K fd ps []:=λs us _ g=>by rw[Bg] at g ⊢;exact .of_eq (h us g)
noncomputable def oY(CX:CXT)(X:Cx)(E:XK):Prop:=∀(pins:List (Addr×Obj)) (Z:St) (H:Hp) (s:Ac) (e:Ad) (s':Ac),Inv X pins Z H s->CX X.stack H s E e s'->X.xe e s'
section
variable {X:Cx} {CX:CXT} {k:Nat} {f C:Addr} {fd:DC} {ps:List Str} {sp:Sp} {dvs:List V} {ds:List Ad} {E:XK} {x m:Str} {p pos apos:Eg} {e o:A6} {es:List A6} {ta:TE} {t:TA}
theorem zR{pins:List (Addr×Obj)}{Z:St}{H:Hp}{s:Ac}{Q:VK}{us:List Ad}{vs:List V}(F:jM X.prog X.w X.K X.mg X.base CX k f fd ps sp)(L:gF k X.A)(B:gC X.K fd ps ds)(hd:aH dvs ds)(M:oY CX X E)
 (I:Inv X pins Z H s) (r:aH vs us) (h:sp (vs++dvs) H Q E):Am (A4 X.prog X.w) X.A (call (.ref f) us) (EP X pins Z Q) X.xe s:=by
 have q:aH (vs++dvs) (us++ds):=r.append hd;have G:(us++ds).length=ps.length:=by rw[<-q.length];exact F.len _ _ _ _ h
 refine wpAny_call (Fj (F.run X.A X.stack s H ⟨us,[]⟩ (us++ds) (vs++dvs) Q E L I.env0 (B s us I.kIn G) q h) λr U g=>?_);cases r with
 | error e=>exact M pins Z H s e U I g|ok fl=>
  cases fl with
  | ret u=>exact I.after g|next=>exact Dt g|brk=>exact Dt g|cont=>exact Dt g
theorem aCe(F:jM X.prog X.w X.K X.mg X.base CX k f fd ps sp)(hr:gF k X.A)(W:Gl X x)(hm:X.mg x=some (.ref f))(hk:DD X.K (.ref f)=true)(M:gC X.K fd ps ds)(hd:aH dvs ds)(hx:oY CX X E)
 (L:PA X (e::es) t) (g:(x==("__debug__" : Str))=false:=by decide) (U:Bd (e::es) X.env=(false,Ed e X.env)::Bd es X.env:=by rfl) (B:(DZ pos (Bd es X.env)).any (·.1)=false:=by rfl) :
 PE X (.Call (.Name x p) (e::es) [] pos) (aDz sp dvs E t):=by intro pins s Z H Q I h;refine Bs (oW I W hm ?_ g);refine PySem.W.callWith_K (h₀:=X.base) I.ok.mod.kin hk (thn (L pos pins s Z H _ I h) λus s1 ⟨vs,H1,G,r,q⟩=>⟨G.kIn,?_⟩) U B;exact zR F hr M hd hx G r q
theorem zS(F:jM X.prog X.w X.K X.mg X.base CX k f fd ps sp)(M:gF k X.A)(B:Gl X x)(L:X.mg x=some (.ref f))(G:DD X.K (.ref f)=true)(q:gC X.K fd ps ds)(hd:aH dvs ds)(U:oY CX X E)
 (g:(x==("__debug__" : Str))=false:=by decide):PE X (.Call (.Name x p) [] [] pos) (aDz sp dvs E aGO):=by intro pins s Z H Q I h;refine Bs (oW I B L ?_ g);exact PySem.W.callWith_K0 I.kIn G (zR (us:=[]) F M q hd U I .nil h)
end
structure jV (N P:List Str) (sc:DB):Prop where
 kind:sc.kind=.function
 co:sc.isCoroutine=false
 gen:sc.isGenerator=false
 nd:N.Nodup
 pre:N.take P.length=P
 par:∀x∈P,sc.names.lookup x=some .local\/sc.names.lookup x=some .cell
 nofree:∀y∈sc.names,y.2≠.free
theorem nJ{kindOf:Str->Option Cr}{x:Str}:∀{binds:List (Str×Ad)} {m:Str->Option Ad},(∀v,(x,v)∉binds)->J4 kindOf binds m x=m x
 | [],_,_=>rfl|(n,v)::r,m,h=>by
  unfold J4;rw[nJ λw g=>h w (Af _ g)];split;have:x≠n:=by rintro rfl;exact h v Ai
  simp[this];rfl
theorem nK{kindOf:Str->Option Cr}{x:Str}:∀{binds:List (Str×Ad)} {m:Str->Option Ad},(∀v,(x,v)∉binds)->J5 kindOf binds m x=m x
 | [],_,_=>rfl|(n,v)::r,m,h=>by
  unfold J5;rw[nK λw g=>h w (Af _ g)];split;rfl;have:x≠n:=by rintro rfl;exact h v Ai
  simp[this]
theorem nL{kindOf:Str->Option Cr}{x:Str}{v:Ad}:∀{P:List Str} {vs:List Ad} {i:Nat} {m:Str->Option Ad},P.Nodup->P[i]? = some x->vs[i]? = some v->kindOf x=some .local ->
 J4 kindOf (P.zip vs) m x=some v
 | [],_,_,_,_,h,_,_=>by simp at h|_::_,[],_,_,_,_,h,_=>by simp at h|p::P,w::vs,0,m,nd,h1,h2,hk=>by simp at h1 h2;subst h1;subst h2;show J4 kindOf ((p,w)::P.zip vs) m p=_;unfold J4;rw[nJ λv g=>(Bu.mp nd).1 (EU g).1,if_pos hk];simp|p::P,w::vs,i+1,m,nd,h1,h2,hk=>by show J4 kindOf ((p,w)::P.zip vs) m x=_;unfold J4;exact nL (i:=i) (Bu.mp nd).2 (by simpa using h1) (by simpa using h2) hk
theorem nM{kindOf:Str->Option Cr}{x:Str}{v:Ad}:∀{P:List Str} {vs:List Ad} {i:Nat} {m:Str->Option Ad},P.Nodup->P[i]? = some x->vs[i]? = some v->kindOf x≠some .local ->
 J5 kindOf (P.zip vs) m x=some v
 | [],_,_,_,_,h,_,_=>by simp at h|_::_,[],_,_,_,_,h,_=>by simp at h|p::P,w::vs,0,m,nd,h1,h2,hk=>by simp at h1 h2;subst h1;subst h2;show J5 kindOf ((p,w)::P.zip vs) m p=_;unfold J5;rw[nK λv g=>(Bu.mp nd).1 (EU g).1,if_neg hk];simp|p::P,w::vs,i+1,m,nd,h1,h2,hk=>by show J5 kindOf ((p,w)::P.zip vs) m x=_;unfold J5;exact nM (i:=i) (Bu.mp nd).2 (by simpa using h1) (by simpa using h2) hk
noncomputable def start(N:List Str)(vs:List V):St:=vs.map some++An (N.length-vs.length) none
noncomputable def uC(CX:CXT)(P:A0)(w:AR)(K:A1)(mg:Str->Option Ad)(base:Heap)(N:List Str)(qual:Str)(scope:DB)(f:Addr)(cd:Ad)(A:AJ)(outer:List JY)(s:Ac)(H:Hp)(E:XK):Cx where
 prog:=P
 w:=w
 K:=K
 mg:=mg
 base:=base
 A:=A.deeper (GV qual scope s.heap.objs.size f cd)
 N:=N
 s₀:=s
 H₀:=H
 env:=GV qual scope s.heap.objs.size f cd
 outer:=outer
 stack:=GV qual scope s.heap.objs.size f cd::outer
 ex:=[]
 calm:=true
 fn:=λ_=>true
 pn:=[]
 xe:=λe s'=>Am (A4 P w) (A.deeper (GV qual scope s.heap.objs.size f cd)) (leaving (GV qual scope s.heap.objs.size f cd) e) (λ_ s''=>CX outer H s E e s'') (λe' s''=>CX outer H s E e' s'') s'
theorem rD{sc:DB}{n:Nat}{x:Str}(h:sc.names.lookup x=some .cell):∃c,(Kq n sc.names []).lookup x=some c:=by have q:=Go sc.names n [] (.inl h);exact Option.isSome_iff_exists.mp q
theorem xZ{CX:CXT}{P:A0}{w:AR}{K:A1}{mg:Str->Option Ad}{base:Heap}{N ps:List Str}{qual:Str}{scope:DB}{f:Addr}{U:Ad}{A:AJ}{outer:List JY}{s s1:Ac}{H:Hp}{E:XK}{us:List Ad}{vs:List V}
 (S:jV N ps scope) (hd:A.handled=none) (B:aCd P w K mg base A outer s H) (hl:vs.length=ps.length) (r:aH vs us)
 (x:InCallC s s.heap.objs.size (J4 (GV qual scope s.heap.objs.size f U).kindOf (ps.zip us) λ_=>none) (Kq (s.heap.objs.size+1) scope.names []) (J5 (GV qual scope s.heap.objs.size f U).kindOf (ps.zip us) λ_=>none) s1) :
 Inv (uC CX P w K mg base N qual scope f U A outer s H E) [] (start N vs) H s1:=by
 have q0:ps.length<=N.length:=by have:=congrArg GW S.pre;rw[Bo] at this;omega
 obtain⟨W,tk,rfl,hk⟩:=x.done;have I:∀b:Addr,b∉(uC CX P w K mg base N qual scope f U A outer s H E).ex:=λb z=>absurd (show b∈([]:List Addr) from z) (by simp);refine⟨⟨B.mod,S.kind,rfl,rfl,Ak _,λy z c W g=>?_,λy G=>?_,λy c _ h=>?_,λ_=>hd,Around.frames_deeper B.frames,.inr ⟨rfl,rfl⟩,λb z=>absurd z (I b),B.bs,B.bsz,λb _ _=>I b,λb z=>absurd z (I b),B.funs,B.frf⟩,
  rfl,B.bare,Un.kept hk,⟨_,x.toInCall.ns,λi y v W g h3=>?_⟩,λy c h=>⟨_,x.cell y c h⟩,B.hok.fresh (Ak _),λy c h=>?_,λp L=>absurd (show p∈([]:List (Addr×Obj)) from L) (by simp),B.hok.kept hk,?_⟩
 exact name_of_addr x.apart (BH W) (BH g);have G:scope.names.lookup y=some .cell\/scope.names.lookup y=some .free:=G;rcases G with G|G;exact rD G;exact absurd rfl (S.nofree _ (BH G));exact Ca (x.above y c (BH h));have hi:i<vs.length:=by unfold start at g;by_cases hi:i<vs.length;exact hi;rw[AD (by simpa using hi)] at g;rw[Cv] at g;split at g <;> cases g
 have ha:vs[i]? = some v:=by
  unfold start at g;rw[AE (by simpa using hi),A5] at g;cases e:vs[i]? with
  | none=>rw[e] at g;cases g|some a=>rw[e] at g;cases g;rfl
 obtain⟨u,hu,rv⟩:=r.get ha;have L:ps[i]? = some y:=by rw[<-S.pre,List.getElem?_take_of_lt (by omega)];exact W
 have M:ps.Nodup:=by rw[<-S.pre];exact S.nd.sublist (Ic _ _)
 refine⟨u,rv,?_⟩;rcases S.par y (List.mem_of_getElem? L) with k|k;exact .inl ⟨k,nL M L hu k⟩;obtain⟨c,e⟩:=rD (n:=s.heap.objs.size+1) k;refine .inr ⟨.inl k,c,e,?_⟩;have q:=x.cell y c e;rw[nM M L hu (by show scope.names.lookup y≠_;rw[k];decide)] at q;exact q;exact B.hok.fresh (Ca (x.above y c (BH h)));unfold start;show _=N.length;rw[Dv,GF,Be];omega
theorem aGQ{CX:CXT}{P:A0}{w:AR}{K:A1}{mg:Str->Option Ad}{base:Heap}{k:Nat}{f:Addr}{name qual:Str}{g:Hi}{body:List CK}{scope:DB}{dV kV doc pm cdv ct oc:Ad}{an od:Option Addr}
 {osl:Array (Option Ad)} {N ps:List Str} {sp:Sp} (lk:K.lookup f=some ⟨oc,od,.func (Gp name qual g body scope dV kV doc pm an cdv ct),osl⟩) (W:J6 K cdv qual=true) (S:jV N ps scope)
 (len:∀vs H Q E,sp vs H Q E->vs.length=ps.length)
 (B:∀(A:AJ) (outer:List JY) (s:Ac) (H:Hp) (vs:List V) (Q:VK) (E:XK),gF k (A.deeper (GV qual scope s.heap.objs.size f cdv))->sp vs H Q E ->
  ∃t,PSs (uC CX P w K mg base N qual scope f cdv A outer s H E) body t/\t { nx:=λ_ H'=>Q .non H',rt:=Q } (start N vs) H) :
 jM P w K mg base CX (k+1) f (Gp name qual g body scope dV kV doc pm an cdv ct) ps sp:=by
 refine⟨len,λA outer s H args us vs Q E hr L hb r U=>?_⟩;have hl:=len _ _ _ _ U;have KX:K.In s.heap:=L.mod.kin.keeps λb o e=>(L.bs b o e).1;have lim:s.heap.NoLimit:=L.mod.nolimit.keeps λb o e=>(L.bs b o e).1;have G:∀y∈ps.zip us,scope.names.lookup y.1=some .local\/(scope.names.lookup y.1=some .cell/\((Kq (s.heap.objs.size+1) scope.names []).lookup y.1).isSome=true):=λ⟨n,v⟩ hy=>by rcases S.par n (EU hy).1 with q|q;exact .inl q;exact .inr ⟨q,Go _ _ _ (.inl q)⟩
 refine codeAny_call_function hr.depth (KX _ _ lk) rfl S.co S.gen rfl (PySem.W.codeRec_of KX W) (hb _ _ _ _ ?_);refine wpAny_newFunctionEnv_cells S.kind G λenv he s1 x=>?_;subst he;refine⟨lim.keeps x.toInCall.keep,codeAny_func ?_⟩;obtain⟨t,ht,hq⟩:=B A outer s H vs Q E (hr.deeper _) U;have I:Inv (uC CX P w K mg base N qual scope f cdv A outer s H E) [] (start N vs) H s1:=xZ S hr.hd L hl r x;refine BO (ht [] s1 (start N vs) H _ I hq) (λfl s' hs=>?_) λe s' hs=>hs;have M:∀{Z':St} {H':Hp} {v:V} {u:Ad},Inv (uC CX P w K mg base N qual scope f cdv A outer s H E) [] Z' H' s'->aQ v u->Q v H'->CE outer P w H s Q u s':=
  λ{Z' H' v u} J rv q=>⟨v,H',J.os,J.bare,J.base,J.hok,rv,q⟩
 cases fl with
 | ret u=>obtain⟨v,Z',H',J,rv,q⟩:=hs;exact M J rv q|next=>obtain⟨Z',H',J,q⟩:=hs;exact M (v:=V.non) (u:=Cj) J rfl q|brk=>obtain⟨_,_,_,q⟩:=hs;exact Dt q|cont=>obtain⟨_,_,_,q⟩:=hs;exact Dt q
section
variable {X:Cx} {x:Str} {p pos:Eg} {e:A6} {es:List A6} {t:TA} {id T:String} {r:List V->Hp->VK->Prop}
noncomputable def tCB(r:List V->Hp->VK->Prop)(t:TA):TE:=λZ H Q=>t Z H λvs H1=>r vs H1 Q
theorem zT(L:gB X (.builtin id) r)(U:Gl X x)(W:X.mg x=none)(hv:C9 x=some (.builtin id))(G:PA X (e::es) t)(hn:x ≠ "__name__" := by decide)(g:(x==("__debug__" : Str))=false:=by decide)
 (M:Bd (e::es) X.env=(false,Ed e X.env)::Bd es X.env:=by rfl) (q:(DZ pos (Bd es X.env)).any (·.1)=false:=by rfl):PE X (.Call (.Name x p) (e::es) [] pos) (tCB r t):=by intro pins s Z H Q I h;refine Bs (dG I U W hv ?_ hn g);exact BB (thn (G pos pins s Z H _ I h) λus s1 ⟨vs,H1,B,r1,q1⟩=>L pins s1 Z H1 vs us Q B r1 q1) M q
theorem yA(L:gB X (.type T) r)(U:Gl X x)(W:X.mg x=none)(hv:C9 x=some (.type T))(G:PA X (e::es) t)(hn:x ≠ "__name__" := by decide)(g:(x==("__debug__" : Str))=false:=by decide)
 (M:Bd (e::es) X.env=(false,Ed e X.env)::Bd es X.env:=by rfl) (q:(DZ pos (Bd es X.env)).any (·.1)=false:=by rfl):PE X (.Call (.Name x p) (e::es) [] pos) (tCB r t):=by intro pins s Z H Q I h;refine Bs (dG I U W hv ?_ hn g);exact BZ (thn (G pos pins s Z H _ I h) λus s1 ⟨vs,H1,B,r1,q1⟩=>L pins s1 Z H1 vs us Q B r1 q1) M q
end
end L2
namespace HT
open PySem PyProof.Rows
noncomputable def lexLt:List Int->List Int->Bool
 | [],[]=>false|[],_::_=>true|_::_,[]=>false|x::xs,y::ys=>if x=y then lexLt xs ys else decide (x<y)
theorem lexLt_cons(x y:Int)(xs ys:List Int):lexLt (x::xs) (y::ys)=if x=y then lexLt xs ys else decide (x<y):=rfl
theorem gD:lexLt [] []=false:=rfl
theorem eZ(y:Int)(ys:List Int):lexLt [] (y::ys)=true:=rfl
theorem fA(x:Int)(xs:List Int):lexLt (x::xs) []=false:=rfl
theorem rE(A:AJ)(s:Ac)(a:Int)(t:Lq)(c:Int)(u:Lq):∃e,SeqAt.EqAt A s (.int a t) (.int c u) e/\(e=true↔a=c):=
 ⟨(a==c),Lr a t c u,by simp⟩
theorem zU(A:AJ)(s:Ac)(a:Int)(t:Lq)(c:Int)(u:Lq)(prog:A0)(w:AR)(E:Ad->Ac->Prop)(Q:Ad->Ac->Prop)(h:Q (.bool (decide (a<c))) s) :
 Am (A4 prog w) A (KL .Lt (.int a t) (.int c u)) Q E s:=
 (Lk h:Am (A4 prog w) A (BU .Lt (.int a t) (.int c u)) Q E s)
section
open PySem.SeqAt
open PySem.AutoSeq1 (wpAny_loadPart')
open PySem.MeetsSeq PySem.MeetsSeq2 PySem.MeetsSeq3
theorem mY(l b:Addr)(items B:Array Ad)(n n2:Nat)(dd q5:Option Addr)(sl q7:Array (Option Ad))(ns ms:List Int)(hi:Cw items.toList ns)(hj:Cw B.toList ms) :
 Kr (BL.«tuple.__lt__» ⟨[.ref l,.ref b],[]⟩)
  (λ_ R s=>s.heap.get? l=some { cls:=.type "tuple",dict:=dd,data:=.seq items n,slots:=sl }/\s.heap.get? b=some { cls:=.type "tuple",dict:=q5,data:=.seq B n2,slots:=q7 } /\
   R (.ok (.ret (.bool (lexLt ns ms)))) s):=
 .of_wp λprog w A R s h=>by
  obtain⟨hp,g,d,tk,os⟩:=s;obtain⟨hl,hb,h⟩:=h;have f2:=FU;have z1:items.size=ns.length:=by rw[<-hi.length];simp
  have z2:B.size=ms.length:=by rw[<-hj.length];simp
  wp_walk using wpAny_loadPart' hl,wpAny_loadPart' hb,Bv _ (λrest b s'=>b.1=none/\s'=⟨hp,g,d,tk,os⟩/\∃(vs ws:List Ad) (L I:List Int),rest=vs.zip ws /\
   Cw vs L/\Cw ws I/\L.length+B.size=I.length+items.size/\R (.ok (.ret (.bool (lexLt L I)))) ⟨hp,g,d,tk,os⟩) _
  case turn=>
   rintro ⟨y,x⟩ rest b s' ⟨q1,rfl,vs,ws,L,I,U,q2,M,G,W⟩;cases q2 with
   | nil=>rw[Ie] at U;cases U|cons a t q3=>
    cases M with
    | nil=>rw[Fu] at U;cases U|cons c u q4=>
     rw[AY] at U;injection U with hyx hrest
     injection hyx with hy hx
     subst hy hx;rw[lexLt_cons] at W;simp only[Gc] at G;obtain⟨e,he,q0⟩:=rE A.in1 ⟨hp,g,d,tk,os⟩ a t c u;refine Aa (he prog w _ _ ?_);cases e with
     | true=>
      rw[if_pos (q0.mp rfl)] at W
      wp_walk
      exact⟨rfl,rfl,_,_,_,_,hrest,q3,q4,by omega,W⟩
     | false=>
      rw[if_neg (λq=>absurd (q0.mpr q) CC)] at W;have q6:=zU A.in1 ⟨hp,g,d,tk,os⟩ a t c u prog w
      wp_walk using q6
      exact⟨_,rfl,by simpa using W⟩
  case fin=>
   rintro ⟨b1,b2⟩ s' ⟨q1,rfl,vs,ws,L,I,U,q2,M,G,W⟩;simp only at q1;subst q1;have hv:lexLt L I=decide (items.size<B.size):=by
    cases q2 with
    | nil=>
     cases M with
     | nil=>simp only[GG] at G;rw[gD];exact(Ar (by omega)).symm|cons c u hw=>simp only[GG,Gc] at G;rw[eZ];exact(Aw (by omega)).symm
    | cons a t hv=>
     cases M with
     | nil=>simp only[GG,Gc] at G;rw[fA];exact(Ar (by omega)).symm|cons c u hw=>rw[AY] at U;cases U
   rw[hv] at W
   wp_walk
   exact⟨_,rfl,by simpa[E6] using W⟩
  case h=>exact⟨rfl,rfl,items.toList,B.toList,ns,ms,rfl,hi,hj,by omega,h⟩
end
section
variable {prog:A0} {w:AR} {A:AJ} {E:Ad->Ac->Prop} {s:Ac}
theorem lt_tupInts{l b:Addr}{items g:Array Ad}{ns I:List Int}{Q:Ad->Ac->Prop}(hl:IsTup s.heap l items)(hb:IsTup s.heap b g)(hi:Cw items.toList ns)(hj:Cw g.toList I)
 (hu:A.units<Co) (h:Q (.bool (lexLt ns I)) s):Am (A4 prog w) A (BU .Lt (.ref l) (.ref b)) Q E s:=by
 obtain⟨⟨cls,dd,data,sl⟩,ho,hc,n,hd⟩:=id hl;obtain⟨⟨W,M,L,U⟩,G,q,n2,B⟩:=id hb;simp only at hc hd q B;subst hc hd q B;exact Dw (op:=.Lt) ⟨_,ho,rfl⟩ ⟨_,G,rfl⟩ PySem.F.slot_tuple_lt PySem.F.entry_tuple_lt (PySem.F.args_tuple_lt_2 _ _) (mY l b items g n n2 dd M sl U ns I hi hj)
  ⟨ho,G,show Fp (lexLt ns I)≠CT/\Q (.bool (lexLt ns I)) s from⟨(λx=>nomatch x),h⟩⟩ hu
theorem cat_tup{t b:Addr}{vs g:List Ad}{Q:Ad->Ac->Prop}(ht:IsTup s.heap t vs.toArray)(hb:IsTup s.heap b g.toArray)(hv:vs≠[])
 (h1:g=[]->Q (.ref t) s) (h2:g≠[]->Q (.ref s.heap.objs.size) { s with heap:=s.heap.push { cls:=.type "tuple",data:=.seq (vs++g).toArray } })
 (hsz:vs.length+g.length<=sizeLine):Am (A4 prog w) A (Cq .Add (.ref t) (.ref b)) Q E s:=by
 obtain⟨⟨cls,dd,data,sl⟩,M,hc,n,hd⟩:=id ht;obtain⟨⟨q0,B,W,L⟩,q,G,n2,I⟩:=id hb;simp only at hc hd G I;subst hc hd G I;have e:vs.toArray++g.toArray=(vs++g).toArray:=by simp
 by_cases U:g=[]
 exact Gq ⟨_,M,rfl⟩ ⟨_,q,rfl⟩ Ge Ht Er Ek (Ee _ _)
  (tuple_addW1 t b vs.toArray g.toArray n n2 dd B sl L (by simpa using hv) (by simp[U])) ⟨M,q,h1 U⟩
 refine Gq ⟨_,M,rfl⟩ ⟨_,q,rfl⟩ Ge Ht Er Ek (Ee _ _)
  (tuple_addW2 t b vs.toArray g.toArray n n2 dd B sl L (by simpa using hv) (by simpa using U) (by rw[Aj,Aj];exact hsz)) ⟨M,q,?_⟩
 rw[e];exact h2 U
noncomputable def sIx(n d:Nat):Option Int->Nat
 | none=>d|some v=>if v<0 then (v+(n:Int)).toNat else min v.toNat n
theorem aEx(n d:Nat)(hd:d<=n)(o:Option Int):sIx n d o<=n:=by
 cases o with
 | none=>exact hd|some v=>show(if v<0 then (v+(n:Int)).toNat else min v.toNat n)<=n;by_cases g:v<0;rw[if_pos g];omega;rw[if_neg g];exact Nat.min_le_right _ _
theorem vP(v:Int)(n d:Nat):(if v<0 then max (v+(n:Int)) 0 else min v (n:Int))=((sIx n d (some v):Nat):Int):=by
 show(if v<0 then max (v+(n:Int)) 0 else min v (n:Int))=(((if v<0 then (v+(n:Int)).toNat else min v.toNat n):Nat):Int)
 by_cases g:v<0;simp only[if_pos g];omega;simp only[if_neg g];omega
theorem uD(lo hi:Option Int)(n:Nat):DX lo hi 1 (n:Int)=(((sIx n 0 lo:Nat):Int),((sIx n n hi:Nat):Int)):=by
 have g:¬ ((1:Int)<0):=by omega
 unfold DX;simp only[g,if_false];refine KM ?_ ?_;cases lo with
 | none=>rfl|some v=>exact vP v n 0
 cases hi with
 | none=>rfl|some v=>exact vP v n n
theorem uE(i j:Nat):CM (i:Int) (j:Int) 1=j-i:=by
 unfold CM;have g:(1:Int)>0:=by omega
 simp only[g,if_true,Int.ediv_one];split <;> omega
theorem kO{v:Ad}{o:Option Int}{Q:Option Int->Ac->Prop}(p:Gr v o)(h:Q o s):Am (A4 prog w) A (Jj v) Q E s:=by
 cases p with
 | none=>exact J7 h|int i t=>exact slicePart_int h
theorem sliceApplied_gen{sl:Addr}{B G:Ad}{lo hi:Option Int}{n:Nat}{Q:Int×Int×Nat->Ac->Prop}(hs:s.heap.IsSliceOf sl B G .none)(L:Gr B lo)(M:Gr G hi)
 (h:Q (((sIx n 0 lo:Nat):Int),1,sIx n n hi-sIx n 0 lo) s):Am (A4 prog w) A (Fv (.ref sl) (pure (n:Int))) Q E s:=by obtain⟨os,q,I,g⟩:=id hs;unfold Fv JW;refine Aa (Aa (Jd q g (x:=B) rfl (Aa (Jd q g (x:=G) rfl (Aa (Jd q g (x:=.none) rfl (Ab ?_)))))));refine Aa (J7 ?_);show Am _ _ (if ((1:Int)==0)=true then _ else _) _ _ s;rw[if_neg (by decide)];refine Aa (kO L (Aa (kO M (Aa (Ab ?_)))));show Am _ _ (match DX lo hi 1 (n:Int) with|(lo,hi)=>pure (lo,(1:Int),CM lo hi 1)) _ _ s;rw[uD lo hi n];show Am _ _ (pure (((sIx n 0 lo:Nat):Int),(1:Int),CM ((sIx n 0 lo:Nat):Int) ((sIx n n hi:Nat):Int) 1)) _ _ s;rw[uE];exact Ab h
theorem zV(xs:Array Ad)(i k:Nat):((AA k).filterMap λ(m:Nat)=>xs[((i:Int)+(m:Int)*1).toNat]?).toArray=((xs.toList.drop i).take k).toArray:=by
 have e:(λ(m:Nat)=>xs[((i:Int)+(m:Int)*1).toNat]?)=λm=>xs[i+m]? := by
  funext m
  have:((i:Int)+(m:Int)*1).toNat=i+m:=by omega
  rw[this]
 rw[e];have:=pick_run xs i k;rw[List.filterMap_map] at this;have g:((λx=>xs[x]?)∘λx=>i+x)=λm=>xs[i+m]? := rfl;rw[g] at this;rw[this]
theorem getItem_tuple_cut{t sl:Addr}{items:Array Ad}{U W:Ad}{lo hi:Option Int}{Q:Ad->Ac->Prop}(B:IsTup s.heap t items)(hs:s.heap.IsSliceOf sl U W .none)(pl:Gr U lo)(pu:Gr W hi)
 (hw:¬ (sIx items.size 0 lo=0/\sIx items.size items.size hi=items.size))
 (h:Q (.ref s.heap.objs.size) { s with heap:=s.heap.push { cls:=.type "tuple",data:=.seq ((items.toList.drop (sIx items.size 0 lo)).take (sIx items.size items.size hi-sIx items.size 0 lo)).toArray } })
 (hsz:items.size<=sizeLine):Am (A4 prog w) A (Gu (.ref t) (.ref sl)) Q E s:=by
 have g:sizeOk (.seq ((items.toList.drop (sIx items.size 0 lo)).take (sIx items.size items.size hi-sIx items.size 0 lo)).toArray):=by show((items.toList.drop (sIx items.size 0 lo)).take (sIx items.size items.size hi-sIx items.size 0 lo)).toArray.size<=sizeLine;rw[Aj,Bo,BC,AK];omega
 have hj:sIx items.size items.size hi<=items.size:=aEx _ _ (Ak _) hi;obtain⟨os,M,I,q0⟩:=id hs;have G:s.TypeIs (.ref sl) "slice" := ⟨os,M,I⟩
 unfold Gu
 try with_reducible refine AI ?_
 first|refine Aa (Ab ?_)|skip
 refine Aa (Ig B.typeIs (by decide) ?_);refine Aa (Cy (name:=Fk "__getitem__") B.typeIs Bl
  (AZ Bl B.typeIs Hk ?_ (HD _ _)))
 show Am _ _ (DE (.ref t) >>= _) _ _ s;refine Aa (Ka B ?_);refine Aa (CU G ?_);rw[if_pos (by decide)];refine Aa (sliceApplied_gen hs pl pu ?_);have L:¬ ((((sIx items.size 0 lo:Nat):Int)==0&&(1:Int)==1&&(sIx items.size items.size hi-sIx items.size 0 lo)==items.size)=true):=by intro q;rw[IJ,IJ] at q;have q1:((sIx items.size 0 lo:Nat):Int)=0:=eq_of_beq q.1.1;have q2:sIx items.size items.size hi-sIx items.size 0 lo=items.size:=eq_of_beq q.2;exact hw ⟨by omega,by omega⟩
 show Am _ _ (if (((sIx items.size 0 lo:Nat):Int)==0&&(1:Int)==1&&(sIx items.size items.size hi-sIx items.size 0 lo)==items.size)=true then _ else _) _ _ s;rw[if_neg L,zV]
 first
  | exact Aa (m:=De _) (Bj (Ab ⟨_,rfl,Ab h⟩) g)
  | exact Aa (m:=De _) (Bj (Aa (Ab (Ab ⟨_,rfl,Ab h⟩))) g)
  | exact Aa (Aa (m:=De _) (Bj (Ab (Ab ⟨_,rfl,Ab h⟩)) g))
  | exact Aa (Aa (m:=De _) (Bj (Ab ⟨_,rfl,Ab h⟩) g))
end
end HT
namespace L2
open PySem PySem.Spec PyProof.Rows
abbrev TO:=St->Hp->(Option Int->Hp->Prop)->Prop
noncomputable def PO(X:Cx)(e:Option A6)(t:TO):Prop:=
 ∀(pins:List (Addr×Obj)) (s:Ac) (Z:St) (H:Hp) (Q:Option Int->Hp->Prop),Inv X pins Z H s->t Z H Q ->
  Am (A4 X.prog X.w) X.A (evalPart e X.env) (λu s'=>∃o H',Inv X pins Z H' s'/\Gr u o/\Q o H') X.xe s
noncomputable def aCf:TO:=λ_ H Q=>Q none H
noncomputable def aGR(t:TE):TO:=λZ H Q=>t Z H λx H1=>∃i,x=.int i/\Q (some i) H1
theorem eG{ns:List Int}:∀{us:List Ad},aH (ns.map V.int) us->Cw us ns:=by
 induction ns with
 | nil=>intro us r;rw[Kx] at r;cases r;exact .nil|cons n ns g=>
  intro us r;rw[Kb] at r;cases r with
  | cons q B=>obtain⟨t,e⟩:=q;subst e;exact .cons n t (g B)
section
variable {X:Cx} {e:A6} {te:TE} {lo hi:Option A6} {tl th:TO} {pos p2:Eg}
theorem aCg:PO X none aCf:=by intro pins s Z H Q I h;rw[Kc];exact Ab ⟨none,H,I,.none,h⟩
theorem aCh(h:PE X e te):PO X (some e) (aGR te):=by intro pins s Z H Q I B;rw[evalPart_some];refine thn (h pins s Z H _ I B) λu s1 ⟨x,H1,g,L,G⟩=>?_;obtain⟨i,rfl,q⟩:=G;obtain⟨t,rfl⟩:=L;exact⟨some i,H1,g,.int i t,q⟩
noncomputable def SlR(X:Cx)(r:V->Option Int->Option Int->Hp->VK->Prop):Prop:=
 ∀(pins:List (Addr×Obj)) (s:Ac) (Z:St) (H:Hp) (x:V) (v vl vu:Ad) (lo hi:Option Int) (sl:Addr) (Q:VK),Inv X pins Z H s->aQ x v->s.heap.IsSliceOf sl vl vu .none->Gr vl lo->Gr vu hi->r x lo hi H Q ->
  ∃T id,typeLookup (.type T) "__getitem__" = pure (some (.builtin id))/\s.TypeIs v T/\Am (A4 X.prog X.w) X.A (Gu v (.ref sl)) (EP X pins Z Q) X.xe s
theorem SlR.or{r G:V->Option Int->Option Int->Hp->VK->Prop}(h:SlR X r)(h':SlR X G):SlR X (λx lo hi H Q=>r x lo hi H Q\/G x lo hi H Q):=by intro pins s Z H x v M U lo hi sl Q I L hs g B q;rcases q with q|q;exact h pins s Z H x v M U lo hi sl Q I L hs g B q;exact h' pins s Z H x v M U lo hi sl Q I L hs g B q
noncomputable def tSl(r:V->Option Int->Option Int->Hp->VK->Prop)(te:TE)(tl th:TO):TE:=λZ H Q=>te Z H λx H1=>tl Z H1 λl H2=>th Z H2 λu H3=>r x l u H3 Q
theorem zW{r:V->Option Int->Option Int->Hp->VK->Prop}(hr:SlR X r)(he:PE X e te)(hl:PO X lo tl)(hu:PO X hi th):PE X (.Subscript e (.Slice lo hi none p2) pos) (tSl r te tl th):=by intro pins s Z H Q I h;refine Subscript_ (thn (he pins s Z H _ I h) λv s1 ⟨x,H1,U,r1,q1⟩=>?_);refine wpAny_Slice (thn (hl pins s1 Z H1 _ U q1) λB s2 ⟨l,M,W,pl,q2⟩=>thn (hu pins s2 Z M _ W q2) λG g ⟨u,L,I3,pu,q3⟩=>?_);rw[Kc];refine Ab ?_;have I4:Inv X pins Z L { g with heap:=g.heap.push { cls:=.type "slice",data:=.fields #[B,G,.none] } }:=I3.kept (t':=g.toks) λb ob q=>Ae _ q;obtain⟨T,id,hT,ht,hg⟩:=hr pins { g with heap:=g.heap.push { cls:=.type "slice",data:=.fields #[B,G,.none] } } Z L x v B G l u g.heap.objs.size Q I4 r1 (Ls ..) pl pu q3;show Am (A4 X.prog X.w) X.A (Kd e (.Slice lo hi none p2) v (.ref g.heap.objs.size)) (EP X pins Z Q) X.xe { g with heap:=g.heap.push { cls:=.type "slice",data:=.fields #[B,G,.none] } };exact tail_any (ops:=[.ref g.heap.objs.size,v]) ht hT hg (by with_unfolding_all rfl)
noncomputable def rF(xs:List V)(lo hi:Option Int):List V:=(xs.drop (HT.sIx xs.length 0 lo)).take (HT.sIx xs.length xs.length hi-HT.sIx xs.length 0 lo)
theorem jF(xs:List V)(lo hi:Option Int):(rF xs lo hi).length<=xs.length:=by unfold rF;rw[Bo,BC];omega
noncomputable def zX(K:A1):V->Option Int->Option Int->Hp->VK->Prop:=λx lo hi H Q=>∃a xs,x=.ref a/\SqT K H a xs /\
 ¬ (HT.sIx xs.length 0 lo=0/\HT.sIx xs.length xs.length hi=xs.length)/\∀p,H p=none->Q (.ref p) (upd H p (.tup (rF xs lo hi)))
theorem aEy:SlR X (zX X.K):=by
 intro pins s Z H x v vl vu lo hi sl Q I rx hs W pu h;obtain⟨a,xs,rfl,U,M,q⟩:=h;cases rx;obtain⟨B,r,G,L⟩:=I.tuple U;have g:B.toArray.size=xs.length:=by rw[Aj];exact r.length.symm
 refine⟨"tuple",_,Bl.lookup,G.typeIs,?_⟩;refine HT.getItem_tuple_cut G hs W pu (by rw[g];exact M) ?_ (by rw[g];exact L);rw[g];refine⟨.ref s.heap.objs.size,_,I.laid (t':=s.toks) (o:=.tup (rF xs lo hi)) (λb ob q=>Ae _ q) (Ak _) ?_,rfl,q _ (I.hok.fresh (Ak _))⟩;exact⟨A2 (jF xs lo hi) L,_,(r.drop (HT.sIx xs.length 0 lo)).take (HT.sIx xs.length xs.length hi-HT.sIx xs.length 0 lo),Ks _ _⟩
noncomputable def aJo(K:A1):R2:=λx y H Q=>∃a b ns ms,x=.ref a/\y=.ref b/\SqT K H a (ns.map V.int)/\SqT K H b (ms.map V.int)/\Q (.bl (HT.lexLt ns ms)) H
theorem aEz(U:X.A.units<Co):OpR X (BU .Lt) (aJo X.K):=by intro pins s Z H x y v u Q I rx ry h;obtain⟨a,b,ns,G,rfl,rfl,L,M,q⟩:=h;cases rx;cases ry;obtain⟨B,r1,W,_⟩:=I.tuple L;obtain⟨g,r2,p2,_⟩:=I.tuple M;have i1:Cw B.toArray.toList ns:=eG r1;have i2:Cw g.toArray.toList G:=eG r2;exact HT.lt_tupInts W p2 i1 i2 U ⟨.bl (HT.lexLt ns G),H,I,rfl,q⟩
noncomputable def aGS(K:A1):R2:=λx y H Q=>∃a b xs ys,x=.ref a/\y=.ref b/\SqT K H a xs/\SqT K H b ys/\xs≠[]/\xs.length+ys.length<=sizeLine /\
 (ys=[]->Q (.ref a) H)/\(ys≠[]->∀p,H p=none->Q (.ref p) (upd H p (.tup (xs++ys))))
theorem aH.nil_iff{xs:List V}{us:List Ad}(r:aH xs us):us=[]↔xs=[]:=by
 cases r with
 | nil=>simp|cons _ _=>simp
theorem aCi:OpR X (Cq .Add) (aGS X.K):=by intro pins s Z H x y v u Q I rx ry h;obtain⟨a,b,xs,ys,rfl,rfl,M,U,W,G,q1,q2⟩:=h;cases rx;cases ry;obtain⟨q0,B,p1,_⟩:=I.tuple M;obtain⟨L,g,p2,_⟩:=I.tuple U;refine HT.cat_tup p1 p2 (λz=>W (B.nil_iff.mp z)) (λz=>⟨.ref a,H,I,rfl,q1 (g.nil_iff.mp z)⟩) (λz=>?_) (by rw[<-B.length,<-g.length];exact G);refine⟨.ref s.heap.objs.size,_,I.laid (t':=s.toks) (o:=.tup (xs++ys)) (λb ob q=>Ae _ q) (Ak _) ?_,rfl,q2 (λw=>z (g.nil_iff.mpr w)) _ (I.hok.fresh (Ak _))⟩;exact⟨by rw[Dv];exact G,_,B.append g,Ks _ _⟩
end
noncomputable def ixN(n:Nat)(i:Int):Option Nat:=if 0<=i then (if i<n then some i.toNat else none) else if -(n:Int)<=i then some (i+n).toNat else none
noncomputable def atI{α:Type}(xs:List α)(i:Int):Option α:=(ixN xs.length i).bind λj=>xs[j]?
theorem aCj{n:Nat}{i:Int}{j:Nat}(h:ixN n i=some j):seqIndex? i n=some j/\j<n/\-(n:Int)<=i/\i<n:=by unfold ixN at h;by_cases h0:0<=i;rw[if_pos h0] at h;by_cases g:i<n;rw[if_pos g] at h;have e:i.toNat=j:=Av h;exact⟨by rw[KO h0 g,e],by omega,by omega,g⟩;rw[if_neg g] at h;cases h;rw[if_neg h0] at h;by_cases g:-(n:Int)<=i;rw[if_pos g] at h;have e:(i+n).toNat=j:=Av h;exact⟨by rw[Ky (by omega) g,e],by omega,g,by omega⟩;rw[if_neg g] at h;cases h
theorem oZ{α:Type}{xs:List α}{i:Int}{v:α}(h:atI xs i=some v):∃j,seqIndex? i xs.length=some j/\xs[j]? = some v/\j<xs.length/\-(xs.length:Int)<=i/\i<xs.length:=by
 unfold atI at h;cases e:ixN xs.length i with
 | none=>rw[e] at h;cases h|some j=>rw[e] at h;obtain⟨g,q,B,G⟩:=aCj e;exact⟨j,g,h,q,B,G⟩
noncomputable def vQ(b:A6):Prop:=∀o i,KP b false o i=operate [o,i] (Gu o i)
noncomputable def IxR(X:Cx)(r:R2):Prop:=
 ∀(value slice:A6) (pins:List (Addr×Obj)) (s:Ac) (Z:St) (H:Hp) (x y:V) (v u:Ad) (Q:VK),Inv X pins Z H s->aQ x v->aQ y u->r x y H Q ->
  KP slice false v u=operate [v,u] (Gu v u)->Am (A4 X.prog X.w) X.A (Kd value slice v u) (EP X pins Z Q) X.xe s
noncomputable def MtR(X:Cx)(id:String)(r:V->List V->Hp->VK->Prop):Prop:=
 ∀(pins:List (Addr×Obj)) (s:Ac) (Z:St) (H:Hp) (x:V) (xs:List V) (v:Ad) (us:List Ad) (Q:VK),Inv X pins Z H s->aQ x v->aH xs us->r x xs H Q ->
  Am (A4 X.prog X.w) X.A (call (.builtin id) (v::us)) (EP X pins Z Q) X.xe s
section
variable {X:Cx} {a b:A6} {ta tb:TE} {pos:Eg}
theorem IxR.or{r B:R2}(h:IxR X r)(h':IxR X B):IxR X (λx y H Q=>r x y H Q\/B x y H Q):=by intro value g pins s Z H x y v u Q I G L q hs;rcases q with q|q;exact h value g pins s Z H x y v u Q I G L q hs;exact h' value g pins s Z H x y v u Q I G L q hs
theorem aGT{r:R2}(M:IxR X r)(G:PE X a ta)(L:PE X b tb)(hs:vQ b):PE X (.Subscript a b pos) (tOp r ta tb):=by intro pins s Z H Q I h;exact Subscript_ (aGH G L I h λv u s2 x y g B U W q=>M a b pins s2 Z g x y v u Q B U W q (hs _ _))
noncomputable def aGU(K:A1):R2:=λx y H Q=>∃p xs i v,x=.ref p/\y=.int i/\SqL K H p xs/\atI xs i=some v/\Q v H
noncomputable def aGV(K:A1):R2:=λx y H Q=>∃p xs i v,x=.ref p/\y=.int i/\SqT K H p xs/\atI xs i=some v/\Q v H
noncomputable def aGW:R2:=λx y H Q=>∃z i c,x=.str z/\y=.int i/\z.length<=sizeLine/\atI z.cps.toList i=some c/\Q (.str ⟨#[c]⟩) H
theorem aCk:IxR X (aGU X.K):=by
 intro value W pins s Z H x y v u Q I rx ry h hs;obtain⟨p,xs,i,z,rfl,rfl,hq,he,q⟩:=h;cases rx;obtain⟨t,rfl⟩:=ry;obtain⟨L,r,M,hz⟩:=I.list hq;obtain⟨j,B,h2,h3,h4,h5⟩:=oZ he;obtain⟨w,ew,U⟩:=r.get h2;have hl:=r.length;have hn:=iN;have g:EP X pins Z Q w s:=⟨z,H,I,U,q⟩
 by_cases h0:0<=i;have G:i.toNat=j:=by rw[KO h0 h5] at B;exact Av B
 exact item_listR M.isList h0 (by omega) (by rw[G];simpa using ew) g hs;have G:(i+(L.toArray.size:Int)).toNat=j:=by rw[Ky (by omega) h4] at B;rw[Aj,<-hl];exact Av B
 exact Gv (x:=w) M.isList.typeIs Ih.lookup
  (wpAny_getItem_list_neg (Q:=λr s'=>r=w/\EP X pins Z Q r s') M.isList (by omega) (by rw[Aj] <;> omega) (by omega) (by rw[G];simpa using ew) ⟨rfl,g⟩) hs
theorem aEA:IxR X (aGV X.K):=by
 intro value G pins s Z H x y v u Q I rx ry h hs;obtain⟨p,xs,i,z,rfl,rfl,hq,he,q⟩:=h;cases rx;obtain⟨t,rfl⟩:=ry;obtain⟨q0,r,L,hz⟩:=I.tuple hq;obtain⟨j,U,W,h3,h4,h5⟩:=oZ he;obtain⟨w,M,B⟩:=r.get W;have hl:=r.length;have hn:=iN;have g:EP X pins Z Q w s:=⟨z,H,I,B,q⟩
 exact Gv (x:=w) L.typeIs slot_tuple_getitem.lookup
  (getItem_tuple (j:=j) (Q:=λr s'=>r=w/\EP X pins Z Q r s') L (by omega) (by omega) (by rw[Aj,<-hl];exact U) (by simpa using M) ⟨rfl,g⟩) hs
theorem aEB:IxR X aGW:=by
 intro value g pins s Z H x y v u Q I rx ry h hs;obtain⟨z,i,c,rfl,rfl,hz,he,q⟩:=h;obtain⟨t,rfl⟩:=rx;obtain⟨t',rfl⟩:=ry;obtain⟨j,B,M,h3,U,W⟩:=oZ he;have hl:z.cps.toList.length=z.length:=by simp[J8]
 rw[hl] at B U W;have hn:=iN;exact tail_any (typeIs_str s z t) IK.lookup (getItem_str (c:=c) (by
  have G:decide (i < -(2 ^ 63:Int))=false:=Ar (by omega);have L:decide (i ≥ 2 ^ 63)=false:=Ar (by omega);rw[G,L,Bool.or_false]) (by rw[B];simpa using M) ⟨.str ⟨#[c]⟩,H,I.tok _,⟨_,rfl⟩,q⟩) hs
noncomputable def rIx(K:A1):R2:=λx y H Q=>aGU K x y H Q\/aGV K x y H Q\/aGW x y H Q
theorem aEC:IxR X (rIx X.K):=aCk.or (aEA.or aEB)
theorem Inv.lst{pins:List (Addr×Obj)}{Z:St}{H:Hp}{s:Ac}{p:Addr}{xs:List V}(I:Inv X pins Z H s)(h:H p=some (.lst xs)) :
 ∃(g:List Ad) (n:Nat),aH xs g/\s.heap.get? p=some { cls:=.type "list",data:=.seq g.toArray n }/\xs.length<=sizeLine:=by obtain⟨z,g,n,r,e⟩:=I.hok p _ h;exact⟨g,n,r,e,z⟩
theorem pA(lo hi:Option Int)(n:Nat):(El lo hi none n).1=((HT.sIx n 0 lo:Nat):Int)/\(El lo hi none n).2.1=((HT.sIx n n hi:Nat):Int)/\(El lo hi none n).2.2=1:=by
 refine⟨?_,?_,rfl⟩;cases lo with
 | none=>simp[El,HT.sIx]|some i=>simp only[El,HT.sIx,EC,show(1:Int)>0 by decide,if_true];by_cases h:i<0;simp only[h,if_true] <;> omega;simp only[h,if_false] <;> omega
 cases hi with
 | none=>simp[El,HT.sIx]|some i=>simp only[El,HT.sIx,EC,show(1:Int)>0 by decide,if_true];by_cases h:i<0;simp only[h,if_true] <;> omega;simp only[h,if_false] <;> omega
theorem mZ(g:List Ad)(lo hi:Option Int):slicePick g.toArray lo hi none=((g.drop (HT.sIx g.length 0 lo)).take (HT.sIx g.length g.length hi-HT.sIx g.length 0 lo)).toArray:=by obtain⟨q,B,G⟩:=pA lo hi g.toArray.size;unfold slicePick;rw[q,B,G];simp only[sliceRange_one,pick_run,Aj] <;> rfl
noncomputable def zY(K:A1):V->Option Int->Option Int->Hp->VK->Prop:=λx lo hi H Q=>∃a xs,x=.ref a/\SqL K H a xs/\∀p,H p=none->Q (.ref p) (upd H p (.lst (rF xs lo hi)))
theorem aCl:SlR X (zY X.K):=by intro pins s Z H x v vl vu lo hi sl Q I rx hs U W h;obtain⟨a,xs,rfl,G,q⟩:=h;cases rx;obtain⟨M,r,B,L⟩:=I.list G;have g:=r.length;refine⟨"list",_,Ih.lookup,B.isList.typeIs,?_⟩;refine wpAny_getItem_list_slice B.isList hs U W .none (by simp) ?_ (by rw[Aj] <;> omega);rw[mZ,<-g];refine⟨.ref s.heap.objs.size,_,I.laid (t':=s.toks) (o:=.lst (rF xs lo hi)) (λb ob q=>Ae _ q) (Ak _) ?_,rfl,q _ (I.hok.fresh (Ak _))⟩;exact⟨A2 (jF xs lo hi) L,_,0,(r.drop (HT.sIx xs.length 0 lo)).take (HT.sIx xs.length xs.length hi-HT.sIx xs.length 0 lo),A7 _ rfl⟩
theorem pB:OpR X (BU .NotIn) (λx y H Q=>∃i j,x=.str i/\y=.str j/\Q (.bl (!(!(Dm j i 0 j.length 1).isEmpty))) H):=by intro pins s Z H x y v u Q I g B h;obtain⟨i,j,rfl,rfl,q⟩:=h;obtain⟨t,rfl⟩:=g;obtain⟨t',rfl⟩:=B;exact notIn_str ⟨.bl _,H,I,rfl,q⟩
theorem pC:gB X (.builtin "len") (λxs H Q=>∃p ys,xs=[.ref p]/\(SqL X.K H p ys\/SqT X.K H p ys)/\Q (.int ys.length) H):=by intro pins s Z H xs us Q I r h;obtain⟨p,ys,rfl,B,q⟩:=h;obtain⟨u,rfl,W⟩:=zQ r;cases W;have hn:=iN;rcases B with B|B;obtain⟨G,M,L,U⟩:=I.list B;have g:=M.length;exact Calls.call_len_list L.isList (by simp only[Aj] <;> omega) ⟨.int ys.length,H,I.tok _,⟨s.toks+1,by rw[Aj,g]⟩,q⟩;obtain⟨G,M,L,U⟩:=I.tuple B;have g:=M.length;exact len_tuple L (by simp only[Aj] <;> omega) ⟨.int ys.length,H,I.tok _,⟨s.toks+1,by rw[Aj,g]⟩,q⟩
theorem pD:gB X (.builtin "len") (λxs H Q=>∃z,xs=[.str z]/\z.length<=sizeLine/\Q (.int z.length) H):=by intro pins s Z H xs us Q I r h;obtain⟨z,rfl,B,q⟩:=h;obtain⟨u,rfl,t,rfl⟩:=zQ r;have g:=iN;exact len_str (by omega) ⟨.int z.length,H,I.tok _,⟨_,rfl⟩,q⟩
theorem gB.or{f:Ad}{r g:List V->Hp->VK->Prop}(h:gB X f r)(h':gB X f g):gB X f (λxs H Q=>r xs H Q\/g xs H Q):=by intro pins s Z H xs us Q I B q;rcases q with q|q;exact h pins s Z H xs us Q I B q;exact h' pins s Z H xs us Q I B q
theorem pE:gB X (.type "list") (λxs H Q=>∃p ys,xs=[.ref p]/\(SqL X.K H p ys\/SqT X.K H p ys)/\∀l,H l=none->Q (.ref l) (upd H l (.lst ys))):=by
 intro pins s Z H xs us Q I r h;obtain⟨p,ys,rfl,U,q⟩:=h;obtain⟨u,rfl,rx⟩:=zQ r;cases rx;have L:∀(g:List Ad),aH ys g->ys.length<=sizeLine->∀(h':Heap) (B:Nat),(∀b o',s.heap.get? b=some o'->h'.get? b=some o') ->
  h'.get? s.heap.objs.size=some { cls:=.type "list",dict:=none,data:=.seq g.toArray B,slots:=#[] }->EP X pins Z Q (.ref s.heap.objs.size) { s with heap:=h' }:=λg G W h' B kp e=>
  ⟨.ref s.heap.objs.size,_,I.laid (t':=s.toks) kp (Ak _) (show cW X.prog X.w _ h' _ (.lst ys) from⟨W,g,B,G,e⟩),rfl,q _ (I.hok.fresh (Ak _))⟩
 rcases U with U|U;obtain⟨g,G,pl,W⟩:=I.list U;have M:=G.length;obtain⟨o,ho,hc,n,hd⟩:=pl.isList;exact Ke p (.inl rfl) ho hc hd (λh' B kp e=>L g G W h' B kp e) (by simp only[Aj] <;> omega);obtain⟨g,G,pl,W⟩:=I.tuple U;have M:=G.length;obtain⟨o,ho,hc,n,hd⟩:=pl;exact Ke p (.inr rfl) ho hc hd (λh' B kp e=>L g G W h' B kp e) (by simp only[Aj] <;> omega)
noncomputable def tyV(K:A1)(T:String)(x:V)(H:Hp):Prop:=match x with
 | .str _=>T = "str"|.int _=>T = "int"|.ref p=>(T = "list" /\ ∃xs,SqL K H p xs)\/(T = "tuple" /\ ∃o,K.lookup p=some o/\o.cls=.type "tuple" /\ o.dict=none) \/
  (T = "dict" /\ ((∃kvs,H p=some (.dK kvs))\/∃kvs,H p=some (.dT kvs)))\/(T = "set" /\ ∃S n,H p=some (.set S n))
 | _=>False
theorem zZ{pins:List (Addr×Obj)}{Z:St}{H:Hp}{s:Ac}{T:String}{x:V}{v:Ad}(I:Inv X pins Z H s)(r:aQ x v)(ty:tyV X.K T x H) :
 s.TypeIs v T/\∀a,v=.ref a->∃ob,s.heap.get? a=some ob/\ob.dict=none:=by
 cases x with
 | str z=>obtain⟨t,rfl⟩:=r;cases(show T = "str" from ty);exact⟨typeIs_str s z t,λ_ e=>nomatch e⟩|int i=>obtain⟨t,rfl⟩:=r;cases(show T = "int" from ty);exact⟨Gw s i t,λ_ e=>nomatch e⟩|ref p=>
  cases r;rcases ty with⟨rfl,xs,L⟩|⟨rfl,o,g,G,hd⟩|⟨rfl,g⟩|⟨rfl,S,n,g⟩
  obtain⟨M,_,B,_⟩:=I.list L;refine⟨B.isList.typeIs,λa e=>?_⟩;cases e;obtain⟨o,n,e,c,hd,_⟩:=B;exact⟨o,e,hd⟩;refine⟨⟨o,I.kIn p o g,G⟩,λa e=>?_⟩;cases e;exact⟨o,I.kIn _ o g,hd⟩;have z:∃o,s.heap.get? p=some o/\o.ExactDict:=by
   rcases g with⟨kvs,g⟩|⟨kvs,g⟩
   obtain⟨_,_,_,_,o,_,_,e,ex,_⟩:=I.hok p _ g;exact⟨o,e,ex⟩;obtain⟨_,_,_,_,o,_,_,e,ex,_⟩:=I.hok p _ g;exact⟨o,e,ex⟩
  obtain⟨o,e,ex⟩:=z;refine⟨⟨o,e,ex.1⟩,λa q=>?_⟩;cases q;exact⟨o,e,ex.2.1⟩;obtain⟨o,_,_,_,e,ex,_⟩:=I.hok p _ g;refine⟨⟨o,e,ex.1⟩,λa q=>?_⟩;cases q;exact⟨o,e,ex.2.1⟩
 | _=>exact Dt ty
noncomputable def aJp(K:A1)(T:String)(r:V->List V->Hp->VK->Prop)(to:TE):TE:=λZ H Q=>to Z H λx H1=>tyV K T x H1/\r x [] H1 Q
noncomputable def tBM(K:A1)(T:String)(r:V->List V->Hp->VK->Prop)(to:TE)(t:TA):TE:=λZ H Q=>to Z H λx H1=>tyV K T x H1/\t Z H1 λxs H2=>r x xs H2 Q
variable {o e:A6} {es:List A6} {to:TE} {t:TA} {name:Str} {apos cpos:Eg} {T id:String} {r:V->List V->Hp->VK->Prop}
theorem aED(pa:PlainAttrs T)(slot:Slot T name id)(B:typeOf (.builtin id)=pure (.type "method_descriptor"))(W:MtR X id r)(ho:PE X o to)
 (g:Kf o name X.env (Ed o X.env)=Ed o X.env:=by rfl) (q:(apos.endLine==cpos.line)=true:=by rfl):PE X (.Call (.Attribute o name apos) [] [] cpos) (aJp X.K T r to):=by intro pins s Z H Q I h;refine wpAny_Call_method0_late g q (thn (ho pins s Z H _ I h) λv s1 ⟨x,H1,G,L,ty,q1⟩=>?_);obtain⟨M,U⟩:=zZ G L ty;exact⟨T,id,pa,slot,B,M,U,Gx rfl (PySem.evalArgs_none (W pins s1 Z H1 x [] v [] Q G L .nil q1))⟩
theorem aDA(pa:PlainAttrs T)(slot:Slot T name id)(L:typeOf (.builtin id)=pure (.type "method_descriptor"))(hm:MtR X id r)(ho:PE X o to)(ha:PA X (e::es) t)
 (q:Kf o name X.env (Ed o X.env)=Ed o X.env:=by rfl)
 (G:((DZ cpos (Bd (e::es) X.env)).all (λx=>!x.1)&&(backToKw cpos (keywordEach [] X.env)).all (λx=>x.1.isSome)
  && decide ((e::es).length+([]:List L5).length+(if ([]:List L5).isEmpty then 0 else 1)<30))=true:=by rfl)
 (B:(apos.endLine==cpos.line)=true:=by rfl) (hs:Bd (e::es) X.env=(false,Ed e X.env)::Bd es X.env:=by rfl) (g:(DZ cpos (Bd es X.env)).any (·.1)=false:=by rfl) :
 PE X (.Call (.Attribute o name apos) (e::es) [] cpos) (tBM X.K T r to t):=by intro pins s Z H Q I h;refine wpAny_Call_method_late q G B rfl (thn (ho pins s Z H _ I h) λv s1 ⟨x,H1,M,W,ty,q1⟩=>?_);obtain⟨h1,h2⟩:=zZ M W ty;refine⟨T,id,pa,slot,L,h1,h2,?_⟩;have U:=ha cpos pins s1 Z H1 _ M q1;rw[hs] at U ⊢;refine Gx (by show(false||(DZ cpos (Bd es X.env)).any (·.1))=false;rw[g] <;> rfl) (Calls.evalArgs_plain ?_);exact thn U λus s2 ⟨vs,H2,I2,r2,q2⟩=>hm pins s2 Z H2 x vs v us Q I2 W r2 q2
end
noncomputable def MtM(X:Cx)(id:String)(r:V->List V->Hp->VK->Prop):Prop:=
 ∀(pins:List (Addr×Obj)) (s:Ac) (Z:St) (H:Hp) (x:V) (xs:List V) (v:Ad) (us:List Ad) (Q:VK),Inv X pins Z H s->aQ x v->aH xs us->r x xs H Q ->
  Am (A4 X.prog X.w) X.A (call (.builtin id) (v::us)) (EP X pins Z Q) X.xe s
theorem aH.one:∀{x:V} {us:List Ad},aH [x] us->∃u,us=[u]/\aQ x u:=by intro x us h;cases h with|cons r t=>cases t;exact⟨_,rfl,r⟩
theorem aH.zero:∀{us:List Ad},aH [] us->us=[]
 | _,.nil=>rfl
theorem aH.dropLast{xs:List V}{us:List Ad}(h:aH xs us):aH xs.dropLast us.dropLast:=by
 induction h with
 | nil=>exact .nil|cons r t g=>
  cases t with
  | nil=>exact .nil|cons q t'=>exact .cons r g
theorem aH.eraseIdx:∀{xs:List V} {us:List Ad} (i:Nat),aH xs us->aH (xs.eraseIdx i) (us.eraseIdx i)
 | _,_,_,.nil=>.nil|_,_,0,.cons _ t=>t|_,_,i+1,.cons r t=>.cons r (aH.eraseIdx i t)
theorem aH.reverse{xs:List V}{us:List Ad}(h:aH xs us):aH xs.reverse us.reverse:=by
 induction h with
 | nil=>exact .nil|cons r t g=>rw[Et,Et];exact aH.append g (.cons r .nil)
theorem aH.rep{xs:List V}{us:List Ad}(h:aH xs us):∀k:Nat,aH (An k xs).flatten (An k us).flatten
 | 0=>.nil|k+1=>by rw[Bz,Bz,CV,CV];exact aH.append h (aH.rep h k)
theorem kP{α:Type}(l:List α):l.eraseIdx (l.length-1)=l.dropLast:=by
 induction l with
 | nil=>rfl|cons a r g=>
  cases r with
  | nil=>rfl|cons b r=>
   have e:(a::b::r).length-1=((b::r).length-1)+1:=by have q:(a::b::r).length=r.length+2:=rfl;have B:(b::r).length=r.length+1:=rfl;omega
   rw[e,List.eraseIdx_cons_succ,g]
   all_goals rfl
theorem iO(g:List Ad):∀(k:Nat) (acc:List Ad),
 HE (λB G=>B++G) acc.toArray (An k g.toArray)=(acc++(An k g).flatten).toArray
 | 0,acc=>by simp|k+1,acc=>by
  have e:acc.toArray++g.toArray=(acc++g).toArray:=by simp
  have q:(acc++g)++(An k g).flatten=acc++(An (k+1) g).flatten:=by rw[Bz,CV,AG]
  rw[<-q,<-iO g k (acc++g),<-e,Bz,C3]
section
variable {X:Cx} {pins:List (Addr×Obj)} {Z:St} {H:Hp} {s:Ac} {l b:Addr} {xs ys zs:List V}
theorem Inv.lset{g its':List Ad}{n:Nat}{f:Array Ad->Array Ad}{t':Nat}(I:Inv X pins Z H s)(B:H l=some (.lst xs))
 (e:s.heap.get? l=some { cls:=.type "list",data:=.seq g.toArray n }) (L:f g.toArray=its'.toArray) (U:aH ys its') (W:ys.length<=sizeLine) :
 Inv X pins Z (upd H l (.lst ys)) { s with heap:=s.heap.update l (Cb f),toks:=t' }:=by have q:=IL e f;rw[L] at q;refine I.write (x:=l) (e:=l) (by rw[B];exact trivial) (.inl rfl) (λb' u G M=>(Eu s.heap (Cb f) (DR G)).trans M) ⟨_,q⟩ ?_;exact⟨W,its',_,U,q⟩
theorem Inv.lnew{g:List Ad}{t':Nat}(I:Inv X pins Z H s)(B:aH ys g)(G:ys.length<=sizeLine) :
 Inv X pins Z (upd H s.heap.objs.size (.lst ys)) { s with heap:=s.heap.push { cls:=.type "list",data:=.seq g.toArray },toks:=t' }:=
 I.laid (λ_ _ q=>Ae _ q) (Ak _) ⟨G,g,0,B,A7 _ rfl⟩
theorem Inv.fresh(I:Inv X pins Z H s):H s.heap.objs.size=none:=I.hok.fresh (Ak _)
theorem Inv.lstM(I:Inv X pins Z H s)(q:H l=some (.lst xs)):xs.length<=sizeLine/\∃(g:List Ad) (n:Nat),aH xs g/\xs.length=g.length/\s.heap.get? l=some { cls:=.type "list",data:=.seq g.toArray n }:=by obtain⟨z,g,n,r,e⟩:=I.hok l _ q;exact⟨z,g,n,r,r.length,e⟩
theorem rG{n:Nat}(h:n<=sizeLine):Df n=false:=by unfold Df;exact Ar (by omega)
end
section
variable {X:Cx}
noncomputable def aCm:V->List V->Hp->VK->Prop:=λx vs H Q=>∃l xs y,x=.ref l/\vs=[y]/\H l=some (.lst xs)/\xs.length<sizeLine/\Q .non (upd H l (.lst (xs++[y])))
theorem yB:MtM X "list.append" aCm:=by intro pins s Z H x vs v us Q I L rv h;obtain⟨l,xs,y,rfl,rfl,B,U,q⟩:=h;cases L;obtain⟨u,rfl,G⟩:=rv.one;obtain⟨z,g,n,r,M,e⟩:=I.lstM B;refine DF HF ⟨_,e,rfl⟩ Hl (GX _ _) (Ii l g.toArray n u (by rw[Aj];omega)) ⟨e,?_⟩;refine⟨.non,_,I.lset (its':=g++[u]) B e (by simp) (r.append (.cons G .nil)) ?_,rfl,q⟩;rw[Dv,GM];omega
noncomputable def aCn:V->List V->Hp->VK->Prop:=λx vs H Q=>∃l b xs zs,x=.ref l/\vs=[.ref b]/\H l=some (.lst xs)/\H b=some (.lst zs)/\xs.length+zs.length<=sizeLine/\Q .non (upd H l (.lst (xs++zs)))
theorem yC:MtM X "list.extend" aCn:=by
 intro pins s Z H x vs v us Q I rx rv h;obtain⟨l,b,xs,zs,rfl,rfl,L,U,hz,q⟩:=h;cases rx;obtain⟨u,rfl,ru⟩:=rv.one;cases ru;obtain⟨z,B,n,r,hl,e⟩:=I.lstM L;obtain⟨z2,g,n2,r2,W,M⟩:=I.lstM U;have hsz:B.toArray.size+g.toArray.size<=sizeLine:=by rw[Aj,Aj];omega
 have G:¬ (!B.toArray.isEmpty&&Df (B.toArray.size+g.toArray.size))=true:=by rw[rG hsz,Bool.and_false];exact CC
 refine DF F.slot_list_extend ⟨_,e,rfl⟩ F.entry_list_extend (F.args_list_extend_2 _ _)
  (Ij l B.toArray n b g.toArray n2 G (by rw[Aj];omega) (by omega)) ⟨e,M,?_⟩
 refine⟨.non,_,I.lset (its':=B++g) L e (by simp) (r.append r2) ?_,rfl,q⟩;rw[Dv];omega
noncomputable def aJq:V->List V->Hp->VK->Prop:=λx vs H Q=>∃l xs y,x=.ref l/\vs=[]/\H l=some (.lst xs)/\xs[xs.length-1]? = some y/\Q y (upd H l (.lst xs.dropLast))
theorem aEE:MtM X "list.pop" aJq:=by
 intro pins s Z H x vs v us Q I rx rv h;obtain⟨l,xs,y,rfl,rfl,L,W,q⟩:=h;cases rx;have B:=rv.zero;subst B;obtain⟨z,g,n,r,M,e⟩:=I.lstM L;obtain⟨u,U,ru⟩:=r.get W;have G:g.toArray[g.toArray.size-1]? = some u:=by show g.toArray[g.length-1]? = some u;rw[<-AT,<-M];exact U
 refine DF F.slot_list_pop ⟨_,e,rfl⟩ F.entry_list_pop (F.args_list_pop_1 _) (Kz l g.toArray n u G (by rw[Aj];omega)) ⟨e,?_⟩;refine⟨y,_,I.lset (its':=g.dropLast) L e ?_ r.dropLast ?_,ru,q⟩;show g.toArray.eraseIdxIfInBounds (g.toArray.size-1)=g.dropLast.toArray;rw[Aj,List.eraseIdxIfInBounds_toArray,kP];rw[List.length_dropLast];omega
noncomputable def aJr:R2:=λx y H Q=>∃l k xs,x=.ref l/\y=.int k/\H l=some (.lst xs)/\-(2 ^ 63)<=k/\k<2 ^ 63/\xs.length*k.toNat<=sizeLine /\
 ∀p,H p=none->Q (.ref p) (upd H p (.lst (An k.toNat xs).flatten))
theorem pF{α:Type}(xs:List α)(k:Nat):(An k xs).flatten.length=k*xs.length:=by
 induction k with
 | zero=>simp|succ k g=>rw[Bz,CV,Dv,g,Ik,Nat.add_comm]
theorem aEF:OpR X (Cq .Mult) aJr:=by
 intro pins s Z H x y v u Q I rx ry h;obtain⟨l,k,xs,rfl,rfl,hH,h1,h2,hz,q⟩:=h;cases rx;obtain⟨t,rfl⟩:=ry;obtain⟨z,g,n,r,hl,e⟩:=I.lstM hH;have M:g.toArray.size*k.toNat<=sizeLine:=by rw[Aj,<-hl];exact hz
 have G:¬ g.toArray.size*k.toNat>(2 ^ 63-1) / 8:=by
  have:(sizeLine:Nat)<=(2 ^ 63-1) / 8:=by decide
  omega
 have L:¬ (!J9 k)=true:=by rw[fitsIndex_both h1 h2];exact CC
 have B:¬ Df (g.toArray.size*k.toNat)=true:=by rw[rG M];exact CC
 have W:HE (λx1 x2=>x1++x2) #[] (An (if g.toArray.isEmpty=true then 0 else k.toNat) g.toArray)=(An k.toNat g).flatten.toArray:=by
  have f0:∀m:Nat,HE (λx1 x2=>x1++x2) #[] (An m g.toArray)=(An m g).flatten.toArray:=λm=>by have:=iO g m [];rw[Dz] at this;exact this
  rw[f0];cases g with
  | nil=>simp|cons a r'=>rw[if_neg (by simp)]
 refine FB (T:= "list") (U:= "int") (by decide) ⟨_,e,rfl⟩ (λs'=>Gw s' k t) noFill_list_mul Jk EV repeat_list IM.lookup
  (DF EV (Gw s k t) IN (Il _ _) (int___rmul___int_list k t l g.toArray n)
   ⟨e,rfl,⟨_,e,rfl⟩,DF F.slot_list_mul ⟨_,e,rfl⟩ F.entry_list_mul (F.args_list_mul_2 _ _) (Ia l g.toArray n k t L G B) ⟨e,?_⟩⟩)
 rw[W];exact⟨.ref _,_,I.lnew (t':=s.toks) (r.rep k.toNat) (by rw[pF,Im];exact hz),rfl,q _ I.fresh⟩
end
end L2
namespace Att
open PySem PySem.W PySem.Calls PyProof.Rows
theorem jN{P:JA}{h:Heap}:∀(ns:List Int) (vs:List Ad),WellAll P h vs (ns.map LI)->Cw vs ns:=by
 intro ns
 induction ns with
 | nil=>intro vs w;rw[Kx] at w;cases w;exact .nil|cons n ns g=>
  intro vs w;rw[Kb] at w;cases w with
  | cons a b=>cases a;exact .cons _ _ (g _ b)
theorem yD{l:L6}{n:Nat}(hn:l.most=some n){P:JA}{h:Heap}{args:List WData}{B:List Ad}
 (g:l.row.toRowW.claim.pre args=true) (W:WellAll P h B args) :
 ∃a vs ns,B=[Ay a]/\args=[WData.list (ns.map LI)]/\h.get? a=some { cls:=.type "list",data:=.seq vs.toArray }/\Cw vs ns/\ns.length<=n:=by
 have U:WShape.hasAll [] args [.list .int]=true:=(pre_splitW g).1;have hc:l.pre.holds [] { args:=args }=true:=(pre_splitW g).2;obtain⟨d,r,rfl,h1,h2⟩:=hasAllW_cons U;obtain rfl:=hasAllW_nil h2;obtain⟨xs,rfl,h3⟩:=hasW_list h1;obtain⟨ns,rfl⟩:=items_int h3;have I:ns.length<=n:=by
  unfold OpenLaw.pre at hc;have L:(WTm.not (.lt (.lit (.int (n:Int))) (.len (.arg 0)))).holds [] { args:=[.list (ns.map .int)] }=true:=by have L:=(holds_andW hc).1;rw[hn] at L;exact L
  have M:=condW_of L (w_not (w_lt w_lit (w_len_list (w_arg rfl))));rw[GF] at M;refine Gf λq=>?_;have q':(n:Int)<((ns.length:Nat):Int):=by omega
  first
   | (rw[Aw q'] at M;exact absurd M (by decide))
   | (simp at M;omega)
 cases W with
 | cons w1 w2=>
  cases w2;cases w1 with
  | list ho G=>exact⟨_,_,ns,rfl,rfl,ho,jN ns _ G,I⟩
theorem yE(l:L6)(args:List WData):l.row.toRowW.claim.post args (.bool true) args=true:=
 postW_of (r:=l.row.toRowW) (X:=(true==true))
  (show Lu [] (.bool true) .bool=true by first|rfl|decide|simp[Lu,WShape.arms,WShape.armsAll])
  (show(WTm.eq .res (.lit (.bool true))).value [] { args:=args,res:=some (.bool true),after:=args }=some (.bool (true==true)) from w_eq_bool (w_res rfl) w_lit) rfl
theorem attach_call{l:L6}{n:Nat}{q:A0}{B:List Str}{XP:(Str->Option Ad)->Heap->Prop}{YP:AR->Heap->Prop}{d:DefRec}
 (hn:l.most=some n) (q1:d.params.defaults=[])
 (call:∀(w:AR) (s₀ g:Ac) (mg mb:Str->Option Ad) (fa:Addr) (o:Obj) (pm W doc:Ad) (a:Addr) (vs:List Ad) (ns:List Int),
  Ground q B [] XP w s₀ mg mb g.heap->YP w g.heap ->
  g.heap.get? fa=some o->o.data=.func (docDef d.name d.params d.body d.scope pm W doc)->g.heap.CodeRec W d.name->mg d.name=some (.ref fa) ->
  g.heap.get? a=some { cls:=.type "list",data:=.seq vs.toArray }->Cw vs ns->ns.length<=n->g.gens=#[] ->
  EJ (A4 l.prog w) Gy (.call (.ref fa) ⟨[.ref a],[]⟩) (λr s'=>r=.ok (.ret (.bool true))/\OldK g.heap s'.heap/\s'.os=g.os/\FH s'.gens) g) :
 WalkO q B XP YP l.row.toRowW d [] (λf vs=>Gz f vs):=by intro w s₀ g mg mb G Y fa o pm W doc dV kV ho hd q0 hD q2 hg args q5 as U q4 q7 q3 q6;obtain rfl:dV=.none:=Dflts.none hD q1;obtain rfl:kV=.none:=Dflts.noKw hD;obtain⟨a,vs,ns,rfl,rfl,M,I,L⟩:=yD hn U q3;refine enter_call (Fj (call w s₀ g mg mb fa o pm W doc a vs ns G Y ho (fd_plain hd) q0 q2 M I L hg) λr s' hq=>?_);obtain⟨rfl,h2,h3,h4⟩:=hq;exact⟨.inl ⟨.bool true,.bool true,[],rfl,λ_=>rfl,.bool true,yE l _,λ_=>⟨Cc,λ_ hm=>(nomatch hm)⟩⟩,h2,h3,h4⟩
end Att
namespace L2
open PySem PySem.Spec PyProof.Rows
theorem nN:∀{vs:List Ad} {ns:List Int},Cw vs ns->aH (ns.map V.int) vs
 | _,_,.nil=>.nil|_,_,.cons n t h=>.cons ⟨t,rfl⟩ (nN h)
noncomputable def aCo(H:Hp):Prop:=∀b,H b=none\/∃o xs,H b=some (.frz o (.lst xs))
theorem aAa{P:A0}{w:AR}{K:A1}{mg mb:Str->Option Ad}{CX:CXT}{k:Nat}{fa a:Addr}{fd:DC}{x:Str}{sp:Sp}{g:Ac}{vs:List Ad}{ns:List Int}
 (KX:K.In g.heap) (q1:g.heap.Ns Bx mg) (G:g.heap.Ns HC mb) (q5:∀x:Str,x ≠ "__name__" -> mb x=C9 x) (q0:g.heap.NoLimit) (hg:g.gens=#[])
 (ha:g.heap.get? a=some { cls:=.type "list",data:=.seq vs.toArray }) (hi:Cw vs ns) (hl:ns.length<=sizeLine) (hr:gF k Gy)
 (F:∀base:Heap,K.In base->base.Ns Bx mg->jM P w K mg base CX k fa fd [x] sp) (U:∀(s:Ac) (u:Ad),Kw s fd ⟨[u],[]⟩ [(x,u)])
 (q6:∀H:Hp,aCo H->SqL K H a (ns.map V.int)->sp [.ref a] H (λv _=>v=.bl true) λ_ _ _=>False)
 (q4:∀H e I,CX [] H g (λ_ _ _=>False) e I->False) :
 EJ (A4 P w) Gy (.call (.ref fa) ⟨[.ref a],[]⟩) (λr I=>r=.ok (.ret (.bool true))/\OldK g.heap I.heap/\I.os=g.os/\FH I.gens) g:=by
 have rv:=nN hi;have q3:=hi.length;have M:∀H:Hp,aCo H->SqL K H a (ns.map V.int)->HOk P w H g.heap->(∀b,H b≠none->b=a)->(H a≠none->K.lookup a=none) ->
  EJ (A4 P w) Gy (.call (.ref fa) ⟨[.ref a],[]⟩) (λr I=>r=.ok (.ret (.bool true))/\OldK g.heap I.heap/\I.os=g.os/\FH I.gens) g:=by
  intro H hO hS hok hA hK;have B:∀{b:Addr} {o:Obj},g.heap.get? b=some o->H b=none->(oT g.heap H).get? b=some o:=λe n=>zG e n;have q7:∀{b:Addr} {o:Obj} {es:Array Cz} {ep:Nat},g.heap.get? b=some o->o.data=.dict es ep->H b=none:=λ{b o es ep} e d=>by
   cases q:H b with
   | none=>rfl|some u=>have e':b=a:=hA b (by rw[q];simp);subst e';rw[ha] at e;cases e;have d':Data.seq vs.toArray _=Data.dict es ep:=d;cases d'
  have L:∀{b:Addr} {m:Str->Option Ad},g.heap.Ns b m->(oT g.heap H).Ns b m:=λ{b m} ⟨o,es,ep,e,d,r⟩=>⟨o,es,ep,B e (q7 e d),d,r⟩
  have W:K.In (oT g.heap H):=λb o e=>B (KX b o e) (by
   cases q:H b with
   | none=>rfl|some u=>
    have e':b=a:=hA b (by rw[q];simp);subst e';rw[hK (by rw[q];simp)] at e;cases e)
  have hM:Mod K mg (oT g.heap H):=⟨W,L q1,⟨mb,L G,q5⟩,let ⟨mc,h1,h2⟩:=q0;⟨mc,L h1,h2⟩⟩
  have e0:aCd P w K mg (oT g.heap H) Gy [] g H:=⟨rfl,hM,λb o e=>aBP e,Io (xS _ _),trivial,λb G=>absurd (show b∈([]:List Addr) from G) (by simp),hok,.of_eq hg⟩
  refine Fj ((F _ W (L q1)).run Gy [] g H ⟨[.ref a],[]⟩ [.ref a] [.ref a] _ _ hr e0 (U g (.ref a)) (.cons rfl .nil) (q6 H hO hS)) λr I h=>?_;cases r with
  | error e=>exact(q4 H e I h).elim|ok fl=>
   cases fl with
   | next=>exact Dt h|brk=>exact Dt h|cont=>exact Dt h|ret u=>
    obtain⟨v,H',os,bare,un,q2,r',q⟩:=h;have q':v=.bl true:=q;subst q';obtain rfl:u=Fp true:=r';refine⟨rfl,OldK.of_keep λb o e=>?_,os,bare⟩;cases q:H b with
    | none=>exact un.keep b o e q (by intro z;exact absurd (show b∈([]:List Addr) from z) (by simp)) (by simp)|some u=>
     rcases hO b with z|⟨ob,xs,z⟩
     rw[q] at z;cases z;have z2:=un.frzs b ob _ z;obtain⟨e1,_⟩:=hok b _ z;obtain⟨e2,_⟩:=q2 b _ z2;rw[e] at e1;cases e1;exact e2
 cases hk:K.lookup a with
 | some o=>have e:=KX a o hk;rw[ha] at e;cases e;refine M (λ_=>none) (λ_=>.inl rfl) (.inr ⟨_,vs.toArray,_,hk,rfl,rfl,rfl,by rw[Aj,q3];exact hl,by simpa using rv⟩) (λb u z=>by have z':(none:Option HO)=some u:=z;cases z') (λb z=>absurd rfl z) λz=>absurd rfl z|none=>refine M (λb=>if b=a then some (.frz { cls:=.type "list",data:=.seq vs.toArray } (.lst (ns.map V.int))) else none) (λb=>?_) (.inl (.inr ⟨{ cls:=.type "list",data:=.seq vs.toArray },if_pos rfl⟩)) (λb u z=>?_) (λb z=>?_) λ_=>hk;by_cases G:b=a;exact .inr ⟨_,_,if_pos G⟩;exact .inl (if_neg G);by_cases G:b=a;have z':=(if_pos G).symm.trans z;cases z';subst G;exact⟨ha,by rw[GF];exact hl,vs,_,rv,ha⟩;have z':=(if_neg G).symm.trans z;cases z';by_cases G:b=a;exact G;exact absurd (if_neg G) z
noncomputable def fN(s:CK):Hi:=match s with|.FunctionDef _ a _ _ _ _ _ _ _ _=>a|_=>{ posonlyargs:=[],args:=[],vararg:=none,kwonlyargs:=[],kw_defaults:=[],kwarg:=none,defaults:=[] }
noncomputable def fO(s:CK):List CK:=match s with|.FunctionDef _ _ b _ _ _ _ _ _ _=>b|_=>[]
noncomputable def aX(s:CK):DB:=match s with|.FunctionDef _ _ _ _ _ _ sc _ _ _=>sc|_=>{ kind:=.function,names:=[],isGenerator:=false,isCoroutine:=false }
abbrev CX0:CXT:=λ_ _ _ _ _ _=>False
abbrev E0:XK:=λ_ _ _=>False
theorem aDB{X:Cx}:oY CX0 X E0:=λ_ _ _ _ _ _ _ h=>h.elim
structure Fun (K:A1) (x qual:Str) (st:CK) (f:Addr) (fd:DC):Prop where
 ex:∃(oc:Ad) (od:Option Addr) (kV doc pm:Ad) (an:Option Addr) (cdv ct:Ad) (osl:Array (Option Ad)),
  fd=Gp x qual (fN st) (fO st) (aX st) .none kV doc pm an cdv ct/\K.lookup f=some ⟨oc,od,.func fd,osl⟩/\J6 K cdv qual=true
 kp:DD K (.ref f)=true
section
variable {P:A0} {w:AR} {K:A1} {mg:Str->Option Ad} {base:Heap}
theorem Fun.ok{x qual:Str}{st:CK}{f:Addr}{fd:DC}{N ps:List Str}{k:Nat}{sp:Sp}(F:Fun K x qual st f fd)(S:jV N ps (aX st))(len:∀vs H Q E,sp vs H Q E->vs.length=ps.length)
 (g:∀(cdv:Ad) (A:AJ) (outer:List JY) (s:Ac) (H:Hp) (vs:List V) (Q:VK) (E:XK),gF k (A.deeper (GV qual (aX st) s.heap.objs.size f cdv))->sp vs H Q E ->
  ∃t,PSs (uC CX0 P w K mg base N qual (aX st) f cdv A outer s H E).nox (fO st) t/\t { nx:=λ_ H'=>Q .non H',rt:=Q } (start N vs) H):jM P w K mg base CX0 (k+1) f fd ps sp:=by obtain⟨oc,od,kV,doc,pm,an,cdv,ct,osl,rfl,L,B⟩:=F.ex;refine aGQ L B S len λA outer s H vs Q E I G=>?_;obtain⟨t,h,q⟩:=g cdv A outer s H vs Q E I G;exact⟨t,h.nox,q⟩
theorem Fun.binds{x qual:Str}{st:CK}{f:Addr}{fd:DC}{ps:List Str}(F:Fun K x qual st f fd)
 (h:∀(kV doc pm:Ad) (an:Option Addr) (cdv ct:Ad) (us:List Ad),us.length=ps.length->J3 (Gp x qual (fN st) (fO st) (aX st) .none kV doc pm an cdv ct) ⟨us,[]⟩=pure (ps.zip us)):gC K fd ps []:=by obtain⟨oc,od,kV,doc,pm,an,cdv,ct,osl,rfl,q,g⟩:=F.ex;exact .all (h kV doc pm an cdv ct)
end
theorem aGX{A B:Prop}(h:B):if false=true then A else B:=by rw[if_neg CC];exact h
theorem aJs{A B:Prop}(h:A):if true=true then A else B:=by rw[if_pos rfl];exact h
noncomputable def aG(H H':Hp):Prop:=∀b o,H b=some o->H' b=some o
theorem aG.refl(H:Hp):aG H H:=λ_ _ h=>h
theorem aG.trans{H H1 g:Hp}(a:aG H H1)(b:aG H1 g):aG H g:=λc o h=>b c o (a c o h)
theorem aG.free{H H':Hp}(e:aG H H'){l:Addr}(h:H' l=KQ):H l=KQ:=by
 cases q:H l with
 | none=>rfl|some o=>rw[e l o q] at h;cases h
theorem aG.seq{K:A1}{H H':Hp}{a:Addr}{xs:List V}(e:aG H H')(h:SqL K H a xs):SqL K H' a xs:=by rcases h with(h|⟨o,h⟩)|h;exact .inl (.inl (e _ _ h));exact .inl (.inr ⟨o,e _ _ h⟩);exact .inr h
end L2
end
namespace L2
open PySem PySem.Spec PyProof.Rows
section
variable {prog:A0} {w:AR} {K:Type} [DecidableEq K] (knd:KR prog w K)
inductive aO (h:Heap):List K->List Ad->Prop
 | nil:aO h [] []
 | cons {k:K} {a:Addr} {ks:List K} {vs:List Ad}:knd.is h k a->aO h ks vs->aO h (k::ks) (.ref a::vs)
noncomputable def bT(h:Heap)(ks:List K)(a:Addr):Prop:=∃o its n,h.get? a=some o/\o.cls=.type "tuple" /\ o.data=.seq its n/\aO knd h ks its.toList
noncomputable def kQ(ks:List K):Int:=HG (BF (ks.map knd.hash))
noncomputable def iP(ks:List K):Nat:=(ks.map knd.draws).sum+1
variable {knd}
theorem aO.inj{h:Heap}:∀{x y:List K} {vs:List Ad},aO knd h x vs->aO knd h y vs->x=y
 | _,_,_,.nil,hy=>by cases hy;rfl|_,_,_,.cons h1 t,hy=>by
  cases hy with
  | cons g q=>rw[knd.inj h1 g,t.inj q]
theorem aO.keeps{h h':Heap}{d:Addr}{o:Obj}{es ep}(g:h.get? d=some o)(hd:o.data=.dict es ep)(hs:BA d h h'):∀{x:List K} {vs:List Ad},aO knd h x vs->aO knd h' x vs
 | _,_,.nil=>.nil|_,_,.cons h1 t=>.cons (knd.keeps h1 g hd hs) (t.keeps g hd hs)
theorem bT.typeIs{s:Ac}{ks:List K}{a:Addr}(x:bT knd s.heap ks a):s.TypeIs (.ref a) "tuple" := let ⟨o,_,_,ho,hc,_⟩:=x;⟨o,ho,hc⟩
variable {A:AJ} {E:Ad->Ac->Prop} {s:Ac}
theorem yF{ks:List K}{a:Addr}{Q:Int->Ac->Prop}(U:A.units<Co)(q:knd.room A.in1)(L:bT knd s.heap ks a)(h:Q (kQ knd ks) { s with toks:=s.toks+iP knd ks }):Am (A4 prog w) A (pyHash (.ref a)) Q E s:=by
 have T:=L.typeIs;obtain⟨o,W,n,M,_,hd,hi⟩:=L;unfold pyHash pyHashByItsType;refine Aa (wpAny_cRoomFor_or (.inr U) (Aa (C4 T Ev.lookup ?_)));rw[if_neg (by rw[beq_builtin_none];exact bN)];refine Aa (C4 T Ev.lookup ?_);refine Aa (m:=callSpecialIfBoundUnlessNone? (.ref a) "__hash__" _) (wpAny_callSpecialIfBoundUnlessNone?_slot T Ev (AZ Ev T F.entry_tuple_hash ?_ (F.args_tuple_hash_1 _)));refine Aa (m:=DE (.ref a)) (Fw M hd (Aa ?_));rw[<-BQ];refine Bv _ (λrest (b:Array Int) I=>∃done g,ks=done++g/\aO knd s.heap g rest/\b.toList=done.map knd.hash/\I={ s with toks:=s.toks+(done.map knd.draws).sum }) _ ?_ ?_ _ _ ⟨[],ks,rfl,hi,rfl,rfl⟩
 . rintro x rest b I ⟨done,g,rfl,G,B,rfl⟩;cases G with|@cons k _ ks' _ h1 hl'=>refine Aa (knd.pyHash (s:={ s with toks:=s.toks+(done.map knd.draws).sum }) q h1 ?_);exact Ab ⟨done++[k],ks',by simp,hl',by simp[B],by simp[EK]⟩
 . rintro b I ⟨done,g,rfl,G,B,rfl⟩;cases G;rw[Bg] at h;show Am _ _ (retInt (BF b.toList)) _ _ _;rw[B];refine wpAny_ret_mkInt ?_;show Am _ _ (if (decide (-(2:Int) ^ 63<=BF (done.map knd.hash))&&decide (BF (done.map knd.hash)<2 ^ 63))=true then _ else _) Q E _;unfold kQ HG iP at h;split;rename_i q;rw[if_pos q] at h;exact Ab (by simpa[EK] using h);rename_i q;rw[if_neg q] at h;exact Aa (CF (Ab (by simpa[EK] using h)))
theorem aAb{x y:List K}{a b:Addr}{P:Fin->Ac->Prop}(hr:knd.room A)(hx:bT knd s.heap x a)(hy:bT knd s.heap y b)(h:P (.done (.ret (.bool (decide (x=y))))) s):Am (A4 prog w) A (BL.«tuple.__eq__» ⟨[.ref a,.ref b],[]⟩) P E s:=by
 have Tb:=hy.typeIs;obtain⟨oa,xs,na,q5,_,q1,q3⟩:=hx;obtain⟨ob,ys,nb,q6,_,q2,q4⟩:=hy;refine Aa (m:=JB (.ref b) (.type "tuple")) (Bw Tb E8 ?_);simp only[B7,bF,if_false];refine Aa (Fw q5 q1 (Aa (Fw q6 q2 (Aa ?_))));refine Bv _ (λrest r W=>r.1=none/\W=s/\∃x' y' B G,rest=List.zip B G/\aO knd s.heap x' B/\aO knd s.heap y' G/\decide (x'=y')=decide (x=y)/\(B.length==G.length)=(xs.size==ys.size)) _ ?_ ?_ _ _ ⟨rfl,rfl,x,y,xs.toList,ys.toList,rfl,q3,q4,rfl,by simp⟩;rintro ⟨u,v⟩ rest r W ⟨_,rfl,x',y',B,G,M,L,I,g,q⟩;cases L with
 | nil=>simp at M|@cons k1 _ x'' xs'' h1 hx''=>
  cases I with
  | nil=>simp at M|@cons k2 _ y'' ys'' h2 hy''=>
   simp only[AY,LP,Ef] at M;obtain⟨⟨rfl,rfl⟩,rfl⟩:=M;refine Aa (knd.eqBool (x:=k1) (y:=k2) hr h1 h2 ?_);by_cases hk:k1=k2;subst hk;rw[Aw rfl];simp only[B7,bF,if_false];exact Ab ⟨rfl,rfl,x'',y'',xs'',ys'',rfl,hx'',hy'',by rw[<-g];simp,by simpa using q⟩;rw[Ar hk];simp only[Ew,if_true];have hf:decide (x=y)=false:=by rw[<-g];simp[hk]
   rw[hf] at h;exact Aa (Ab (Ab (Ab h)))
 rintro ⟨r1,r2⟩ W ⟨U,rfl,x',y',B,G,M,L,I,g,q⟩;simp only at U;subst U;have q0:(xs.size==ys.size)=decide (x=y):=by
  rw[<-g,<-q];cases L with
  | nil=>cases I <;> simp|cons _ _=>
   cases I with
   | nil=>simp|cons _ _=>simp at M
 refine Ab ?_;show P (.done (.ret (.bool (xs.size==ys.size)))) W;rw[q0];exact h
theorem bT.inj{h:Heap}{a:Addr}{x y:List K}(I:bT knd h x a)(L:bT knd h y a):x=y:=by obtain⟨o,M,n,G,_,hd,hi⟩:=I;obtain⟨o',its',U,q,_,g,B⟩:=L;rw[G] at q;cases q;rw[hd] at g;cases g;exact hi.inj B
theorem aCp{x y:List K}{a b:Addr}{Q:Bool->Ac->Prop}(I:A.units<Co)(G:knd.room A.in1)(q:bT knd s.heap x a)(B:bT knd s.heap y b)(h:Q (decide (x=y)) s):Am (A4 prog w) A (eqBool (.ref a) (.ref b)) Q E s:=by
 unfold eqBool
 try with_reducible refine AI ?_
 show Am _ _ (if (Ay a==Ay b)=true then _ else _) Q E s;by_cases g:(Ay a==Ay b)=true;have e:a=b:=by have:=eq_of_beq g;injection this
 subst e;rw[if_pos g,q.inj B] at *;exact Aa (CF (Ab (by simpa using h)));rw[if_neg g];exact Aa (wpAny_richCompare_same_room (op:=.Eq) q.typeIs B.typeIs EW
  (AZ EW q.typeIs F.entry_tuple_eq (aAb G q B ⟨_,rfl,(λe=>nomatch e),D7 h⟩) (F.args_tuple_eq_2 _ _)) I)
end
section
variable {prog:A0} {w:AR} {A:AJ} {E:Ad->Ac->Prop} {s:Ac}
theorem uF{K:Type}[DecidableEq K]{knd:KeyKind prog w K}{n:Nat}{ks:List K}{a:Addr}{Q:Bool->Ac->Prop}(I:G0 knd s.heap ks a)(h:Q true s):Am (A4 prog w) A (IP (n+1) (.ref a)) Q E s:=by have T:=I.typeIs;obtain⟨o,B,m,M,_,hd,hi⟩:=I;unfold IP;refine Aa (C4 T EW.lookup (Aa (m:=JB (.ref a) (.type "tuple")) (Bw T E8 ?_)));simp only[B7,bF,if_false];refine Aa (DG M hd (Aa (m:=forIn B _ _) ?_));rw[<-BQ];refine Bv _ (λrest r G=>r.1=none/\G=s/\∀v∈rest,DH v=true) _ ?_ ?_ _ _ ⟨rfl,rfl,hi.byValue⟩;rintro v rest r G ⟨_,rfl,g⟩;rw[eqIsQuiet_byValue _ (g v Ai)];refine Aa (Ab ?_);simp only[B7,bF,if_false];exact Ab ⟨rfl,rfl,λu q=>g u (Af _ q)⟩;rintro ⟨U,W⟩ G ⟨L,rfl,_⟩;simp only at L;subst L;exact Ab h
theorem uG{K:Type}[DecidableEq K]{knd:KeyKind prog w K}{ks:List (List K)}{a:Addr}{Q:Bool->Ac->Prop}(G:bT (B9 knd) s.heap ks a)(h:Q true s):Am (A4 prog w) A (IP 8 (.ref a)) Q E s:=by
 have T:=G.typeIs;obtain⟨o,q,m,U,_,hd,hi⟩:=G;unfold IP;refine Aa (C4 T EW.lookup (Aa (m:=JB (.ref a) (.type "tuple")) (Bw T E8 ?_)));simp only[B7,bF,if_false];refine Aa (DG U hd (Aa (m:=forIn q _ _) ?_));rw[<-BQ];refine Bv _ (λrest r B=>r.1=none/\B=s/\∃ks',aO (B9 knd) s.heap ks' rest) _ ?_ ?_ _ _ ⟨rfl,rfl,ks,hi⟩;rintro v rest r B ⟨_,rfl,ks',M⟩;cases M with
 | cons L g=>refine Aa (uF (n:=6) L ?_);simp only[B7,bF,if_false];exact Ab ⟨rfl,rfl,_,g⟩
 rintro ⟨W,r2⟩ B ⟨I,rfl,_⟩;simp only at I;subst I;exact Ab h
noncomputable def gP{K:Type}[DecidableEq K](knd:KeyKind prog w K):KR prog w (List (List K)) where
 is:=bT (B9 knd)
 hash:=kQ (B9 knd)
 draws:=iP (B9 knd)
 room:=λA=>A.units+8<Co
 inj:=λhx hy=>hx.inj hy
 keeps:=λ{h h' k a d o es ep} x ho hd hs=>by
  obtain⟨o',its,n,ho',hc,hd',hi⟩:=x;have hne:a≠d:=λe=>by subst e;rw[ho'] at ho;cases ho;rw[hd] at hd';cases hd'
  exact⟨o',its,n,(hs.2 a hne).trans ho',hc,hd',hi.keeps ho hd hs⟩
 pyHash:=λ{A E s k a Q} hu hk h=>yF (by omega) (show A.in1.units<Co by show A.units+1<Co;omega) hk h
 eqBool:=λ{A E s x y a b Q} hu hx hy h=>aCp (by omega) (show A.in1.units<Co by show A.units+1<Co;omega) hx hy h
 quiet:=λhk h=>uG hk h
end
abbrev NK:=List (List Int)
abbrev NE:=NK×Addr×V
abbrev pj(x:NE):NK×V:=(x.1,x.2.2)
noncomputable def gQ(x:NE)(e:NK×Addr×Ad):Prop:=e.1=x.1/\e.2.1=x.2.1/\aQ x.2.2 e.2.2
noncomputable def nkH(k:NK):Int:=HG (BF (k.map λk=>HG (BF (k.map Fh))))
noncomputable def aJt(x:NK×Addr×Ad):Cz:=⟨nkH x.1,.ref x.2.1,x.2.2⟩
noncomputable def aEG(a:Addr)(xs:List NE)(h:Heap):Prop:=
 (a==Dd)=false/\xs.length<=sizeLine/\∃o es ep vs,h.get? a=some o/\o.ExactDict/\o.data=.dict es ep/\es.toList=vs.map aJt/\Dc gQ xs vs/\(xs.map (·.1)).Nodup
abbrev cB(a:Addr)(xs:List NE):HO:=.ext (aEG a xs)
noncomputable def aY(K:A1)(H:Hp)(k:NK)(b:Addr):Prop:=∃bs:List Addr,SqT K H b (bs.map V.ref)/\Dc (λis c=>SqT K H c (is.map V.int)) k bs
section
variable {X:Cx} {pins:List (Addr×Obj)} {Z:St} {H:Hp} {s:Ac}
theorem aAc{is:List Int}:∀{us:List Ad},aH (is.map V.int) us->ItemsAre (BJ X.prog X.w) is us:=by
 induction is with
 | nil=>intro us h;rw[mN] at h;cases h;exact .nil|cons i is g=>
  intro us h;rw[mC] at h;cases h with
  | cons r t=>obtain⟨tk,e⟩:∃t,_=DQ i t:=r;subst e;exact .cons (intKind_is _ _ i tk) (g t)
theorem aCq(I:Inv X pins Z H s){c:Addr}{is:List Int}(h:SqT X.K H c (is.map V.int)):G0 (BJ X.prog X.w) s.heap is c:=by obtain⟨g,rv,⟨o,B,q,n,hd⟩,_⟩:=I.tuple h;exact⟨o,g.toArray,n,B,q,hd,by simpa using aAc rv⟩
theorem rH(I:Inv X pins Z H s):∀{k:NK} {bs:List Addr} {us:List Ad},Dc (λis c=>SqT X.K H c (is.map V.int)) k bs->aH (bs.map V.ref) us->aO (B9 (BJ X.prog X.w)) s.heap k us
 | _,_,us,.nil,r=>by rw[mN] at r;cases r;exact .nil|_,_,us,.cons h t,r=>by
  rw[mC] at r;cases r with
  | cons g q=>cases g;exact .cons (aCq I h) (rH I t q)
theorem fB(I:Inv X pins Z H s){k:NK}{b:Addr}(h:aY X.K H k b):bT (B9 (BJ X.prog X.w)) s.heap k b:=by obtain⟨bs,q,p⟩:=h;obtain⟨g,rv,⟨o,G,B,n,hd⟩,_⟩:=I.tuple q;exact⟨o,g.toArray,n,G,B,hd,by simpa using rH I p rv⟩
theorem fP:∀{xs:List NE} {vs:List (NK×Addr×Ad)},Dc gQ xs vs->vs.map (·.1)=xs.map (·.1)
 | _,_,.nil=>rfl|_,_,.cons h t=>by rw[mC,mC,fP t,h.1]
theorem rJ:∀{xs:List NE} {vs:List (NK×Addr×Ad)},Dc gQ xs vs->∀v∈vs,∃x∈xs,gQ x v
 | _,_,.nil,v,h=>by cases h|_,_,.cons h t,v,m=>by rcases Al.mp m with rfl|m;exact⟨_,Ai ..,h⟩;obtain⟨x,g,r⟩:=rJ t v m;exact⟨x,Af _ g,r⟩
theorem pG{k:NK}:∀{xs:List NE} {vs:List (NK×Addr×Ad)},Dc gQ xs vs->(atKey vs k).isSome=decide (k∈xs.map (·.1))
 | _,_,.nil=>rfl|x::xs,e::vs,.cons h t=>by
  have q:=pG (k:=k) t;unfold atKey at q ⊢;rw[GH];by_cases g:x.1=k;rw[show decide (e.1=k)=true from Aw (h.1.trans g)];subst g;simp;rw[show decide (e.1=k)=false from Ar (by rw[h.1];exact g)];simp only;rw[q];have e:(k∈(x::xs).map (·.1))↔k∈xs.map (·.1):=by simp[DR g]
  simp only[e]
theorem pH(I:Inv X pins Z H s){a:Addr}{xs:List NE}(e:H a=some (cB a xs))(hk:∀x∈xs,aY X.K H x.1 x.2.1):(a==Dd)=false/\xs.length<=sizeLine/\∃vs,Dc gQ xs vs/\s.heap.DictOfH (gP (BJ X.prog X.w)) a vs:=by
 obtain⟨⟨q,B,o,es,ep,vs,G,L,M,U,g,W⟩,_⟩:=(show cW X.prog X.w H s.heap a (cB a xs) from I.hok a _ e)
 refine⟨q,B,vs,g,o,es,ep,G,L,M,U,λx hx=>?_,?_⟩;obtain⟨y,hy,r1,r2,_⟩:=rJ g x hx;rw[r1,r2];exact fB I (hk y hy);rw[fP g];exact W
noncomputable def jO(xs:List NE)(k:NK)(b:Addr)(v:V):List NE:=if k∈xs.map (·.1) then xs.map (λx=>if x.1=k then (x.1,x.2.1,v) else x) else xs++[(k,b,v)]
theorem rK{k:NK}{v:V}{u:Ad}(r:aQ v u):∀{xs:List NE} {vs:List (NK×Addr×Ad)},Dc gQ xs vs->Dc gQ (xs.map λx=>if x.1=k then (x.1,x.2.1,v) else x) (vs.map (putAt k u))
 | _,_,.nil=>.nil|x::xs,e::vs,.cons h t=>by rw[mC,mC];refine .cons ?_ (rK r t);unfold putAt;by_cases g:x.1=k;rw[if_pos g,if_pos (h.1.trans g)];exact⟨h.1,h.2.1,r⟩;rw[if_neg g,if_neg (by rw[h.1];exact g)];exact h
theorem rL{x:NE}{e:NK×Addr×Ad}(r:gQ x e):∀{xs:List NE} {vs:List (NK×Addr×Ad)},Dc gQ xs vs->Dc gQ (xs++[x]) (vs++[e])
 | _,_,.nil=>.cons r .nil|_,_,.cons h t=>.cons h (rL r t)
theorem rM{xs:List NE}{vs:List (NK×Addr×Ad)}{k:NK}{b:Addr}{v:V}{u:Ad}(h:Dc gQ xs vs)(r:aQ v u):Dc gQ (jO xs k b v) (storedH vs k b u):=by unfold storedH jO;rw[pG h];by_cases g:k∈xs.map (·.1);rw[if_pos (Aw g),if_pos g];exact rK r h;rw[if_neg g,if_neg (by simpa using g)];exact rL ⟨rfl,rfl,r⟩ h
theorem rN{xs:List NE}{k:NK}{b:Addr}{v:V}:(jO xs k b v).length<=xs.length+1:=by unfold jO;split;rw[lM];omega;rw[lA];exact Ak _
theorem vR{a:Addr}{xs:List NE}:∀B G:Heap,aEG a xs B->(∀o,B.get? a=some o->G.get? a=some o)->aEG a xs G:=by rintro B G ⟨L,M,o',q,g,vs,U,W⟩ I;exact⟨L,M,o',q,g,vs,I _ U,W⟩
theorem aDC(hu:X.A.units+100<Co):OpR X (BU .NotIn) (λg B H Q=>∃a b xs k,g=.ref b/\B=.ref a/\H a=some (cB a xs)/\(∀x∈xs,aY X.K H x.1 x.2.1)/\aY X.K H k b/\Q (.bl (!decide (k∈xs.map (·.1)))) H):=by intro pins s Z H g B v u Q I W ry h;obtain⟨a,b,xs,k,rfl,rfl,e,M,kb,q⟩:=h;cases W;cases ry;obtain⟨G,h2,vs,U,L⟩:=pH I e M;refine wpAny_notIn_heap (knd:=gP (BJ X.prog X.w)) (show X.A.in1.units+8<Co by show X.A.units+1+8<Co;omega) (fB I kb) G L ?_;rw[pG U];exact⟨.bl _,H,I.tok _,rfl,q⟩
theorem aEH(hu:X.A.units+100<Co):aGC X (λo i v H Q=>∃a b xs k,o=.ref a/\i=.ref b/\H a=some (cB a xs)/\(∀x∈xs,aY X.K H x.1 x.2.1)/\aY X.K H k b/\xs.length<sizeLine/\Q (upd H a (cB a (jO xs k b v)))):=by
 intro pins s Z H o i v ov iv u Q I ro ri rv h;obtain⟨a,b,xs,k,rfl,rfl,e,hk,kb,hl,q⟩:=h;cases ro;cases ri;obtain⟨h1,h2,vs,G,h3⟩:=pH I e hk;have len:vs.length=xs.length:=(FS G).symm;refine wpAny_setItem_heap (knd:=gP (BJ X.prog X.w)) (hsz:=by rw[len];exact h2) (show X.A.in1.units+8<Co by show X.A.units+1+8<Co;omega) (fB I kb) h3 λh' hm hs=>?_;obtain⟨ob,es,ep,B,L,M,U,_,W⟩:=hm;have g:=rM (k:=k) (b:=b) G rv;have nd:((jO xs k b v).map (·.1)).Nodup:=by rw[<-fP g];exact W
 have lp:(jO xs k b v).length<=sizeLine:=A2 rN hl;refine⟨_,I.write (x:=a) (e:=a) (o:=cB a (jO xs k b v)) (by rw[e];exact G1) (.inl rfl) (λc q hc z=>(hs.2 c hc).trans z) ⟨ob,B⟩ ⟨⟨h1,lp,ob,es,ep,_,B,L,M,U,g,nd⟩,⟨ob,B⟩,vR⟩,q⟩
theorem Inv.big(I:Inv X pins Z H s):Dd<s.heap.objs.size:=by have h:Bx<s.heap.objs.size:=(I.ok.mod.glob.keeps I.bk).lt;exact Ex (by decide) h
noncomputable def aEI:TE:=λ_ H Q=>∀p,H p=none->Q (.ref p) (upd H p (cB p []))
theorem aAd{pos:Eg}:PE X (.Dict [] [] pos) aEI:=λpins s Z H Q I h=>
 wpAny_Dict_empty ⟨.ref s.heap.objs.size,_,I.laid (a:=s.heap.objs.size) (o:=cB s.heap.objs.size []) (t':=s.toks) (λ_ _ q=>Ae _ q) (Ak _)
  ⟨⟨beq_eq_false_iff_ne.mpr (DR (A8 I.big)),AS _,_,#[],0,[],A7 _ rfl,⟨rfl,rfl,rfl⟩,rfl,rfl,.nil,Fx⟩,⟨_,A7 _ rfl⟩,vR⟩,rfl,h _ (I.hok.fresh (Ak _))⟩
end
theorem IsTupleKey.mono{prog:A0}{w:AR}{h h':Heap}{k:List Int}{a:Addr}(G:∀b o,h.get? b=some o->h'.get? b=some o)(x:G0 (BJ prog w) h k a):G0 (BJ prog w) h' k a:=by obtain⟨o,g,n,q,B⟩:=x;exact⟨o,g,n,G _ _ q,B⟩
theorem aO.mono{prog:A0}{w:AR}{h h':Heap}(g:∀b o,h.get? b=some o->h'.get? b=some o):∀{k:NK} {vs:List Ad},aO (B9 (BJ prog w)) h k vs->aO (B9 (BJ prog w)) h' k vs
 | _,_,.nil=>.nil|_,_,.cons h1 t=>.cons (IsTupleKey.mono g h1) (aO.mono g t)
theorem bT.mono{prog:A0}{w:AR}{h h':Heap}{k:NK}{a:Addr}(q:∀b o,h.get? b=some o->h'.get? b=some o)(x:bT (B9 (BJ prog w)) h k a):bT (B9 (BJ prog w)) h' k a:=by obtain⟨o,g,n,B,G,I,L⟩:=x;exact⟨o,g,n,q _ _ B,G,I,aO.mono q L⟩
noncomputable def aCr(ks:List (NK×V))(k:NK×V):List (NK×V):=if k.1∈ks.map (·.1) then ks.map (λx=>if x.1=k.1 then (x.1,k.2) else x) else ks++[k]
theorem aAe(xs:List NE)(k:NK)(b:Addr)(v:V):(jO xs k b v).map pj=aCr (xs.map pj) (k,v):=by
 have e:(xs.map pj).map (·.1)=xs.map (·.1):=by rw[AM];rfl
 unfold jO aCr;rw[e];split;rw[AM,AM];refine Dl λx _=>?_;show pj (if x.1=k then _ else _)=if x.1=k then _ else _
 split <;> rfl;rw[BM];rfl
end L2
namespace L2
open PySem PySem.Spec PyProof.Rows PySem.Builtin
set_option maxRecDepth 100000 in
theorem iQ:fillsNumberSlot (.type "tuple") "mul" = pure false:=
 PySem.fillsNumberSlot_seq (id:= "tuple.__mul__") (r:=some (.builtin "tuple.__rmul__")) ED.lookup (by decide +kernel) Ip.lookup (by decide +kernel)
theorem pI:seqRepeat? (.type "tuple")=pure (some (.builtin "tuple.__mul__")):=by unfold seqRepeat?;rw[IQ (T:= "tuple") (name:= "__mul__") (id:= "tuple.__mul__") ED.lookup (by decide +kernel),IQ (T:= "tuple") (name:= "__rmul__") (id:= "tuple.__rmul__") Ip.lookup (by decide +kernel)];rfl
theorem kR(a:Int)(t:Lq)(l:Addr)(od:Option Addr)(items:Array Ad)(n:Nat)(sl:Array (Option Ad)):Kr (BL.«int.__rmul__» ⟨[.int a t,.ref l],[]⟩) (λ_ R s=>s.heap.get? l=some { cls:=.type "tuple",dict:=od,data:=.seq items n,slots:=sl }/\R (.ok (.ret CT)) s):=
 .of_wp λprog w A R s h=>by obtain⟨B,g,d,tk,os⟩:=s;obtain⟨q,h⟩:=h;wp_walk;exact⟨_,rfl,h⟩
theorem rO(l:Addr)(t:Lq)(od:Option Addr)(items:Array Ad)(n:Nat)(sl:Array (Option Ad)):Kr (BL.«tuple.__mul__» ⟨[.ref l,.int 1 t],[]⟩) (λ_ R s=>s.heap.get? l=some { cls:=.type "tuple",dict:=od,data:=.seq items n,slots:=sl }/\R (.ok (.ret (.ref l))) s):=
 .of_wp λprog w A R s h=>by obtain⟨B,g,d,tk,os⟩:=s;obtain⟨q,h⟩:=h;wp_walk;exact⟨_,rfl,h⟩
theorem rP(l:Addr)(t:Lq)(k:Int)(od:Option Addr)(items:Array Ad)(n:Nat)(sl:Array (Option Ad))(M:1<k)(U:k<2 ^ 63)(h0:items.isEmpty=false)(hz:items.size*k.toNat<=sizeLine)(hs:((An k.toNat items).foldl (·++·) #[]).size<=sizeLine):Kr (BL.«tuple.__mul__» ⟨[.ref l,.int k t],[]⟩) (λ_ R s=>s.heap.get? l=some { cls:=.type "tuple",dict:=od,data:=.seq items n,slots:=sl }/\R (.ok (.ret (.ref s.heap.objs.size))) { s with heap:=s.heap.push { cls:=.type "tuple",data:=.seq ((An k.toNat items).foldl (·++·) #[]) } }):=
 .of_wp λprog w A R s h=>by
  obtain⟨hp,g,d,tk,os⟩:=s;obtain⟨W,h⟩:=h;wp_walk;have q:(decide (k < -2 ^ 63)||decide (k ≥ 2 ^ 63))=false:=by rw[Ar (by omega),Ar (by omega)];rfl
  have B:(items.isEmpty||k==1)=false:=by rw[h0,beq_eq_false_iff_ne.mpr (by omega)];rfl
  have G:(decide (k<=0)||items.isEmpty)=false:=by rw[h0,Ar (by omega)];rfl
  have e:((items.size*k.toNat:Nat):Int)=(items.size:Int)*k:=by rw[GI,Ea (by omega)]
  have I:Tuple.tupleTooMany ((items.size:Int)*k)=false:=by unfold Tuple.tupleTooMany;rw[<-e];exact Ar (by omega)
  have L:¬ (items.size:Int)*k>(2 ^ 63-1) / 8:=by
   have:(sizeLine:Nat)<=(2 ^ 63-1) / 8:=by decide
   rw[<-e];omega
  rw[if_neg (by rw[q];exact bN)]
  wp_walk
  rw[if_neg (by rw[B];exact bN),if_neg (by rw[G];exact bN),if_neg L,if_neg (by rw[I];exact bN)];unfold Tuple.tupleExact newObj;simp only[if_neg (G3.mpr hs)]
  wp_walk
  exact⟨_,rfl,h⟩
section
variable {X:Cx}
theorem aCs:OpR X (Cq .Mult) (λx y H Q=>∃a k xs,x=.ref a/\y=.int k/\SqT X.K H a xs/\xs≠[]/\1<=k/\k<2 ^ 63/\xs.length*k.toNat<=sizeLine /\
 (k=1->Q (.ref a) H)/\(1<k->∀p,H p=none->Q (.ref p) (upd H p (.tup (An k.toNat xs).flatten)))):=by
 intro pins s Z H x y v u Q I rx ry h;obtain⟨a,k,xs,rfl,rfl,ha,hx,h1,h2,M,q1,q2⟩:=h;cases rx;obtain⟨t,rfl⟩:=ry;obtain⟨g,r,⟨o,B,L,n,hd⟩,_⟩:=I.tuple ha;obtain⟨oc,od,dt,sl⟩:=o;have L:oc=.type "tuple" := L;have hd:dt=.seq g.toArray n:=hd;subst L hd;have lz:=r.length;have G:=λW (hq:Am (A4 X.prog X.w) X.A (call (.builtin "tuple.__mul__") [.ref a,.int k t]) W X.xe s)=>FB (Q:=W) (T:= "tuple") (U:= "int") (by decide) (show s.TypeIs (.ref a) "tuple" from⟨_,B,rfl⟩) (λs'=>Gw s' k t) iQ Jk EV pI IM.lookup
  (DF EV (Gw s k t) IN (Il _ _) (kR k t a od g.toArray n sl) ⟨B,rfl,⟨_,B,rfl⟩,hq⟩)
 refine G _ ?_;by_cases hk:k=1;subst hk;exact DF ED ⟨_,B,rfl⟩ Iq (HH _ _) (rO a t od g.toArray n sl) ⟨B,.ref a,H,I,rfl,q1 rfl⟩;have e0:g.toArray.isEmpty=false:=by
  cases g with
  | nil=>exact absurd (r.nil_iff.mp rfl) hx|cons _ _=>rfl
 have f0:=iO g k.toNat [];rw[Dz] at f0;have f1:HE (λx1 x2=>x1++x2) #[] (An k.toNat g.toArray)=(An k.toNat g).flatten.toArray:=f0;refine DF ED ⟨_,B,rfl⟩ Iq (HH _ _) (rP a t k od g.toArray n sl (by omega) h2 e0 (by rw[Aj,<-lz];exact M) (by rw[f1,Aj,pF,<-lz,Im];exact M)) ⟨B,?_⟩;rw[f1];refine⟨.ref s.heap.objs.size,_,I.laid (t':=s.toks) (o:=.tup (An k.toNat xs).flatten) (λb ob q=>Ae _ q) (Ak _) ?_,rfl,q2 (by omega) _ (I.hok.fresh (Ak _))⟩;exact⟨by rw[pF,Im];exact M,_,r.rep k.toNat,Ks _ _⟩
end
end L2
namespace L2
open PySem PySem.Spec PyProof.Rows PySem.SeqAt
noncomputable def nA(h:Heap)(a:Addr)(i x:Int):Prop:=∃t u ep,h.get? a=some { cls:=.type "dict",dict:=none,data:=.dict #[⟨Fh i,.int i t,.int x u⟩] ep,slots:=#[] }/\(a==Dd)=false
theorem aCt{prog:A0}{w:AR}{A:AJ}{E:Ad->Ac->Prop}{s:Ac}{b:Addr}{i j y:Int}{t:Lq}{Q:Option Nat->Ac->Prop}(q:nA s.heap b j y)(h:Q (if i==j then some 0 else none) s) :
 Am (A4 prog w) A (dictFind b (.int i t) (Fh i)) Q E s:=by
 obtain⟨t',g,ep,G,_⟩:=q;refine wpAny_dictFind_int G rfl (λe B=>?_) ?_;have:e=⟨Fh j,.int j t',.int y g⟩:=by simpa using B
 subst this;exact⟨j,t',rfl,rfl⟩;have e:((#[⟨Fh j,.int j t',.int y g⟩]:Array Cz).findIdx? λe=>EN i e.key)=if i==j then some 0 else none:=by
  have:EN i (.int j t')=(i==j):=by
   show(j==i)=(i==j)
   by_cases h:i=j;subst h;rfl;rw[beq_eq_false_iff_ne.mpr h,beq_eq_false_iff_ne.mpr (λz=>h z.symm)]
  have l:∀(p:Cz->Bool) (e:Cz),(#[e]:Array Cz).findIdx? p=if p e=true then some 0 else none:=λp e=>by simp
  rw[l];show(if EN i (.int j t')=true then some 0 else none)=_;rw[this]
 rw[e];exact h
theorem vS{prog:A0}{w:AR}{A:AJ}{E:Ad->Ac->Prop}{s:Ac}{nm:String}{a b:Addr}{i x j y:Int}{Q:Bool->Ac->Prop}(ha:nA s.heap a i x)(U:nA s.heap b j y)(h:Q (i==j&&x==y) s) :
 Am (A4 prog w) A (G4 nm a b) Q E s:=by
 obtain⟨t,u,ep,g,I⟩:=id ha;obtain⟨t',M,W,B,L⟩:=id U;unfold G4 E9;rw[I,L];simp only[bF,if_false];refine Aa (Ab (Aa (Ab ?_)));refine Aa (CW g rfl ?_);refine Aa (CW B rfl ?_);rw[if_neg (show ¬ (((#[⟨Fh i,.int i t,.int x u⟩]:Array Cz).size != (#[⟨Fh j,.int j t',.int y M⟩]:Array Cz).size)=true) from bN)];refine Aa (EX g rfl ?_);rw[GY];rw[show ∀e:Cz,KT [:(#[e]:Array Cz).size].start [:(#[e]:Array Cz).size].size [:(#[e]:Array Cz).size].step=[0] from λe=>(by decide:KT [:1].start [:1].size [:1].step=[0])];simp only[GJ,GZ];refine Aa (Aa ?_);refine Aa (CW g rfl ?_);show Am _ _ (FJ [DQ i t,DQ x u] (dictFind b (.int i t) (Fh i) >>= _) >>= _) _ _ s;refine Aa (AI (Aa (aCt U ?_)));cases q:i==j with
 | false=>rw[q] at h;simp only[bF,if_false];refine Ab ?_;simp only[Ew,if_true];refine Ab (Ab (Ab ?_));exact h|true=>
  rw[q] at h;simp only[if_true];refine Aa (CW B rfl ?_);show Am _ _ (FJ [DQ y M] (eqBool (.int x u) (.int y M))) _ _ s;refine AI (IH ?_);cases G:x==y with
  | false=>rw[G] at h;simp only[Ew,if_true];exact Ab (Ab (Ab h))|true=>rw[G] at h;simp only[B7,bF,if_false];refine Aa (EX g rfl ?_);rw[if_neg (by simp)];exact Ab (Ab (Ab h))
theorem aGY(a b:Addr)(i x j y:Int):Kr (BL.«dict.__eq__» ⟨[.ref a,.ref b],[]⟩) (λA R s=>nA s.heap a i x/\nA s.heap b j y/\R (.ok (.ret (.bool (i==j&&x==y)))) s):=by intro prog w A R s h;obtain⟨B,G,h⟩:=h;have g:s.TypeIs (.ref a) "dict" := let ⟨_,_,_,ho,_⟩:=B;⟨_,ho,rfl⟩;have q:s.TypeIs (.ref b) "dict" := let ⟨_,_,_,ho,_⟩:=G;⟨_,ho,rfl⟩;show Am _ _ (CN "__eq__" ⟨[.ref a,.ref b],[]⟩ >>= _) _ _ _;unfold CN;refine Aa (Aa (EA g ?_));refine Aa (Dr (a:=(Ay a,[Ay b])) rfl (Ab ?_));refine Aa (Bw (T:= "dict") (b:=true) q (by rw[CG];kernel_rfl) ?_);simp only[B7,bF,if_false];refine Aa (Dr (a:=a) rfl ?_);refine Aa (Dr (a:=b) rfl ?_);refine Aa (vS B G (Ab ?_));show R (.ok (.ret (.bool ((i==j&&x==y)==true)))) s;rw[beq_true];exact h
theorem aGZ(a b:Addr)(i x j y:Int):Kr (BL.«dict.__ne__» ⟨[.ref a,.ref b],[]⟩) (λA R s=>nA s.heap a i x/\nA s.heap b j y/\R (.ok (.ret (.bool (!(i==j&&x==y))))) s):=by intro prog w A R s h;obtain⟨B,G,h⟩:=h;have g:s.TypeIs (.ref a) "dict" := let ⟨_,_,_,ho,_⟩:=B;⟨_,ho,rfl⟩;have q:s.TypeIs (.ref b) "dict" := let ⟨_,_,_,ho,_⟩:=G;⟨_,ho,rfl⟩;show Am _ _ (CN "__ne__" ⟨[.ref a,.ref b],[]⟩ >>= _) _ _ _;unfold CN;refine Aa (Aa (EA g ?_));refine Aa (Dr (a:=(Ay a,[Ay b])) rfl (Ab ?_));refine Aa (Bw (T:= "dict") (b:=true) q (by rw[CG];kernel_rfl) ?_);simp only[B7,bF,if_false];refine Aa (Dr (a:=a) rfl ?_);refine Aa (Dr (a:=b) rfl ?_);refine Aa (vS B G (Ab ?_));show R (.ok (.ret (.bool ((i==j&&x==y)==false)))) s;rw[beq_false];exact h
theorem aEJ{A:AJ}{s:Ac}{a b:Addr}{i x j y:Int}(I:A.units<Co)(B:nA s.heap a i x)(G:nA s.heap b j y) :
 RcAt A s (.ref a) (.ref b) (i==j&&x==y)/\RcNeAt A s (.ref a) (.ref b) (!(i==j&&x==y)):=by
 have g:s.TypeIs (.ref a) "dict" := let ⟨_,_,_,ho,_⟩:=B;⟨_,ho,rfl⟩;have q:s.TypeIs (.ref b) "dict" := let ⟨_,_,_,ho,_⟩:=G;⟨_,ho,rfl⟩;have L:RcAt A s (.ref a) (.ref b) (i==j&&x==y):=λprog w E Q h=>
  Dw (op:=.Eq) g q F.slot_dict_eq F.entry_dict_eq (F.args_dict_eq_2 _ _) (aGY a b i x j y)
   ⟨B,G,show Fp (i==j&&x==y)≠CT/\Q (.bool (i==j&&x==y)) s from⟨(λz=>nomatch z),h⟩⟩ I
 have M:RcNeAt A s (.ref a) (.ref b) (!(i==j&&x==y)):=λprog w E Q h=>
  Dw (op:=.NotEq) g q F.slot_dict_ne F.entry_dict_ne (F.args_dict_ne_2 _ _) (aGZ a b i x j y)
   ⟨B,G,show Fp (!(i==j&&x==y))≠CT/\Q (.bool (!(i==j&&x==y))) s from⟨(λz=>nomatch z),h⟩⟩ I
 exact⟨L,M⟩
theorem aDD{P:A0}{w:AR}{H:Hp}{h:Heap}{a:Addr}{i x:Int}(ok:HOk P w H h)(e:H a=some (.dK [(.inl i,.int x)])):nA h a i x:=by
 obtain⟨_,hs,vs,r,o,es,ep,ho,hx,hd,hk,hp,_⟩:=(show cW P w H h a (.dK [(.inl i,.int x)]) from ok a _ e)
 cases r with
 | @cons p q ps qs hpq t=>
  cases t;obtain⟨k,v⟩:=q;obtain⟨e1,u,e2⟩:FF i=k/\∃u,v=DQ x u:=hpq;subst e1 e2;obtain⟨es⟩:=es;cases hp with
  | @cons en kv es' kvs h1 I h3=>
   cases h3;rcases keyIs_shape (show zF (.inl i) en.key=true from h1) with⟨i',t',g,B⟩|⟨x',t',g,_⟩
   cases g;obtain⟨k',g1,G⟩:=hk en (by simp);have ek:k'=.inl i:=(eE P w).inj _ _ _ g1 h1;subst ek;obtain⟨W,key,val⟩:=en;obtain⟨c,d,dt,sl⟩:=o;obtain⟨L,M,U⟩:=hx;have L:c=.type "dict" := L;have M:d=none:=M;have U:sl=#[]:=U;have B:key=.int i t':=B;have G:W=Fh i:=G;have I:val=.int x u:=I;have hd:dt=.dict #[⟨W,key,val⟩] ep:=hd;subst L M U B G I hd;exact⟨t',u,ep,ho,hs⟩;cases g
end L2
namespace Hp
open PySem (Str Operator CmpOp)
inductive D where
 | non|bl (b:Bool)|int (i:Int)|str (x:Str)
 | tup (ds:List D)|lst (ds:List D)
 | dic (kvs:List (D×D))
 | err (c:Nat) (fs:List D)
 deriving Inhabited
mutual
noncomputable def noL:D->Bool
 | .tup ds=>noLs ds|.lst _=>false|.dic _=>false|.err _ _=>false|_=>true
noncomputable def noLs:List D->Bool
 | []=>true|d::ds=>noL d&&noLs ds
end
mutual
noncomputable def eS:D->Bool
 | .tup ds=>noDics ds|.lst ds=>noDics ds|.dic _=>false|_=>true
noncomputable def noDics:List D->Bool
 | []=>true|d::ds=>eS d&&noDics ds
end
noncomputable def lim:Nat:=1000000
noncomputable def lexG{α:Type}[DecidableEq α](lt:α->α->Bool):List α->List α->Bool
 | [],[]=>false|[],_::_=>true|_::_,[]=>false|x::xs,y::ys=>if x=y then lexG lt xs ys else lt x y
noncomputable def ltI(a b:Int):Bool:=decide (a<b)
abbrev lexJ:List Int->List Int->Bool:=lexG ltI
abbrev lexN:List (List Int)->List (List Int)->Bool:=lexG lexJ
noncomputable def b2i(b:Bool):Int:=if b then 1 else 0
noncomputable def eqL(f:D->D->Option Bool):List D->List D->Option Bool
 | [],[]=>some true|a::as,b::bs=>match f a b,eqL f as bs with|some x,some y=>some (x&&y)|_,_=>none
 | _,_=>some false
noncomputable def eqF:Nat->D->D->Option Bool
 | 0,_,_=>none|n+1,a,b=>match a,b with|.non,.non=>some true|.bl a,.bl b=>some (a==b)|.int a,.int b=>some (a==b)|.str a,.str b=>some (a==b)|.bl a,.int b=>some (b2i a==b)|.int a,.bl b=>some (a==b2i b)|.tup as,.tup bs=>eqL (eqF n) as bs|.lst as,.lst bs=>if as.length=bs.length then eqL (eqF n) as bs else some false|.dic [(.int a,.int x)],.dic [(.int b,.int y)]=>some (a==b&&x==y)|.dic _,_=>none|_,.dic _=>none|.err _ _,_=>none|_,.err _ _=>none|_,_=>some false
noncomputable def cX(n:Nat):List D->List D->Option Bool
 | [],[]=>some true|a::as,b::bs=>match eqF n a b,cX n as bs with|some x,some y=>some (x&&y)|_,_=>none
 | _,_=>some false
@[simp] theorem pJ (n:Nat):∀as bs:List D,eqL (eqF n) as bs=cX n as bs
 | [],[]=>rfl|[],_::_=>rfl|_::_,[]=>rfl|a::as,b::bs=>by rw[eqL,cX,pJ n as bs]
noncomputable def gR:Nat:=120
noncomputable def eqD(a b:D):Option Bool:=eqF gR a b
set_option genInjectivity true in
inductive R (α:Type) where
 | ok (a:α)|exc (x:D)|bad
 deriving Inhabited
noncomputable def R.bind{α β:Type}(x:R α)(f:α->R β):R β:=match x with|.ok a=>f a|.exc e=>.exc e|.bad=>.bad
instance:Monad R where
 pure:=.ok
 bind:=.bind
noncomputable def R.of{α:Type}:Option α->R α
 | some a=>.ok a|none=>.bad
noncomputable def R.iff{α:Type}(c:Bool)(x:R α):R α:=if c then x else .bad
structure Vl where
 d:D
 fr:Bool:=false
 pa:Bool:=false
 al:List Nat:=[]
 deriving Inhabited
noncomputable def Vl.cl(d:D):Vl:=⟨d,false,false,[]⟩
noncomputable def Vl.sub(v:Vl)(d:D):Vl:=if noL d then .cl d else ⟨d,false,v.pa,v.al⟩
inductive Sl where
 | dead|sh (pa:Bool) (d:D)|own (pa:Bool) (ds:List D)|dct (ks:List (List (List Int)×D))
 deriving Inhabited
abbrev Sg:=List Sl
noncomputable def Sl.val(i:Nat):Sl->R Vl
 | .dead=>.bad|.sh pa d=>.ok ⟨d,false,pa&&!noL d,[]⟩|.own pa ds=>.ok ⟨.lst ds,false,pa,[i]⟩|.dct _=>.bad
noncomputable def cR(Z:Sg)(i:Nat):R Vl:=match Z[i]? with|some s=>s.val i|none=>.bad
noncomputable def Sl.freeze:Sl->Sl
 | .own pa ds=>.sh pa (.lst ds)|s=>s
noncomputable def freeze(Z:Sg):List Nat->Sg
 | []=>Z|i::is=>freeze (match Z[i]? with|some s=>Z.set i s.freeze|none=>Z) is
noncomputable def Vl.slot(v:Vl):Sl:=match v.fr,v.d with|true,.lst ds=>.own v.pa ds|_,d=>.sh v.pa d
inductive Bi where
 | len|list|tuple|min|max|abs|int|str|sum|all|any|sorted|bool|repr
 deriving DecidableEq,Inhabited
inductive Mt where
 | join|upper|lower|get|startswith|endswith|index|count|copy|isdigit|find|replace|split|strip
 deriving DecidableEq,Inhabited
inductive Cl where
 | tInt|tBool|tStr|tList|tTuple|tDict|own (c:Nat)|tValueError
 deriving DecidableEq,Inhabited
inductive T where
 | n (i:Nat)
 | t (ts:List Nat)
 deriving Inhabited
mutual
inductive E where
 | c (d:D)
 | v (i:Nat)
 | op (o:Operator) (a b:E)
 | neg (a:E)
 | nt (a:E)
 | an (a b:E)
 | orr (a b:E)
 | ife (t a b:E)
 | cmp (o:CmpOp) (a b:E)
 | cmp2 (o o':CmpOp) (a b c:E)
 | idx (a b:E)
 | sli (a:E) (lo hi:Es)
 | tup (es:Es)
 | lst (es:Es)
 | dic (ks vs:Es)
 | call (f:Nat) (es:Es)
 | bi (b:Bi) (es:Es)
 | mth (m:Mt) (o:E) (es:Es)
 | isi (a:E) (cs:List Cl)
 | attr (a:E) (f:Nat)
 | comp (k:Nat) (caps:List Nat) (t:T) (it:It) (cond:Es) (elt:E)
 | numset (a:E)   -- len(set(a))
 | tget (i:Nat) (a:E)   -- a dict of the module,.get(a)
 | lzip (a b:E)   -- list(zip(a,b))
 | dnin (a:E) (j:Nat)   -- a not in a dict of one's own
 | dget (j:Nat) (a:E)   -- the value at a key in a dict of one's own
 | dlen (j:Nat)   -- len of a dict of one's own
 | din (a:E) (j:Nat)   -- a in a dict of one's own
 | dgd (j:Nat) (a:E) (d:D)   -- x.get(a,d),x a dict of one's own
 | srtD (j:Nat)   -- sorted(list(x)),x a dict of one's own
 | sst (a:E)   -- sorted(set(a)),of such
 | sop (o:Operator) (a b:E)   -- sorted(set(a) o set(b)),tuples of tuples of numbers
inductive Es where
 | nil|cons (e:E) (es:Es)
inductive It where
 | seq (e:E)|rng (a b:E)|zip (a b:E)|enum (a:E)|rev (a:E)
end
instance:Inhabited E:=⟨.c .non⟩
inductive Arg where
 | e (a:E)|pop (i:Nat)
 deriving Inhabited
mutual
inductive S where
 | set (t:T) (e:E)
 | mov (i j:Nat)
 | setIx (i:Nat) (k e:E)
 | app (i:Nat) (e:E)
 | ext (i:Nat) (e:E)
 | pop (t:Option T) (i:Nat) (at':Option E)
 | clr (i:Nat)
 | ins (i:Nat) (k e:E)
 | rev (i:Nat)
 | appCall (i:Nat) (f:Nat) (as:List Arg)
 | ret (e:E)
 | retv (i:Nat)
 | retN
 | iff (c:E) (a b:Ss)
 | for (t:T) (it:It) (b:Ss)
 | whl (c:E) (b:Ss)
 | brk|cnt|pass
 | ex (e:E)
 | dnew (i:Nat)   -- {}
 | dput (i:Nat) (e:E)   -- i[e]=True
 | dpv (i:Nat) (k a:E)   -- i[k]=a
 | dfrom (i:Nat) (e:E)   -- dict(e),e pairs of a key and a plain value
 | rse (c:Nat) (keep:Bool) (es:Es)
 | try (b:Ss) (hs:Hs)
inductive Ss where
 | nil|cons (s:S) (ss:Ss)
inductive Hs where
 | nil|cons (cs:List Cl) (n:Option Nat) (b:Ss) (hs:Hs)
end
structure Fn where
 np:Nat
 ns:Nat
 body:Ss
structure Pg where
 fns:List Fn
 above:List (List Cl)
 tabs:List (List (Str×D)):=[]
abbrev Rt:=D×Bool×Bool
abbrev Caller:=Nat->List D->R Rt
noncomputable def kT(i j:Int):Bool:=(decide (-(2 ^ 64)<i)&&decide (i<2 ^ 64))||(decide (-(2 ^ 64)<j)&&decide (j<2 ^ 64))
noncomputable def aDE(i j:Int):Bool:=decide (0<=j)&&decide (j<=1000)&&decide (i.natAbs<2 ^ 64)
noncomputable def rQ(j:Int):Bool:=decide (0<j)&&decide (j<1073741824)
noncomputable def aF(k:Int):Bool:=decide (-(2 ^ 62)<=k)&&decide (k<2 ^ 62)
noncomputable def Str.rep(x:Str)(k:Nat):Str:=⟨(An k x.cps).foldl (·++·) #[]⟩
@[simp] noncomputable def aEK (x y:Vl):R Vl:=match x.d,y.d with|.int i,.int j=>.ok (.cl (.int (i+j)))|.str a,.str b=>.iff (decide (a.length+b.length<=lim)) (.ok (.cl (.str (a++b))))|.tup a,.tup b=>.iff (decide (a.length+b.length<=lim)) (.ok ⟨.tup (a++b),false,x.pa||y.pa,x.al++y.al⟩)|.lst a,.lst b=>.iff (decide (a.length+b.length<=lim)) (.ok ⟨.lst (a++b),true,(x.pa&&!noLs a)||(y.pa&&!noLs b),(if noLs a then [] else x.al)++(if noLs b then [] else y.al)⟩)|_,_=>.bad
@[simp] noncomputable def aEL (x y:Vl):R Vl:=match x.d,y.d with|.int i,.int j=>.iff (kT i j) (.ok (.cl (.int (i*j))))|.str a,.int k=>.iff (aF k&&decide (a.length*k.toNat<=lim)) (.ok (.cl (.str (Str.rep a k.toNat))))|.lst a,.int k=>.iff (x.fr&&aF k&&decide (a.length*k.toNat<=lim)&&noLs a) (.ok ⟨.lst (An k.toNat a).flatten,true,false,[]⟩)|.tup a,.int k=>.iff (decide (1<=k)&&aF k&&!a.isEmpty&&decide (a.length*k.toNat<=lim)&&noLs a) (.ok (.cl (.tup (An k.toNat a).flatten)))|_,_=>.bad
@[simp] noncomputable def rR (f:Int->Int->R Vl) (x y:Vl):R Vl:=match x.d,y.d with|.int i,.int j=>f i j|_,_=>.bad
noncomputable def opD(o:Operator)(x y:Vl):R Vl:=match o with|.Add=>aEK x y|.Mult=>aEL x y|.Sub=>rR (λi j=>.ok (.cl (.int (i-j)))) x y|.FloorDiv=>rR (λi j=>.iff (rQ j) (.ok (.cl (.int (i / j))))) x y|.Mod=>rR (λi j=>.iff (decide (0<j)) (.ok (.cl (.int (i % j))))) x y|.Pow=>rR (λi j=>.iff (aDE i j) (.ok (.cl (.int (i ^ j.toNat))))) x y|_=>.bad
noncomputable def aAf:D->Option Bool
 | .non=>some false|.bl b=>some b|.int i=>some (i != 0)|.str x=>if x.length<=lim then some (x.length != 0) else none|.tup ds=>some (!ds.isEmpty)|.lst ds=>some (!ds.isEmpty)|_=>none
noncomputable def dO(x:Vl):R Bool:=.of (aAf x.d)
noncomputable def bD:List D->Option (List Int)
 | []=>some []|.int a::ds=>match bD ds with|some ns=>some (a::ns)|none=>none
 | _=>none
noncomputable def aCu:List Int->List Int->Bool
 | [],[]=>false|[],_::_=>true|_::_,[]=>false|x::xs,y::ys=>if x=y then aCu xs ys else decide (x<y)
noncomputable def aCv(as bs:List D):Option Bool:=match bD as,bD bs with|some ns,some ms=>some (aCu ns ms)|_,_=>none
noncomputable def ltD:D->D->Option Bool
 | .int a,.int b=>some (decide (a<b))|.tup as,.tup bs=>aCv as bs|_,_=>none
noncomputable def leD:D->D->Option Bool
 | .int a,.int b=>some (decide (a<=b))|_,_=>none
noncomputable def isNone:D->Bool
 | .non=>true|_=>false
noncomputable def rS(x:D):List D->Option Bool
 | []=>some false|y::ys=>match eqD y x,rS x ys with|some a,some b=>some (a||b)|_,_=>none
noncomputable def inD(x y:D):Option Bool:=match x,y with|x,.lst ys=>if noDics ys then rS x ys else none|x,.tup ys=>if noDics ys then rS x ys else none|.str a,.str b=>some (!(Je b a 0 b.length 1).isEmpty)|_,_=>none
noncomputable def cF(o:CmpOp)(x y:D):Option Bool:=match o with
 | .Eq=>eqD x y|.NotEq=>(eqD x y).map (!·)|.Lt=>ltD x y|.Gt=>match x,y with|.int a,.int b=>some (decide (b<a))|_,_=>none
 | .LtE=>leD x y|.GtE=>match x,y with|.int a,.int b=>some (decide (b<=a))|.tup as,.tup bs=>(aCv as bs).map (!·)|_,_=>none
 | .Is=>match y with|.non=>some (isNone x)|_=>none
 | .IsNot=>match y with|.non=>some (!isNone x)|_=>none
 | .In=>inD x y|.NotIn=>(inD x y).map (!·)
noncomputable def ixN(n:Nat)(k:Int):Option Nat:=
 if 0<=k then (if k<n then some k.toNat else none) else (if -(n:Int)<=k then some (k+n).toNat else none)
noncomputable def cS(x y:Vl):R Vl:=match x.d,y.d with
 | .lst ds,.int k=>match ixN ds.length k with
  | some j=>match ds[j]? with|some d=>.ok (x.sub d)|none=>.bad
  | none=>.bad
 | .tup ds,.int k=>match ixN ds.length k with
  | some j=>match ds[j]? with|some d=>.ok (x.sub d)|none=>.bad
  | none=>.bad
 | .str a,.int k=>.iff (decide (a.length<=lim)) (match ixN a.length k with
  | some j=>match a.cps.toList[j]? with|some c=>.ok (.cl (.str ⟨#[c]⟩))|none=>.bad
  | none=>.bad)
 | _,_=>.bad
noncomputable def sIx(n d:Nat):Option Int->Nat
 | none=>d|some v=>if v<0 then (v+(n:Int)).toNat else min v.toNat n
noncomputable def cut{α:Type}(xs:List α)(lo hi:Option Int):List α:=(xs.drop (sIx xs.length 0 lo)).take (sIx xs.length xs.length hi-sIx xs.length 0 lo)
noncomputable def uH(x:Str)(lo hi:Option Int):Str:=⟨(cut x.cps.toList lo hi).toArray⟩
noncomputable def dH(x:Vl)(lo hi:Option Int):R Vl:=match x.d with|.lst ds=>.ok ⟨.lst (cut ds lo hi),true,x.pa&&!noLs ds,if noLs ds then [] else x.al⟩|.tup ds=>.ok ⟨.tup (cut ds lo hi),false,x.pa&&!noLs ds,if noLs ds then [] else x.al⟩|.str a=>.iff (decide (a.length<=lim)) (.ok (.cl (.str (uH a lo hi))))|_=>.bad
noncomputable def isI(cs:List Cl)(P:Pg):D->Option Bool
 | .non=>some false|.bl _=>some (cs.contains .tBool||cs.contains .tInt)|.int _=>some (cs.contains .tInt)|.str _=>some (cs.contains .tStr)|.tup _=>some (cs.contains .tTuple)|.lst _=>some (cs.contains .tList)|.dic _=>some (cs.contains .tDict)|.err c _=>match P.above[c]? with|some ab=>some (ab.any λa=>cs.contains a)|none=>none
noncomputable def aHa:List D->Int->Option Int
 | [],a=>some a|.int i::ds,a=>aHa ds (a+i)|.bl b::ds,a=>aHa ds (a+b2i b)|_,_=>none
noncomputable def pK:List D->Option (List Bool)
 | []=>some []|.bl a::ds=>match pK ds with|some bs=>some (a::bs)|none=>none
 | _=>none
noncomputable def pL:List D->Option (List (Sum Int Str))
 | []=>some []|.int a::ds=>match pL ds with|some ks=>some (.inl a::ks)|none=>none
 | .str a::ds=>match pL ds with|some ks=>some (.inr a::ks)|none=>none
 | _=>none
noncomputable def aAg(ks:List (Sum Int Str)):List (Sum Int Str):=ks.foldl (λZ v=>if Z.any (·==v) then Z else Z++[v]) []
noncomputable def aHb(x:D):List D->Option (List D)
 | []=>some [x]|y::ys=>match ltD x y with
  | some true=>some (x::y::ys)|some false=>match aHb x ys with|some r=>some (y::r)|none=>none
  | none=>none
noncomputable def aHc:List D->Option (List D)
 | []=>some []|d::ds=>match aHc ds with|some r=>aHb d r|none=>none
noncomputable def aAh(x:Str):Bool:=x.cps.all λc=>decide (97<=c)&&decide (c<=122)
mutual
noncomputable def wt:D->Nat
 | .non=>4|.bl _=>5|.int i=>if i.natAbs<1000000000 then 10 else lim|.str x=>if aAh x then x.length+2 else lim|.tup ds=>3+wts ds|.lst ds=>2+wts ds|.dic _=>lim|.err _ _=>lim
noncomputable def wts:List D->Nat
 | []=>0|d::ds=>wt d+2+wts ds
end
mutual
noncomputable def dpt:D->Nat
 | .tup ds=>dpts ds+1|.lst ds=>dpts ds+1|.non=>0|.bl _=>0|.int _=>0|.str _=>0|.dic _=>0|.err _ _=>0
noncomputable def dpts:List D->Nat
 | []=>0|d::ds=>max (dpt d) (dpts ds)
end
mutual
noncomputable def eW:D->K0
 | .non=>.none|.bl b=>.bool b|.int i=>.int i|.str x=>.str x|.tup ds=>.tuple (toPys ds)|.lst ds=>.list (toPys ds)|.dic _=>.none|.err _ _=>.none
noncomputable def toPys:List D->List K0
 | []=>[]
 | d::ds=>eW d::toPys ds
end
@[simp] noncomputable def aEM (b:Bi) (x:Vl):R Vl:=match b with
 | .len=>match x.d with|.lst ds=>.ok (.cl (.int ds.length))|.tup ds=>.ok (.cl (.int ds.length))|.str a=>.iff (decide (a.length<=lim)) (.ok (.cl (.int a.length)))|_=>.bad
 | .list=>match x.d with|.lst ds=>.ok ⟨.lst ds,true,x.pa&&!noLs ds,if noLs ds then [] else x.al⟩|.tup ds=>.ok ⟨.lst ds,true,x.pa&&!noLs ds,if noLs ds then [] else x.al⟩|_=>.bad
 | .tuple=>match x.d with|.lst ds=>.ok ⟨.tup ds,false,x.pa&&!noLs ds,if noLs ds then [] else x.al⟩|.tup ds=>.ok ⟨.tup ds,false,x.pa,x.al⟩|_=>.bad
 | .int=>match x.d with|.int i=>.ok (.cl (.int i))|.bl b=>.ok (.cl (.int (b2i b)))|_=>.bad
 | .all=>match x.d with
  | .lst ds=>match pK ds with|some bs=>.ok (.cl (.bl (bs.all id)))|none=>.bad
  | _=>.bad
 | .any=>match x.d with
  | .lst ds=>match pK ds with|some bs=>.ok (.cl (.bl (bs.any id)))|none=>.bad
  | _=>.bad
 | _=>.bad
@[simp] noncomputable def aJu (b:Bi) (x y:Vl):R Vl:=match b with
 | .min=>match x.d,y.d with|.int i,.int j=>.ok (.cl (.int (if j<i then j else i)))|_,_=>.bad
 | .max=>match x.d,y.d with|.int i,.int j=>.ok (.cl (.int (if j>i then j else i)))|_,_=>.bad
 | _=>.bad
noncomputable def biD(b:Bi)(xs:List Vl):R Vl:=match xs with|[x]=>aEM b x|[x,y]=>aJu b x y|_=>.bad
noncomputable def aAi:List D->Option (List Str)
 | []=>some []|.str x::ds=>match aAi ds with|some r=>some (x::r)|none=>none
 | _=>none
noncomputable def aHd:D->D->Bool
 | .int a,.int b=>a==b|.str a,.str b=>a==b|_,_=>false
noncomputable def aHe:D->Bool
 | .int _=>true|.str _=>true|_=>false
noncomputable def aDF(k:D):List (D×D)->Option D
 | []=>none|(a,d)::r=>if aHd a k then some d else aDF k r
noncomputable def upC(n:Nat):Nat:=if 97<=n/\n<=122 then n-32 else n
noncomputable def mtD(m:Mt)(x:Vl)(ys:List Vl):R Vl:=match m,x.d,ys with
 | .join,.str a,[y]=>match y.d with
  | .lst ds=>match aAi ds with|some xs=>.iff (decide ((xs.map (·.length)).sum+xs.length*a.length<=lim)) (.ok (.cl (.str (LS a xs))))|none=>.bad
  | _=>.bad
 | .get,.dic kvs,[y]=>.iff (aHe y.d) (match aDF y.d kvs with
  | some d=>.ok (x.sub d)|none=>.ok (.cl .non))
 | .upper,.str a,[]=>.iff (a.cps.all (·<128)) (.ok (.cl (.str ⟨a.cps.map upC⟩)))|_,_,_=>.bad
noncomputable def bM(vs:List Vl):List Nat:=vs.flatMap (·.al)
noncomputable def dM(vs:List Vl):Bool:=vs.any (·.pa)
noncomputable def kW(vs:List Vl):Vl:=⟨.tup (vs.map (·.d)),false,dM vs,bM vs⟩
noncomputable def cK(vs:List Vl):Vl:=⟨.lst (vs.map (·.d)),true,dM vs,bM vs⟩
noncomputable def dX(args:List Vl)(r:Rt):Vl:=if r.2.2 then ⟨r.1,r.2.1,dM args,bM args⟩ else ⟨r.1,r.2.1,false,[]⟩
noncomputable def eH(a b:Int):List D:=(AA (b-a).toNat).map λ(k:Nat)=>.int (a+(k:Int))
noncomputable def aDG:Int->List D->List D
 | _,[]=>[]
 | k,d::ds=>.tup [.int k,d]::aDG (k+1) ds
noncomputable def aAj:List D->List D->List D
 | a::as,b::bs=>.tup [a,b]::aAj as bs|_,_=>[]
noncomputable def setT(Z:Sg)(v:Vl):T->R Sg
 | .n i=>.ok (Z.set i v.slot)|.t is=>match v.d with|.tup ds=>if ds.length=is.length then .ok ((is.zip ds).foldl (λZ p=>Z.set p.1 (v.sub p.2).slot) Z) else .bad|_=>.bad
noncomputable def cL(f:Vl->R (Option Vl)):List Vl->R (List Vl)
 | []=>.ok []|x::xs=>do
  let y<-f x
  let ys<-cL f xs
  match y with
  | some y=>.ok (y::ys)|none=>.ok ys
noncomputable def nB:D->Option (List D)
 | .lst ds=>some ds|.tup ds=>some ds|_=>none
noncomputable def items(x:Vl)(ds:List D):List Vl:=ds.map x.sub
noncomputable def kX:List D->Option (List (List Int))
 | []=>some []|.tup as::ds=>match bD as,kX ds with|some a,some r=>some (a::r)|_,_=>none
 | _=>none
noncomputable def eX:D->Option (List (List Int))
 | .tup ds=>kX ds|_=>none
noncomputable def putK(ks:List (List (List Int)×D))(k:List (List Int)×D):List (List (List Int)×D):=if k.1∈ks.map (·.1) then ks.map (λx=>if x.1=k.1 then (x.1,k.2) else x) else ks++[k]
noncomputable def cP:List D->Option (List (List (List Int)))
 | []=>some []|d::ds=>match eX d,cP ds with|some k,some ks=>some (k::ks)|_,_=>none
noncomputable def rT(k:List (List Int)):List (List (List Int))->List (List (List Int))
 | []=>[k]
 | y::ys=>if lexN k y then k::y::ys else if k=y then y::ys else y::rT k ys
noncomputable def ssN(ks:List (List (List Int))):List (List (List Int)):=ks.foldr rT []
noncomputable def nestD(k:List (List Int)):D:=.tup (k.map λt=>.tup (t.map .int))
noncomputable def neN(ks:List (List (List Int))):Bool:=ks.all λk=>!k.isEmpty
noncomputable def opN(o:Operator)(ks js:List (List (List Int))):Option (List (List (List Int))):=match o with|.BitOr=>if (ssN (ks++js)).length<=700 then some (ssN (ks++js)) else none|.BitAnd=>if (ssN ks).length<=700/\(ssN js).length<=700 then some (ssN (ks.filter λk=>decide (k∈js))) else none|.Sub=>if (ssN ks).length<=700/\(ssN js).length<=700 then some (ssN (ks.filter λk=>decide (k∉js))) else none|_=>none
noncomputable def aAk:D->Bool
 | .int _|.bl _=>true|_=>false
noncomputable def eT(ks:List (List (List Int)×D))(k:List (List Int)):Option D:=(ks.find? λx=>decide (x.1=k)).map (·.2)
noncomputable def aAl:List D->Option (List (List (List Int)×D))
 | []=>some []|.tup [k,v]::ds=>match eX k,aAk v,aAl ds with|some a,true,some r=>some ((a,v)::r)|_,_,_=>none
 | _=>none
noncomputable def gU(k:Nat)(caps al:List Nat)(vs:List Vl):Vl:=
 if noLs (vs.map (·.d)) then ⟨.lst (vs.map (·.d)),true,false,[]⟩
 else ⟨.lst (vs.map (·.d)),true,dM vs,al++(bM vs).filterMap λj=>caps[j-k]?⟩
noncomputable def aDH(x y:Vl)(ds:List D):Vl:=if noLs ds then ⟨.lst ds,true,false,[]⟩ else ⟨.lst ds,true,x.pa||y.pa,x.al++y.al⟩
section
variable (P:Pg) (W:Caller)
mutual
noncomputable def ev(Z:Sg):E->R Vl
 | .c d=>.ok (.cl d)|.v i=>cR Z i|.op o a b=>do let x<-ev Z a;let y<-ev Z b;opD o x y
 | .neg a=>do
  let x<-ev Z a
  match x.d with
  | .int i=>.ok (.cl (.int (-i)))|_=>.bad
 | .nt a=>do let x<-ev Z a;let k<-dO x;.ok (.cl (.bl (!k)))
 | .an a b=>do
  let x<-ev Z a
  match x.d with
  | .bl true=>ev Z b|.bl false=>.ok (.cl (.bl false))|_=>.bad
 | .orr a b=>do
  let x<-ev Z a
  match x.d with
  | .bl true=>.ok (.cl (.bl true))|.bl false=>ev Z b|_=>.bad
 | .ife t a b=>do
  let x<-tst Z t
  if x then ev Z a else ev Z b
 | .cmp o a b=>do
  let x<-ev Z a
  let y<-ev Z b
  match cF o x.d y.d with
  | some k=>.ok (.cl (.bl k))|none=>.bad
 | .cmp2 o o' a b c=>do
  let x<-ev Z a
  let y<-ev Z b
  match cF o x.d y.d with
  | some true=>do
   let z<-ev Z c
   match cF o' y.d z.d with
   | some k=>.ok (.cl (.bl k))|none=>.bad
  | some false=>.ok (.cl (.bl false))|none=>.bad
 | .idx a b=>do let x<-ev Z a;let y<-ev Z b;cS x y
 | .sli a lo hi=>do
  let x<-ev Z a
  let l<-evs Z lo
  let h<-evs Z hi
  match l,h with
  | [],[]=>dH x none none|[l],[]=>match l.d with|.int l=>.iff (aF l) (dH x (some l) none)|_=>.bad
  | [],[h]=>match h.d with|.int h=>.iff (aF h) (dH x none (some h))|_=>.bad
  | [l],[h]=>match l.d,h.d with|.int l,.int h=>.iff (aF l&&aF h) (dH x (some l) (some h))|_,_=>.bad
  | _,_=>.bad
 | .tup es=>do let vs<-evs Z es;.ok (kW vs)
 | .lst es=>do let vs<-evs Z es;.ok (cK vs)
 | .dic ks vs=>do
  let ks<-evs Z ks
  let vs<-evs Z vs
  match (ks.map (λ(v:Vl)=>v.d):List D),(vs.map (λ(v:Vl)=>v.d):List D) with
  | [.int k],[.int v]=>.ok (.cl (.dic [(.int k,.int v)]))|_,_=>.bad
 | .call f es=>do
  let vs<-evs Z es
  let r<-W f (vs.map (·.d))
  .ok (dX vs r)
 | .bi b es=>do let vs<-evs Z es;biD b vs
 | .mth m o es=>do let x<-ev Z o;let ys<-evs Z es;mtD m x ys
 | .isi a cs=>do
  let x<-ev Z a
  match isI cs P x.d with
  | some k=>.ok (.cl (.bl k))|none=>.bad
 | .attr a f=>do
  let x<-ev Z a
  match x.d with
  | .err _ fs=>match fs[f]? with|some d=>.ok (x.sub d)|none=>.bad
  | _=>.bad
 | .comp k caps t it cond elt=>do
  let xs<-walk Z it
  let vs<-cL (λx=>do
   let Z1<-setT (An k .dead++caps.map λi=>((freeze Z xs.2)[i]?).getD .dead) x t
   let k<-tsts Z1 cond
   if k then do let y<-ev Z1 elt;.ok (some y) else .ok none) xs.1
  .iff (decide (vs.length<=lim)) (.ok (gU k caps xs.2 vs))
 | .numset a=>do
  let x<-ev Z a
  match x.d with
  | .lst ds=>match pL ds with|some ks=>.iff (decide (ds.length<=1000)) (.ok (.cl (.int (aAg ks).length)))|none=>.bad
  | _=>.bad
 | .tget i a=>do
  let x<-ev Z a
  match x.d,P.tabs[i]? with
  | .str k,some t=>.ok (.cl ((t.lookup k).getD .non))|_,_=>.bad
 | .lzip a b=>do
  let x<-ev Z a
  let y<-ev Z b
  match nB x.d,nB y.d with
  | some as,some bs=>.iff (decide (as.length<=lim)) (.ok (aDH x y (aAj as bs)))|_,_=>.bad
 | .dnin a j=>do
  let x<-ev Z a
  match Z[j]?,eX x.d with
  | some (.dct ks),some k=>.ok (.cl (.bl (!decide (k∈ks.map (·.1)))))|_,_=>.bad
 | .dget j a=>do
  let x<-ev Z a
  match Z[j]?,eX x.d with
  | some (.dct ks),some k=>(match eT ks k with
   | some d=>.iff (aAk d) (.ok (.cl d))|none=>.bad)
  | _,_=>.bad
 | .din a j=>do
  let x<-ev Z a
  match Z[j]?,eX x.d with
  | some (.dct ks),some k=>.ok (.cl (.bl (decide (k∈ks.map (·.1)))))|_,_=>.bad
 | .dgd j a d=>do
  let x<-ev Z a
  match Z[j]?,eX x.d with
  | some (.dct ks),some k=>.iff (aAk d) (match eT ks k with
   | some v=>.iff (aAk v) (.ok (.cl v))|none=>.ok (.cl d))
  | _,_=>.bad
 | .srtD j=>match Z[j]? with|some (.dct ks)=>.iff (neN (ks.map (·.1))&&decide (ks.length<=700)) (.ok ⟨.lst ((ssN (ks.map (·.1))).map nestD),true,false,[]⟩)|_=>.bad
 | .sst a=>do
  let x<-ev Z a
  match x.d with
  | .lst as=>match cP as with|some ks=>.iff (neN ks&&decide ((ssN ks).length<=700)) (.ok ⟨.lst ((ssN ks).map nestD),true,false,[]⟩)|_=>.bad
  | _=>.bad
 | .sop o a b=>do
  let x<-ev Z a
  let y<-ev Z b
  match x.d,y.d with
  | .lst as,.lst bs=>match cP as,cP bs with
   | some ks,some js=>.iff (neN ks&&neN js) (match opN o ks js with
    | some r=>.ok ⟨.lst (r.map nestD),true,false,[]⟩|none=>.bad)
   | _,_=>.bad
  | _,_=>.bad
 | .dlen j=>match Z[j]? with|some (.dct ks)=>.ok (.cl (.int ks.length))|_=>.bad
noncomputable def tst(Z:Sg):E->R Bool
 | .nt a=>do let x<-tst Z a;.ok (!x)
 | .an a b=>do
  let x<-tst Z a
  if x then tst Z b else .ok false
 | .orr a b=>do
  let x<-tst Z a
  if x then .ok true else tst Z b
 | .c d=>dO (.cl d)|.v i=>do let x<-cR Z i;dO x
 | .cmp o a b=>do
  let x<-ev Z a
  let y<-ev Z b
  match cF o x.d y.d with
  | some k=>.ok k|none=>.bad
 | .cmp2 o o' a b c=>do
  let x<-ev Z a
  let y<-ev Z b
  match cF o x.d y.d with
  | some true=>do
   let z<-ev Z c
   match cF o' y.d z.d with
   | some k=>.ok k|none=>.bad
  | some false=>.ok false|none=>.bad
 | .call f es=>do
  let vs<-evs Z es
  let r<-W f (vs.map (·.d))
  dO (dX vs r)
 | .bi b es=>do let vs<-evs Z es;let x<-biD b vs;dO x
 | .mth m o es=>do let x<-ev Z o;let ys<-evs Z es;let z<-mtD m x ys;dO z
 | .idx a b=>do let x<-ev Z a;let y<-ev Z b;let z<-cS x y;dO z
 | .isi a cs=>do
  let x<-ev Z a
  match isI cs P x.d with
  | some k=>.ok k|none=>.bad
 | .din a j=>do
  let x<-ev Z a
  match Z[j]?,eX x.d with
  | some (.dct ks),some k=>.ok (decide (k∈ks.map (·.1)))|_,_=>.bad
 | .dnin a j=>do
  let x<-ev Z a
  match Z[j]?,eX x.d with
  | some (.dct ks),some k=>.ok (!decide (k∈ks.map (·.1)))|_,_=>.bad
 | _=>.bad
noncomputable def evs(Z:Sg):Es->R (List Vl)
 | .nil=>.ok []|.cons e es=>do let x<-ev Z e;let xs<-evs Z es;.ok (x::xs)
noncomputable def walk(Z:Sg):It->R (List Vl×List Nat)
 | .seq e=>do
  let x<-ev Z e
  match x.d with
  | .lst ds=>.ok (items x ds,x.al)|.tup ds=>.ok (items x ds,x.al)|.str a=>.iff (decide (a.length<=lim)) (.ok (a.cps.toList.map λn=>.cl (.str ⟨#[n]⟩),[]))|_=>.bad
 | .rng a b=>do
  let x<-ev Z a
  let y<-ev Z b
  match x.d,y.d with
  | .int i,.int j=>.iff (aF i&&aF j) (.ok ((eH i j).map .cl,[]))|_,_=>.bad
 | .zip a b=>do
  let x<-ev Z a
  let y<-ev Z b
  match nB x.d,nB y.d with
  | some as,some bs=>.ok (items ⟨.non,false,x.pa||y.pa,x.al++y.al⟩ (aAj as bs),x.al++y.al)|_,_=>.bad
 | .enum a=>do
  let x<-ev Z a
  match nB x.d with
  | some as=>.ok (items x (aDG 0 as),x.al)|none=>.bad
 | .rev a=>do
  let x<-ev Z a
  match nB x.d with
  | some as=>.ok (items x as.reverse,x.al)|none=>.bad
noncomputable def tsts(Z:Sg):Es->R Bool
 | .nil=>.ok true|.cons e es=>do
  let x<-tst Z e
  if x then tsts Z es else .ok false
end
inductive O where
 | next (Z:Sg)|brk (Z:Sg)|cnt (Z:Sg)|ret (v:Vl)|exc (x:D) (Z:Sg)|bad
 deriving Inhabited
noncomputable def O.from{α:Type}(Z:Sg)(x:R α)(f:α->O):O:=match x with|.ok a=>f a|.exc e=>.exc e Z|.bad=>.bad
noncomputable def O.on(o:O)(f:Sg->O):O:=match o with|.next Z=>f Z|o=>o
noncomputable def dY(f:Sg->Vl->O):List Vl->Sg->O
 | [],Z=>.next Z|x::xs,Z=>match f Z x with|.next Z'=>dY f xs Z'|.cnt Z'=>dY f xs Z'|.brk Z'=>.next Z'|o=>o
noncomputable def aAm(t:Sg->R Bool)(f:Sg->O):Nat->Sg->O
 | 0,_=>.bad|n+1,Z=>O.from Z (t Z) λk=>if k then (match f Z with
     | .next Z'=>aAm t f n Z'|.cnt Z'=>aAm t f n Z'|.brk Z'=>.next Z'|o=>o) else .next Z
noncomputable def aHf:Nat:=1000000
noncomputable def jG(Z:Sg)(i:Nat):Option (Bool×List D):=match Z[i]? with|some (.own pa ds)=>some (pa,ds)|_=>none
noncomputable def put(Z:Sg)(i:Nat)(v:Vl)(f:List D->Option (List D)):O:=match jG (freeze Z v.al) i with
 | some (pa,ds)=>match f ds with|some ds'=>if ds'.length<=lim then .next ((freeze Z v.al).set i (.own (pa||v.pa) ds')) else .bad|none=>.bad
 | none=>.bad
noncomputable def aDI(Z:Sg)(i:Nat)(v:Vl):O:=put Z i v λds=>some (ds++[v.d])
noncomputable def kY(v:Vl):Option (Vl×List D):=match v.fr,v.d with|true,.lst ds=>some (⟨.non,false,v.pa&&!noLs ds,if noLs ds then [] else v.al⟩,ds)|_,_=>none
noncomputable def gW(Z:Sg)(i:Nat)(k:Option Int):R (Vl×Sg):=match jG Z i with
 | some (pa,ds)=>match (match k with|none=>ixN ds.length (-1)|some k=>ixN ds.length k) with
  | some j=>match ds[j]? with|some d=>.ok (Vl.sub ⟨.non,false,pa,[]⟩ d,Z.set i (.own pa (ds.eraseIdx j)))|none=>.bad
  | none=>.bad
 | none=>.bad
noncomputable def uI(e:Sg->E->R Vl):Sg->List Vl->List Arg->R (List Vl×Sg)
 | Z,acc,[]=>.ok (acc,Z)|Z,acc,.e a::as=>do let x<-e Z a;uI e Z (acc++[x]) as
 | Z,acc,.pop j::as=>do
  let (x,Z')<-gW Z j none
  if (bM acc).contains j then .bad else uI e Z' (acc++[x]) as
noncomputable def vT(e:Option (R Vl)):R (Option Int):=match e with
 | none=>.ok none|some x=>do
  let v<-x
  match v.d with
  | .int k=>.iff (aF k) (.ok (some k))|_=>.bad
mutual
noncomputable def ex(Z:Sg):S->O
 | .set t e=>O.from Z (ev P W Z e) λv=>O.from Z (setT (freeze Z v.al) v t) .next|.mov i j=>match Z[j]? with|some (.own pa ds)=>if i=j then .bad else .next ((Z.set j .dead).set i (.own pa ds))|some (.sh pa d)=>.next (Z.set i (.sh (pa&&!noL d) d))|_=>.bad
 | .setIx i k e=>O.from Z (ev P W Z e) λv=>O.from Z (ev P W Z k) λkv=>match kv.d with
  | .int k=>put Z i v λds=>match ixN ds.length k with|some j=>some (ds.set j v.d)|none=>none
  | _=>.bad
 | .app i e=>O.from Z (ev P W Z e) λv=>aDI Z i v|.ext i e=>O.from Z (ev P W Z e) λv=>match kY v with|some (v',ds')=>put Z i v' λds=>some (ds++ds')|none=>.bad
 | .pop t i k=>O.from Z (vT (k.map λe=>ev P W Z e)) λk=>O.from Z (gW Z i k) λ(v,Z')=>match t with|none=>.next Z'|some t=>O.from Z' (setT Z' v t) .next
 | .clr i=>put Z i (.cl .non) λ_=>some []|.ins i k e=>O.from Z (ev P W Z k) λkv=>O.from Z (ev P W Z e) λv=>match kv.d with|.int k=>if 0<=k/\k<1000000 then put Z i v λds=>some (ds.take k.toNat++v.d::ds.drop k.toNat) else .bad|_=>.bad
 | .rev i=>put Z i (.cl .non) λds=>some ds.reverse|.appCall i f as=>O.from Z (uI (λZ a=>ev P W Z a) Z [] as) λ(vs,Z')=>O.from Z' (W f (vs.map (·.d))) λr=>aDI Z' i (dX vs r)|.ret e=>O.from Z (ev P W Z e) .ret|.retv i=>match Z[i]? with|some (.own pa ds)=>.ret ⟨.lst ds,true,pa,[]⟩|_=>O.from Z (cR Z i) .ret
 | .retN=>.ret (.cl .non)|.iff c a b=>O.from Z (tst P W Z c) λk=>if k then exs Z a else exs Z b|.for t it b=>O.from Z (walk P W Z it) λxs=>dY (λZ x=>O.from Z (setT Z x t) λZ'=>exs Z' b) xs.1 (freeze Z xs.2)|.whl c b=>aAm (λZ=>tst P W Z c) (λZ=>exs Z b) aHf Z|.brk=>.brk Z|.cnt=>.cnt Z|.pass=>.next Z|.ex e=>O.from Z (ev P W Z e) λ_=>.next Z|.dnew i=>.next (Z.set i (.dct []))|.dpv i e a=>O.from Z (ev P W Z a) λw=>O.from Z (ev P W Z e) λv=>match Z[i]?,eX v.d with|some (.dct ks),some k=>if ks.length<lim/\aAk w.d=true then .next (Z.set i (.dct (putK ks (k,w.d)))) else .bad|_,_=>.bad
 | .dput i e=>O.from Z (ev P W Z e) λv=>match Z[i]?,eX v.d with|some (.dct ks),some k=>if ks.length<lim then .next (Z.set i (.dct (putK ks (k,.bl true)))) else .bad|_,_=>.bad
 | .dfrom i e=>O.from Z (ev P W Z e) λv=>match v.fr,v.d with
  | true,.lst ds=>(match aAl ds with
   | some ks=>.next (Z.set i (.dct (ks.foldl putK [])))|none=>.bad)
  | _,_=>.bad
 | .rse c keep es=>O.from Z (evs P W Z es) λvs=>.exc (.err c (if keep then vs.map (·.d) else [])) Z|.try b hs=>match exs Z b with|.exc x Z'=>hdl Z' x hs|o=>o
noncomputable def exs(Z:Sg):Ss->O
 | .nil=>.next Z|.cons s ss=>(ex Z s).on λZ'=>exs Z' ss
noncomputable def hdl(Z:Sg)(x:D):Hs->O
 | .nil=>.exc x Z|.cons cs n b hs=>match isI cs P x with
  | some true=>match n with|none=>exs Z b|some i=>match exs (Z.set i (.sh true x)) b with|.next Z'=>.next (Z'.set i .dead)|.brk Z'=>.brk (Z'.set i .dead)|.cnt Z'=>.cnt (Z'.set i .dead)|.exc x Z'=>.exc x (Z'.set i .dead)|o=>o
  | some false=>hdl Z x hs|none=>.bad
end
noncomputable def uJ(f:Nat)(ds:List D):R Rt:=match P.fns[f]? with
 | none=>.bad|some F=>if ds.length=F.np then
  match exs P W ((ds.map λd=>Sl.sh true d)++An (F.ns-F.np) Sl.dead) F.body with
  | .ret v=>.ok (v.d,v.fr,v.pa)|.next _=>.ok (.non,false,false)|.exc x _=>.exc x|_=>.bad
  else .bad
end
noncomputable def call(P:Pg):Nat->Caller
 | 0=>λ_ _=>.bad|n+1=>uJ P (call P n)
end Hp
namespace Hp
open PySem
structure Ct where
 N:List Str
 sc:List (Str×Cr)
 fns:List Str
 cns:List (Str×D)
 cls:List Str
 fn:Bool
 tbs:List Str
noncomputable def aAn(Γ:Ct)(x:Str):Bool:=match Γ.sc.lookup x with|some .local=>true|some .cell=>true|some .free=>true|_=>false
noncomputable def rU(Γ:Ct)(x:Str):Bool:=match Γ.sc.lookup x with|some .local=>true|some .cell=>Γ.fn|_=>false
noncomputable def kZ(sc names:List (Str×Cr)):List (Str×Cr):=names.map λ(n,k)=>if (k==.free&&sc.lookup n==some .cell) then (n,.cell) else (n,k)
noncomputable def rV:A6->Bool
 | .Tuple _ _ _=>true|_=>false
noncomputable def tIx:T->List Nat
 | .n i=>[i]
 | .t is=>is
noncomputable def bX(Γ:Ct)(x:Str):Bool:=match Γ.sc.lookup x with|some .globalImplicit=>true|_=>false
noncomputable def bU(x:Str):Bool:=!(x==("__debug__" : Str))&&!(x==("__classdict__" : Str))
noncomputable def bE(Γ:Ct)(i:Nat)(x:Str):Bool:=(Γ.N[i]?==some x)&&aAn Γ x&&bU x
noncomputable def bB(Γ:Ct)(i:Nat)(x:Str):Bool:=(Γ.N[i]?==some x)&&rU Γ x&&bU x
noncomputable def eqC:D->Const->Bool
 | .non,.none=>true|.bl a,.bool b=>a==b|.int a,.int b=>a==b|.str a,.str b=>a==b|_,_=>false
noncomputable def eqK:D->D->Bool
 | .non,.non=>true|.bl a,.bl b=>a==b|.int a,.int b=>a==b|.str a,.str b=>a==b|_,_=>false
noncomputable def gG:Bi->Str
 | .len => "len" | .list => "list" | .tuple => "tuple" | .min => "min" | .max => "max" | .abs => "abs" | .int => "int" | .str => "str" | .sum => "sum" | .all => "all" | .any => "any" | .sorted => "sorted" | .bool => "bool" | .repr => "repr"
noncomputable def aAo:Bi->Bool
 | .len=>true|.list=>true
 | _=>false
noncomputable def aJv:Cl->Bool
 | .own _=>false|.tValueError=>false|_=>true
noncomputable def uK(Γ:Ct):Cl->Option Str
 | .tInt=>some "int" | .tBool=>some "bool" | .tStr=>some "str" | .tList=>some "list" | .tTuple=>some "tuple" | .tDict=>some "dict" | .tValueError=>some "ValueError"
 | .own c=>Γ.cls[c]?
noncomputable def aDJ(Γ:Ct)(c:Cl):A6->Bool
 | .Name x _=>(uK Γ c==some x)&&bX Γ x&&bU x|_=>false
noncomputable def jP(Γ:Ct):T->A6->Bool
 | .n i,.Name x _=>bB Γ i x|.t is,.Tuple es _ _=>is.length==es.length&&(is.zip es).all λp=>match p.2 with|.Name x _=>bB Γ p.1 x|_=>false
 | _,_=>false
noncomputable def dP:A6->List Str
 | .Name x _=>[x]
 | .Tuple es _ _=>es.filterMap fun|.Name x _=>some x|_=>none
 | _=>[]
noncomputable def uL:E->Bool
 | .c (.int i)=>i==0|_=>false
noncomputable def asC(e:A6):Option { c:Const // ∃k p,e=.Constant c k p }:=match e with|.Constant c k p=>some ⟨c,k,p,rfl⟩|_=>none
noncomputable def asN(e:A6):Option { x:Str // ∃p,e=.Name x p }:=match e with|.Name x p=>some ⟨x,p,rfl⟩|_=>none
noncomputable def aDK(e:A6):Option { r:A6×Operator×A6 // ∃p,e=.BinOp r.1 r.2.1 r.2.2 p }:=match e with|.BinOp l o r p=>some ⟨(l,o,r),p,rfl⟩|_=>none
noncomputable def aJw(e:A6):Option { r:UnaryOp×A6 // ∃p,e=.UnaryOp r.1 r.2 p }:=match e with|.UnaryOp o x p=>some ⟨(o,x),p,rfl⟩|_=>none
noncomputable def aHg(e:A6):Option { r:Lv×List A6×Eg // e=.BoolOp r.1 r.2.1 r.2.2 }:=match e with|.BoolOp o xs p=>some ⟨(o,xs,p),rfl⟩|_=>none
noncomputable def aJx(e:A6):Option { r:A6×A6×A6 // ∃p,e=.IfExp r.1 r.2.1 r.2.2 p }:=match e with|.IfExp t a b p=>some ⟨(t,a,b),p,rfl⟩|_=>none
noncomputable def aDL(e:A6):Option { r:A6×List CmpOp×List A6 // ∃p,e=.Compare r.1 r.2.1 r.2.2 p }:=match e with|.Compare l os rs p=>some ⟨(l,os,rs),p,rfl⟩|_=>none
noncomputable def aAp(e:A6):Option { r:A6×A6 // ∃p,e=.Subscript r.1 r.2 p }:=match e with|.Subscript x i p=>some ⟨(x,i),p,rfl⟩|_=>none
noncomputable def aJy(e:A6):Option { r:Option A6×Option A6 // ∃p,e=.Slice r.1 r.2 none p }:=match e with|.Slice l h none p=>some ⟨(l,h),p,rfl⟩|_=>none
noncomputable def aHh(e:A6):Option { r:List A6 // ∃k p,e=.Tuple r k p }:=match e with|.Tuple xs k p=>some ⟨xs,k,p,rfl⟩|_=>none
noncomputable def aHi(e:A6):Option { r:List A6 // ∃p,e=.List r p }:=match e with|.List xs p=>some ⟨xs,p,rfl⟩|_=>none
noncomputable def jQ(e:A6):Option { r:Str×List A6 // ∃p1 p2,e=.Call (.Name r.1 p1) r.2 [] p2 }:=match e with|.Call (.Name x p1) xs [] p2=>some ⟨(x,xs),p1,p2,rfl⟩|_=>none
noncomputable def aJz(e:A6):Option { r:A6×List Comprehension×DB // ∃p,e=.ListComp r.1 r.2.1 r.2.2 p }:=match e with|.ListComp e gs s p=>some ⟨(e,gs,s),p,rfl⟩|_=>none
noncomputable def oB{α:Type}(o:Option α)(f:α->Bool):Bool:=match o with|some a=>f a|none=>false
noncomputable def oS{α:Type}{q:α->Prop}(o:Option { a:α // q a })(f:α->Bool):Bool:=match o with|some a=>f a.1|none=>false
mutual
noncomputable def aL(Γ:Ct):E->A6->Bool
 | .c d,e=>oS (asC e) (eqC d)||oS (asN e) λx=>bX Γ x&&bU x&&oB (Γ.cns.lookup x) (eqK d)|.v i,e=>oS (asN e) (bE Γ i)|.op o a b,e=>oS (aDK e) λp=>o==p.2.1&&aL Γ a p.1&&aL Γ b p.2.2|.neg _,_=>false|.nt a,e=>oS (aJw e) λp=>p.1==.Not&&aL Γ a p.2|.an a b,e=>oS (aHg e) λp=>p.1==.And&&(match p.2.1 with
  | [x,y]=>aL Γ a x&&aL Γ b y|x::y::z::r=>aL Γ a x&&aL Γ b (.BoolOp .And (y::z::r) p.2.2)|_=>false)
 | .orr a b,e=>oS (aHg e) λp=>p.1==.Or&&(match p.2.1 with
  | [x,y]=>aL Γ a x&&aL Γ b y|x::y::z::r=>aL Γ a x&&aL Γ b (.BoolOp .Or (y::z::r) p.2.2)|_=>false)
 | .ife t a b,e=>oS (aJx e) λp=>aL Γ t p.1&&aL Γ a p.2.1&&aL Γ b p.2.2|.cmp o a b,e=>oS (aDL e) λp=>(match p.2.1,p.2.2 with
  | [o'],[r]=>o==o'&&aL Γ a p.1&&aL Γ b r|_,_=>false)
 | .cmp2 _ _ _ _ _,_=>false|.dnin a j,e=>oS (aDL e) λp=>(match p.2.1,p.2.2 with
  | [o'],[r]=>KU==o'&&aL Γ a p.1&&oS (asN r) λx=>bE Γ j x|_,_=>false)
 | .dget _ _,_=>false|.din _ _,_=>false|.dgd _ _ _,_=>false|.srtD j,e=>oS (jQ e) λp=>(match p.2 with
  | [s]=>oS (jQ s) λq=>(p.1==("sorted" : Str))&&bX Γ p.1&&(q.1==("list" : Str))&&bX Γ q.1&&(match q.2 with|[x]=>oS (asN x) (bE Γ j)|_=>false)|_=>false)
 | .sst a,e=>oS (jQ e) λp=>(match p.2 with
  | [s]=>oS (jQ s) λq=>(p.1==("sorted" : Str))&&bX Γ p.1&&(q.1==("set" : Str))&&bX Γ q.1&&(match q.2 with|[x]=>aL Γ a x|_=>false)|_=>false)
 | .sop o a b,e=>oS (jQ e) λp=>(match p.2 with
  | [s]=>oS (aDK s) λq=>oS (jQ q.1) λl=>oS (jQ q.2.2) λr=>(p.1==("sorted" : Str))&&bX Γ p.1&&(o==q.2.1)&&(l.1==("set" : Str))&&bX Γ l.1&&(r.1==("set" : Str))&&bX Γ r.1&&(match l.2,r.2 with|[x],[y]=>aL Γ a x&&aL Γ b y|_,_=>false)|_=>false)
 | .dlen _,_=>false|.idx a b,e=>oS (aAp e) λp=>aL Γ a p.1&&aL Γ b p.2|.sli a lo hi,e=>oS (aAp e) λp=>oS (aJy p.2) λq=>aL Γ a p.1&&chkO Γ lo q.1&&chkO Γ hi q.2|.tup es,e=>oS (aHh e) λxs=>decide (xs.length<=1000)&&chkEs Γ es xs|.lst es,e=>oS (aHi e) λxs=>decide (xs.length<=1000)&&chkEs Γ es xs|.call f es,e=>oS (jQ e) λp=>(Γ.fns[f]?==some p.1)&&bX Γ p.1&&bU p.1&&chkEs Γ es p.2|.bi b es,e=>oS (jQ e) λp=>aAo b&&(gG b==p.1)&&bX Γ p.1&&bU p.1&&!p.2.isEmpty&&chkEs Γ es p.2|.mth _ _ _,_=>false|.numset _,_=>false|.tget _ _,_=>false|.lzip _ _,_=>false|.isi a cs,e=>oS (jQ e) λp=>(match cs,p.2 with
  | [c],[x,y]=>(p.1==("isinstance" : Str))&&bX Γ p.1&&aJv c&&aL Γ a x&&aDJ Γ c y|_,_=>false)
 | .comp k caps t it cond elt,e=>oS (aJz e) λp=>(match p.2.1 with
  | [⟨tg,iter,ifs,as⟩]=>
   as==0&&(dP tg).length==k&&(caps.all λi=>decide (i<Γ.N.length))&&decide caps.Nodup&&p.2.2.kind==.function&&decide (dP tg++caps.filterMap λi=>Γ.N[i]?).Nodup &&
   ((caps.filterMap λi=>Γ.N[i]?).all λx=>p.2.2.names.lookup x==some .free&&Γ.sc.lookup x==some .cell) &&
   (p.2.2.names.all λq=>q.2 != .cell&&(q.2 != .local||p.2.2.names.lookup q.1==some .local)&&(q.2 != .free||Γ.sc.lookup q.1==some .cell)) &&
   ((tIx t).all λi=>decide (i<k))&&decide (ifs.length<=1) &&
   jP { Γ with N:=dP tg++caps.filterMap λi=>Γ.N[i]?,sc:=kZ Γ.sc p.2.2.names,fn:=false } t tg&&chkI Γ (rV tg) it iter &&
   chkEs { Γ with N:=dP tg++caps.filterMap λi=>Γ.N[i]?,sc:=kZ Γ.sc p.2.2.names,fn:=false } cond ifs &&
   aL { Γ with N:=dP tg++caps.filterMap λi=>Γ.N[i]?,sc:=kZ Γ.sc p.2.2.names,fn:=false } elt p.1
  | _=>false)
 | .dic _ _,_=>false|.attr _ _,_=>false
noncomputable def chkEs(Γ:Ct):Es->List A6->Bool
 | .nil,[]=>true|.cons e es,x::xs=>aL Γ e x&&chkEs Γ es xs|_,_=>false
noncomputable def chkO(Γ:Ct):Es->Option A6->Bool
 | .nil,none=>true|.cons e .nil,some x=>aL Γ e x|_,_=>false
noncomputable def chkI(Γ:Ct)(tt:Bool):It->A6->Bool
 | .rng a b,e=>oS (jQ e) λp=>(p.1==("range" : Str))&&bX Γ p.1&&(match p.2 with
  | [x]=>uL a&&aL Γ b x|[x,y]=>aL Γ a x&&aL Γ b y|_=>false)
 | .zip _ _,_=>false|.seq c,x=>aL Γ c x|.enum _,_=>false|.rev _,_=>false
end
noncomputable def fC:A6->Bool
 | .ListComp _ _ _ _=>true|.SetComp _ _ _ _=>true|.DictComp _ _ _ _ _=>true|_=>false
noncomputable def lB:A6->Bool
 | .Tuple _ _ _=>true|.List _ _=>true|_=>false
noncomputable def aEN:A6->Bool
 | .Name _ _=>true|_=>false
noncomputable def gX(Γ:Ct)(i:Nat)(m:Str):A6->Option (List A6)
 | .Call (.Attribute (.Name x _) a ap) xs [] cp=>if (a==m)&&bE Γ i x&&(ap.endLine==cp.line) then some xs else none|_=>none
noncomputable def aJA(e:A6):Option { r:Unit // ∃p,e=.Dict [] [] p }:=match e with|.Dict [] [] p=>some ⟨(),p,rfl⟩|_=>none
noncomputable def aAq(s:CK):Option { r:A6×A6 // ∃p,s=.Assign [r.1] r.2 p }:=match s with|.Assign [t] v p=>some ⟨(t,v),p,rfl⟩|_=>none
noncomputable def sEx(s:CK):Option { r:A6 // ∃p,s=.Expr r p }:=match s with|.Expr v p=>some ⟨v,p,rfl⟩|_=>none
noncomputable def aEO(s:CK):Option { r:Option A6 // ∃p,s=.Return r p }:=match s with|.Return v p=>some ⟨v,p,rfl⟩|_=>none
noncomputable def sIf(s:CK):Option { r:A6×List CK×List CK // ∃p,s=.If r.1 r.2.1 r.2.2 p }:=match s with|.If t x y p=>some ⟨(t,x,y),p,rfl⟩|_=>none
noncomputable def aJB(s:CK):Option { r:A6×A6×List CK // ∃p,s=.For r.1 r.2.1 r.2.2 [] p }:=match s with|.For t i b [] p=>some ⟨(t,i,b),p,rfl⟩|_=>none
noncomputable def aJC(s:CK):Option { r:Unit // ∃p,s=.Break p }:=match s with|.Break p=>some ⟨(),p,rfl⟩|_=>none
noncomputable def aJD(s:CK):Option { r:Unit // ∃p,s=.Continue p }:=match s with|.Continue p=>some ⟨(),p,rfl⟩|_=>none
noncomputable def aHj(s:CK):Option { r:Unit // ∃p,s=.Pass p }:=match s with|.Pass p=>some ⟨(),p,rfl⟩|_=>none
mutual
noncomputable def dZ(Γ:Ct):S->CK->Bool
 | .set t e,s=>oS (aAq s) λr=>jP Γ t r.1&&aL Γ e r.2&&(aEN r.1||!lB r.2)|.mov i j,s=>oS (aAq s) λr=>oS (asN r.1) λx=>oS (asN r.2) λy=>bB Γ i x&&bE Γ j y|.dnew i,s=>oS (aAq s) λr=>oS (asN r.1) λx=>bB Γ i x&&oS (aJA r.2) λ_=>true|.dpv _ _ _,_=>false|.dput i e,s=>oS (aAq s) λr=>oS (aAp r.1) λu=>oS (asN u.1) λx=>bE Γ i x&&aL Γ e u.2&&aL Γ (.c (.bl true)) r.2|.dfrom _ _,_=>false|.setIx _ _ _,_=>false|.app i e,s=>oS (sEx s) λc=>(match gX Γ i "append" c with|some [a]=>aL Γ e a|_=>false)
 | .appCall _ _ _,_=>false|.ext i e,s=>oS (sEx s) λc=>(match gX Γ i "extend" c with|some [a]=>aL Γ e a|_=>false)
 | .pop t i k,s=>(match t,k with
  | none,none=>oS (sEx s) λc=>(match gX Γ i "pop" c with|some []=>true|_=>false)
  | none,some _=>false|some t,none=>oS (aAq s) λr=>jP Γ t r.1&&(match gX Γ i "pop" r.2 with|some []=>true|_=>false)|some _,some _=>false)
 | .clr _,_=>false|.rev _,_=>false|.ret e,s=>oS (aEO s) λr=>oB r (aL Γ e)|.retv i,s=>oS (aEO s) λr=>oB r λv=>oS (asN v) (bE Γ i)|.retN,s=>oS (aEO s) λr=>r.isNone|.iff c a b,s=>oS (sIf s) λr=>aL Γ c r.1&&chkSs Γ a r.2.1&&chkSs Γ b r.2.2|.for t it b,s=>oS (aJB s) λr=>jP Γ t r.1&&chkI Γ (rV r.1) it r.2.1&&chkSs Γ b r.2.2|.whl _ _,_=>false|.brk,s=>oS (aJC s) λ_=>true|.cnt,s=>oS (aJD s) λ_=>true|.pass,s=>oS (aHj s) λ_=>true|.ex e,s=>oS (sEx s) λv=>aL Γ e v&&!fC v|.rse _ _ _,_=>true|.ins _ _ _,_=>false|.try _ _,_=>false
noncomputable def chkSs(Γ:Ct):Ss->List CK->Bool
 | .nil,[]=>true|.cons s ss,x::xs=>dZ Γ s x&&chkSs Γ ss xs|_,_=>false
end
end Hp
namespace Hp
open PySem PySem.Spec PyProof.Rows L2
theorem gY(n:Nat){d:Nat}(hd:d<=n):∀lo,sIx n d lo<=n
 | none=>hd|some v=>by unfold sIx;dsimp only;split <;> omega
theorem rW(lo hi:Option Int)(n:Nat):B1 lo hi 1 n=B1 (some ((sIx n 0 lo:Nat):Int)) (some ((sIx n n hi:Nat):Int)) 1 n:=by
 have q:(1:Int)>0:=by decide
 have key:∀(d:Nat) (hd:d<=n) (o:Option Int),(match o with|none=>(d:Int)|some i=>max 0 (min (if i<0 then i+(n:Int) else i) (n:Int)))=((sIx n d o:Nat):Int):=by
  intro d hd o;cases o with
  | none=>rfl|some i=>unfold sIx;dsimp only;split <;> omega
 have g:∀(m:Nat),m<=n->max (0:Int) (min (if (m:Int)<0 then (m:Int)+(n:Int) else (m:Int)) (n:Int))=(m:Int):=by intro m I;split <;> omega
 unfold B1;simp only[q,if_true];have B:=key 0 (AS _) lo;have G:=key n (Ak _) hi;have f1:=g _ (gY n (AS _) lo);have f2:=g _ (gY n (Ak _) hi);rw[f1,f2];cases lo <;> cases hi <;> simp_all
theorem nC(x:Str)(lo hi:Option Int):C0 x lo hi=uH x lo hi:=by
 have I:x.cps.toList.length=x.length:=by show _=x.cps.size;simp
 have e:C0 x lo hi=C0 x (some ((sIx x.length 0 lo:Nat):Int)) (some ((sIx x.length x.length hi:Nat):Int)):=by unfold C0;rw[rW]
 rw[e];unfold uH cut;rw[I];by_cases h:sIx x.length 0 lo<=sIx x.length x.length hi;exact StrLaws.sliceText_nat x h (gY _ (Ak _) hi);have h0:sIx x.length x.length hi-sIx x.length 0 lo=0:=by omega
 have L:=gY x.length (AS _) lo;have G:=gY x.length (Ak _) hi;rw[h0,Ha];generalize sIx x.length 0 lo=i at *;generalize sIx x.length x.length hi=j at *;have B:B1 (some (i:Int)) (some (j:Int)) 1 x.length=[]:=by
  unfold B1;have q:(1:Int)>0:=by decide
  simp only[q,if_true];rw[if_neg (by omega),if_neg (by omega)];have a1:max (0:Int) (min (i:Int) (x.length:Int))=i:=by omega
  have g:max (0:Int) (min (j:Int) (x.length:Int))=j:=by omega
  rw[a1,g];unfold sliceRange;simp;omega
 unfold C0;rw[B];simp;intro M;omega
noncomputable def aAr:V->Option Int->Option Int->L2.Hp->VK->Prop:=λx lo hi H Q=>∃a,x=.str a/\a.length<=sizeLine/\Q (.str (uH a lo hi)) H
section
variable {X:Cx}
theorem aEP:SlR X aAr:=by
 intro pins s Z H x v vl vu lo hi sl Q I rx hs pl M h;obtain⟨a,rfl,hz,q⟩:=h;obtain⟨t,rfl⟩:=rx;have g:∀(l u:Option (Int×Lq)),l.map (·.1)=lo->u.map (·.1)=hi->s.heap.IsSlice sl l u none->Am (A4 X.prog X.w) X.A (Gu (.str a t) (.ref sl)) (EP X pins Z Q) X.xe s:=by
  intro l u W e2 h;refine wpAny_getItem_str_slice h rfl ?_;have e:C0 a lo hi=uH a lo hi:=nC a lo hi;unfold C0 at e;subst W e2;show Made.post (if ((1:Int)==1&&(B1 (l.map (·.1)) (u.map (·.1)) 1 a.length).length==a.length)=true then _ else _) _ s;split;rename_i G;rw[if_pos G] at e;exact⟨.str a,H,I,⟨t,rfl⟩,by rw[e];exact q⟩;rename_i G;rw[if_neg G] at e;have B:(uH a (l.map (·.1)) (u.map (·.1))).length<=sizeLine:=by refine A2 ?_ hz;show(cut a.cps.toList _ _).toArray.size<=a.cps.size;unfold cut;rw[Aj,Bo,BC,AK];omega
  refine⟨by rw[<-e] at B;exact B,.str (uH a (l.map (·.1)) (u.map (·.1))),H,I.tok _,?_,q⟩;rw[<-e];exact⟨_,rfl⟩
 refine⟨"str",_,IK.lookup,rfl,?_⟩;cases pl with
 | none=>
  cases M with
  | none=>exact g none none rfl rfl hs|int j L=>exact g none (some (j,L)) rfl rfl hs
 | int i U=>
  cases M with
  | none=>exact g (some (i,U)) none rfl rfl hs|int j L=>exact g (some (i,U)) (some (j,L)) rfl rfl hs
end
end Hp
namespace Hp
open PySem L2
abbrev Fg:=A1
noncomputable def kD:Key->D
 | .inl i=>.int i|.inr x=>.str x
mutual
noncomputable def Rep(K:Fg)(H:Hp)(ex:Addr->Prop):D->V->Prop
 | .non,v=>v=.non|.bl b,v=>v=.bl b|.int i,v=>v=.int i|.str x,v=>v=.str x|.tup ds,v=>∃a xs,v=.ref a/\SqT K H a xs/\Reps K H ex ds xs|.lst ds,v=>∃a xs,v=.ref a/\SqL K H a xs/\¬ ex a/\Reps K H ex ds xs|.dic kvs,v=>∃a ks,v=.ref a/\H a=some (.dK ks)/\RepKV K H ex kvs ks|.err _ _,_=>False
noncomputable def Reps(K:Fg)(H:Hp)(ex:Addr->Prop):List D->List V->Prop
 | [],xs=>xs=[]
 | d::ds,xs=>∃x r,xs=x::r/\Rep K H ex d x/\Reps K H ex ds r
noncomputable def RepKV(K:Fg)(H:Hp)(ex:Addr->Prop):List (D×D)->List (Key×V)->Prop
 | [],ks=>ks=[]
 | (k,d)::r,ks=>∃k' x r',ks=(k',x)::r'/\kD k'=k/\Rep K H ex d x/\RepKV K H ex r r'
end
section
variable {K:Fg} {H H':Hp} {ex ex':Addr->Prop}
theorem aG.seqT{a:Addr}{xs:List V}(e:aG H H')(h:SqT K H a xs):SqT K H' a xs:=by rcases h with(h|⟨o,h⟩)|h;exact .inl (.inl (e _ _ h));exact .inl (.inr ⟨o,e _ _ h⟩);exact .inr h
mutual
theorem Rep.imp(G:∀a xs,SqT K H a xs->SqT K H' a xs)(B:∀a xs,¬ ex a->SqL K H a xs->¬ ex' a/\SqL K H' a xs)(g:∀a ks,H a=some (.dK ks)->H' a=some (.dK ks)) :
 ∀(d:D) (v:V),Rep K H ex d v->Rep K H' ex' d v
 | .non,_,h=>h|.bl _,_,h=>h|.int _,_,h=>h|.str _,_,h=>h|.tup ds,_,h=>by obtain⟨a,xs,e,q,r⟩:=h;exact⟨a,xs,e,G a xs q,Reps.imp G B g ds xs r⟩|.lst ds,_,h=>by obtain⟨a,xs,e,q,n,r⟩:=h;obtain⟨I,L⟩:=B a xs n q;exact⟨a,xs,e,L,I,Reps.imp G B g ds xs r⟩|.dic kvs,_,h=>by obtain⟨a,ks,e,q,r⟩:=h;exact⟨a,ks,e,g a ks q,RepKV.imp G B g kvs ks r⟩|.err _ _,_,h=>h.elim
theorem Reps.imp(B:∀a xs,SqT K H a xs->SqT K H' a xs)(q:∀a xs,¬ ex a->SqL K H a xs->¬ ex' a/\SqL K H' a xs)(g:∀a ks,H a=some (.dK ks)->H' a=some (.dK ks)) :
 ∀(ds:List D) (xs:List V),Reps K H ex ds xs->Reps K H' ex' ds xs
 | [],_,h=>h|d::ds,_,h=>by obtain⟨x,r,e,G,I⟩:=h;exact⟨x,r,e,Rep.imp B q g d x G,Reps.imp B q g ds r I⟩
theorem RepKV.imp(B:∀a xs,SqT K H a xs->SqT K H' a xs)(q:∀a xs,¬ ex a->SqL K H a xs->¬ ex' a/\SqL K H' a xs)(g:∀a ks,H a=some (.dK ks)->H' a=some (.dK ks)) :
 ∀(ds:List (D×D)) (xs:List (Key×V)),RepKV K H ex ds xs->RepKV K H' ex' ds xs
 | [],_,h=>h|(k,d)::ds,_,h=>by obtain⟨M,x,r,e,G,I,L⟩:=h;exact⟨M,x,r,e,G,Rep.imp B q g d x I,RepKV.imp B q g ds r L⟩
end
theorem Rep.weak{d:D}{v:V}(h:Rep K H ex d v)(e:∀a,ex' a->ex a):Rep K H ex' d v:=Rep.imp (λ_ _ q=>q) (λa _ n q=>⟨λz=>n (e a z),q⟩) (λ_ _ q=>q) d v h
theorem Reps.weak{d:List D}{v:List V}(h:Reps K H ex d v)(e:∀a,ex' a->ex a):Reps K H ex' d v:=Reps.imp (λ_ _ q=>q) (λa _ n q=>⟨λz=>n (e a z),q⟩) (λ_ _ q=>q) d v h
theorem Rep.grow{d:D}{v:V}(h:Rep K H ex d v)(s:aG H H'):Rep K H' ex d v:=Rep.imp (λ_ _ q=>aG.seqT s q) (λ_ _ n q=>⟨n,s.seq q⟩) (λ_ _ q=>s _ _ q) d v h
theorem Reps.grow{d:List D}{v:List V}(h:Reps K H ex d v)(s:aG H H'):Reps K H' ex d v:=Reps.imp (λ_ _ q=>aG.seqT s q) (λ_ _ n q=>⟨n,s.seq q⟩) (λ_ _ q=>s _ _ q) d v h
theorem Rep.keep{d:D}{v:V}(h:Rep K H ex d v)(s:∀a o,H a=some o->(∀xs,o=.lst xs->¬ ex a)->(∀φ,o≠.ext φ)->H' a=some o):Rep K H' ex d v:=by refine Rep.imp (λa xs q=>?_) (λa xs n q=>⟨n,?_⟩) (λa ks q=>s a _ q (λxs e=>by cases e) (λ_ z=>by cases z)) d v h;rcases q with(q|⟨o,q⟩)|q;exact .inl (.inl (s _ _ q (λxs e=>by cases e) (λ_ z=>by cases z)));exact .inl (.inr ⟨o,s _ _ q (λxs e=>by cases e) (λ_ z=>by cases z)⟩);exact .inr q;rcases q with(q|⟨o,q⟩)|q;exact .inl (.inl (s _ _ q (λ_ _=>n) (λ_ z=>by cases z)));exact .inl (.inr ⟨o,s _ _ q (λxs e=>by cases e) (λ_ z=>by cases z)⟩);exact .inr q
theorem Reps.keep{d:List D}{v:List V}(h:Reps K H ex d v)(s:∀a o,H a=some o->(∀xs,o=.lst xs->¬ ex a)->(∀φ,o≠.ext φ)->H' a=some o):Reps K H' ex d v:=by refine Reps.imp (λa xs q=>?_) (λa xs n q=>⟨n,?_⟩) (λa ks q=>s a _ q (λxs e=>by cases e) (λ_ z=>by cases z)) d v h;rcases q with(q|⟨o,q⟩)|q;exact .inl (.inl (s _ _ q (λxs e=>by cases e) (λ_ z=>by cases z)));exact .inl (.inr ⟨o,s _ _ q (λxs e=>by cases e) (λ_ z=>by cases z)⟩);exact .inr q;rcases q with(q|⟨o,q⟩)|q;exact .inl (.inl (s _ _ q (λ_ _=>n) (λ_ z=>by cases z)));exact .inl (.inr ⟨o,s _ _ q (λxs e=>by cases e) (λ_ z=>by cases z)⟩);exact .inr q
mutual
theorem Rep.free:∀(d:D) (v:V),noL d=true->Rep K H ex d v->Rep K H ex' d v
 | .non,_,_,h=>h|.bl _,_,_,h=>h|.int _,_,_,h=>h|.str _,_,_,h=>h|.tup ds,_,n,h=>by obtain⟨a,xs,e,q,r⟩:=h;exact⟨a,xs,e,q,Reps.free ds xs (by simpa[noL] using n) r⟩|.lst ds,_,n,_=>by simp[noL] at n|.dic kvs,_,n,_=>by simp[noL] at n|.err _ _,_,n,_=>by simp[noL] at n
theorem Reps.free:∀(ds:List D) (xs:List V),noLs ds=true->Reps K H ex ds xs->Reps K H ex' ds xs
 | [],_,_,h=>h|d::ds,_,n,h=>by obtain⟨x,r,e,g,q⟩:=h;simp only[noLs,bA] at n;exact⟨x,r,e,Rep.free d x n.1 g,Reps.free ds r n.2 q⟩
end
theorem Reps.length:∀{ds:List D} {xs:List V},Reps K H ex ds xs->ds.length=xs.length
 | [],_,h=>by rw[show _=[] from h];rfl|d::ds,_,h=>by obtain⟨x,r,e,_,g⟩:=h;subst e;rw[lC,lC,Reps.length g]
theorem Reps.get:∀{ds:List D} {xs:List V} {j:Nat} {d:D},Reps K H ex ds xs->ds[j]? = some d->∃x,xs[j]? = some x/\Rep K H ex d x
 | [],_,_,_,_,e=>by simp at e|d::ds,_,0,_,h,e=>by obtain⟨x,r,g,B,_⟩:=h;subst g;simp at e;subst e;exact⟨x,rfl,B⟩|d::ds,_,j+1,d',h,e=>by obtain⟨x,r,g,_,G⟩:=h;subst g;obtain⟨y,I,q⟩:=Reps.get (j:=j) (d:=d') G (by simpa using e);exact⟨y,by simpa using I,q⟩
theorem Reps.get'{ds:List D}{xs:List V}{j:Nat}{x:V}(h:Reps K H ex ds xs)(e:xs[j]? = some x):∃d,ds[j]? = some d/\Rep K H ex d x:=by
 have G:=h.length;have B:j<xs.length:=(Au.mp e).1;obtain⟨d,hd⟩:∃d,ds[j]? = some d:=⟨ds[j],Ah (by omega)⟩
 obtain⟨y,g,q⟩:=h.get hd;rw[e] at g;cases g;exact⟨d,hd,q⟩
theorem Reps.nil:Reps K H ex [] []:=rfl
theorem Reps.cons{d:D}{ds:List D}{x:V}{xs:List V}(h:Rep K H ex d x)(t:Reps K H ex ds xs):Reps K H ex (d::ds) (x::xs):=⟨x,xs,rfl,h,t⟩
theorem Reps.append:∀{ds es:List D} {xs ys:List V},Reps K H ex ds xs->Reps K H ex es ys->Reps K H ex (ds++es) (xs++ys)
 | [],_,_,_,h,t=>by rw[show _=[] from h];exact t|d::ds,_,_,_,h,t=>by obtain⟨x,r,e,g,q⟩:=h;subst e;exact⟨x,_,rfl,g,Reps.append q t⟩
theorem Reps.take:∀{ds:List D} {xs:List V} (n:Nat),Reps K H ex ds xs->Reps K H ex (ds.take n) (xs.take n)
 | _,_,0,_=>by simp[Reps]|[],_,n+1,h=>by rw[show _=[] from h];simp[Reps]|d::ds,_,n+1,h=>by obtain⟨x,r,e,g,q⟩:=h;subst e;exact⟨x,_,rfl,g,Reps.take n q⟩
theorem Reps.drop:∀{ds:List D} {xs:List V} (n:Nat),Reps K H ex ds xs->Reps K H ex (ds.drop n) (xs.drop n)
 | _,_,0,h=>h|[],_,n+1,h=>by rw[show _=[] from h];simp[Reps]|d::ds,_,n+1,h=>by obtain⟨x,r,e,q,g⟩:=h;subst e;exact Reps.drop n g
theorem Reps.set:∀{ds:List D} {xs:List V} {d:D} {x:V} (j:Nat),Reps K H ex ds xs->Rep K H ex d x->Reps K H ex (ds.set j d) (xs.set j x)
 | [],_,_,_,_,h,_=>by rw[show _=[] from h];simp[Reps]|d::ds,_,_,_,0,h,q=>by obtain⟨x,r,e,B,g⟩:=h;subst e;exact⟨_,_,rfl,q,g⟩|d::ds,_,_,_,j+1,h,q=>by obtain⟨x,r,e,B,g⟩:=h;subst e;exact⟨x,_,rfl,B,Reps.set j g q⟩
theorem Reps.eraseIdx:∀{ds:List D} {xs:List V} (j:Nat),Reps K H ex ds xs->Reps K H ex (ds.eraseIdx j) (xs.eraseIdx j)
 | [],_,_,h=>by rw[show _=[] from h];simp[Reps]|d::ds,_,0,h=>by obtain⟨x,r,e,q,g⟩:=h;subst e;exact g|d::ds,_,j+1,h=>by obtain⟨x,r,e,q,g⟩:=h;subst e;exact⟨x,_,rfl,q,Reps.eraseIdx j g⟩
theorem Reps.reverse:∀{ds:List D} {xs:List V},Reps K H ex ds xs->Reps K H ex ds.reverse xs.reverse
 | [],_,h=>by rw[show _=[] from h];simp[Reps]|d::ds,_,h=>by obtain⟨x,r,e,g,q⟩:=h;subst e;rw[Et,Et];exact(Reps.reverse q).append (.cons g .nil)
theorem Reps.flat:∀{ds:List D} {xs:List V},Reps K H ex ds xs->∀k:Nat,Reps K H ex (An k ds).flatten (An k xs).flatten
 | _,_,_,0=>by simp[Reps]|ds,xs,h,k+1=>by rw[Bz,Bz,CV,CV];exact h.append (Reps.flat h k)
end
end Hp
namespace Hp
open PySem PySem.Spec PyProof.Rows L2
theorem hC(a b:Str):(a++b).length=a.length+b.length:=by show(a.cps++b.cps).size=_;rw[Ir];rfl
theorem aCw{x:Str}(h:aAh x=true):(reprText x).length=x.length+2:=by
 have q:reprQuote x=39:=by
  unfold reprQuote;have:x.cps.contains 39=false:=by
   cases z:x.cps.contains 39 with
   | false=>rfl|true=>
    have I:39∈x.cps:=by simpa using z
    unfold aAh at h;rw[HI] at h;have:=h 39 I;simp at this
  rw[this];rfl
 have all:∀c∈AA 26,(DI 39 (97+c)).length=1:=by decide +kernel
 have one:∀c∈x.cps.toList,(DI 39 c).length=1:=λc G=>by unfold aAh at h;rw[HI] at h;have:=h c (by simpa using G);simp only[bA,Ax] at this;have z:=all (c-97) (by rw[Bb];omega);rwa [show 97+(c-97)=c by omega] at z
 have g:∀(l:List Nat) (n:Nat),(∀c∈l,(DI 39 c).length=1)->l.foldl (λn c=>n+(DI 39 c).length) n=n+l.length:=by
  intro l
  induction l with
  | nil=>intro n _;rfl|cons c l L=>intro n B;rw[C3,L _ λd hd=>B d (Af _ hd),B c Ai,lC];omega
 have e:=reprLen_eq x;rw[q,<-HJ,g _ _ one] at e;rw[<-e];show 2+x.cps.toList.length=x.cps.size+2;rw[AK];omega
mutual
theorem aAs:∀d:D,wt d<lim->(eW d).shown.length<=wt d/\(eW d).showable=true/\(eW d).hasDict=false/\(eW d).depth=dpt d
 | .non,_=>by simp only[eW,Ey,D1,DJ,Ez,dpt,wt];decide|.bl b,_=>by simp only[eW,Ey,D1,DJ,Ez,dpt,wt];cases b <;> decide|.int i,h=>by rw[wt] at h;by_cases hi:i.natAbs<1000000000;have e:=int_text_length_le10 (k:=9) (by decide) (show i.natAbs<10 ^ 9 from hi);have l:=log2_of hi;simp only[eW,Ey,D1,DJ,Ez,dpt,wt,if_pos hi,Aw l,Iu,JC];rw[PySem.ofString_length];omega;rw[if_neg hi] at h;exact absurd h (AL _)|.str x,h=>by rw[wt] at h;by_cases G:aAh x=true;have e:=aCw G;simp only[eW,Ey,D1,DJ,Ez,dpt,wt,if_pos G,e,Iu,Ak];rw[if_neg G] at h;exact absurd h (AL _)|.tup ds,h=>by
  rw[wt] at h;obtain⟨M,g,q,B⟩:=shown_les ds (by omega);have e:(tupleText (Bh (toPys ds))).length<=3+L7 (Bh (toPys ds)):=by
   unfold tupleText;rw[hC,hC];have I:((("(" : String):Str)).length=1:=rfl;have L:(((if (Bh (toPys ds)).length==1 then ",)" else ")" : String):Str)).length<=2:=by split <;> decide
   have W:(Str.join ", " (Bh (toPys ds))).length<=L7 (Bh (toPys ds)):=by
    by_cases z:Bh (toPys ds)=[]
    rw[z];decide;have:=join_length_add _ z;omega
   omega
  simp only[eW,Ey,D1,DJ,Ez,dpt,wt,g,q,B,Iu,JC];omega
 | .lst ds,h=>by
  rw[wt] at h;obtain⟨M,g,q,B⟩:=shown_les ds (by omega);have e:(listText (Bh (toPys ds))).length<=2+L7 (Bh (toPys ds)):=by
   unfold listText;rw[hC];have I:((("]" : String):Str)).length=1:=rfl;have L:(textFrom 0 "[" (Bh (toPys ds))).length<=1+L7 (Bh (toPys ds)):=by
    cases Bh (toPys ds) with
    | nil=>decide|cons t r=>have z:=textFrom_length_pos r 1 (("[" : Str)++(if (0:Nat)>0 then ", " else "" : String)++t) (Fl 0);show(textFrom 1 (("[" : Str)++(if (0:Nat)>0 then ", " else "" : String)++t) r).length<=_;rw[z,hC,hC,piled_cons];have U:((("[" : String):Str)).length=1:=rfl;have I:(((if (0:Nat)>0 then ", " else "" : String):Str)).length=0:=rfl;omega
   omega
  simp only[eW,Ey,D1,DJ,Ez,dpt,wt,g,q,B,Iu,JC];omega
 | .dic _,h=>by rw[wt] at h;exact absurd h (AL _)|.err _ _,h=>by rw[wt] at h;exact absurd h (AL _)
theorem shown_les:∀ds:List D,wts ds<lim->L7 (Bh (toPys ds))<=wts ds/\Fy (toPys ds)=true/\FK (toPys ds)=false/\GK (toPys ds)=dpts ds
 | [],_=>by simp only[toPys,Bh,Fy,FK,GK,dpts,wts];decide|d::ds,h=>by rw[wts] at h;obtain⟨U,G,I,L⟩:=aAs d (by omega);obtain⟨M,g,q,B⟩:=shown_les ds (by omega);simp only[toPys,Bh,Fy,FK,GK,dpts,wts,piled_cons,G,I,L,g,q,B,Hu,Bool.or_self,Iu,JC];omega
theorem log2_of{n:Nat}(h:n<1000000000):n.log2<1920:=by by_cases g:n=0;rw[g];decide;exact AF ((KW g).mpr (Ex h (by decide:1000000000<2 ^ 30))) (by decide)
end
section
variable {X:Cx} {pins:List (Addr×Obj)} {Z:L2.St} {H:Hp} {s:Ac}
mutual
theorem aAt{ex:Addr->Prop}(I:Inv X pins Z H s):∀(d:D) {v:V} {u:Ad},Rep X.K H ex d v->aQ v u->wt d<lim->∃as,Reads s.heap u (eW d) as
 | .non,v,u,h,r,_=>by rw[show v=.non from h] at r;rw[show u=.none from r,eW];exact⟨_,.none⟩|.bl b,v,u,h,r,_=>by rw[show v=.bl b from h] at r;rw[show u=.bool b from r,eW];exact⟨_,.bool b⟩|.int i,v,u,h,r,_=>by rw[show v=.int i from h] at r;obtain⟨t,e⟩:∃t,u=.int i t:=r;rw[e,eW];exact⟨_,.int i t⟩|.str x,v,u,h,r,_=>by rw[show v=.str x from h] at r;obtain⟨t,e⟩:∃t,u=.str x t:=r;rw[e,eW];exact⟨_,.str x t⟩|.tup ds,v,u,h,r,g=>by obtain⟨a,xs,e,q,U⟩:=h;subst e;rw[show u=.ref a from r,eW];rw[wt] at g;obtain⟨L,rv,⟨o,G,B,n,hd⟩,_⟩:=I.tuple q;obtain⟨as,M⟩:=reads_ofs I ds U rv (by omega);exact⟨_,.tuple G B hd (by simpa using M)⟩|.lst ds,v,u,h,r,g=>by obtain⟨a,xs,e,q,_,U⟩:=h;subst e;rw[show u=.ref a from r,eW];rw[wt] at g;obtain⟨L,rv,W,_⟩:=I.list q;obtain⟨o,G,B,n,hd⟩:=W.isList;obtain⟨as,M⟩:=reads_ofs I ds U rv (by omega);exact⟨_,.list G B hd (by simpa using M)⟩|.dic _,_,_,_,_,g=>by rw[wt] at g;exact absurd g (AL _)|.err _ _,_,_,h,_,_=>h.elim
theorem reads_ofs{ex:Addr->Prop}(I:Inv X pins Z H s):∀(ds:List D) {vs:List V} {us:List Ad},Reps X.K H ex ds vs->aH vs us->wts ds<lim->∃as,ReadsAll s.heap us (toPys ds) as
 | [],vs,us,h,r,_=>by rw[show vs=[] from h] at r;cases r;exact⟨_,by rw[toPys];exact .nil⟩|d::ds,vs,us,h,r,hw=>by
  obtain⟨x,U,e,g,q⟩:=h;subst e;cases r with
  | cons B G=>rw[wts] at hw;obtain⟨as,L⟩:=aAt I d g B (by omega);obtain⟨bs,M⟩:=reads_ofs I ds q G (by omega);exact⟨_,by rw[toPys];exact .cons L M⟩
end
end
noncomputable def Kp(R:Addr->Prop)(H H':Hp):Prop:=∀a o,H a=some o->¬ R a->H' a=some o
noncomputable def RE{α:Type}:R α->(α->Prop)->Prop
 | .ok a,p=>p a|_,_=>False
theorem RE.mono{α:Type}{x:R α}{p q:α->Prop}(h:RE x p)(f:∀a,p a->q a):RE x q:=by
 cases x with
 | ok a=>exact f a h|exc e=>exact h|bad=>exact h
theorem RE.bind{α g:Type}{x:R α}{f:α->R g}{p:g->Prop}:RE (x >>= f) p=RE x λa=>RE (f a) p:=by cases x <;> rfl
theorem RE.iff{α:Type}{c:Bool}{x:R α}{p:α->Prop}(h:RE (R.iff c x) p):c=true/\RE x p:=by
 cases c with
 | true=>exact⟨rfl,h⟩|false=>exact h.elim
section
variable (K:Fg) (RT Y old:Addr->Prop)
noncomputable def exB(pa:Bool)(a:Addr):Prop:=Y a\/(pa=false/\old a)
noncomputable def Tk(H:Hp):Prop:=∀b,H b≠none->K.lookup b=none
noncomputable def dV:D->V
 | .int i=>.int i|.bl b=>.bl b|_=>.non
abbrev kV(x:NK×D):NK×V:=(x.1,dV x.2)
structure Dx (Z:Sg) (ZV:L2.St) (H:Hp):Prop where
 at':∀(i:Nat) (ks:List (NK×D)),Z[i]? = some (.dct ks)->∃a xs,ZV[i]? = some (some (.ref a))/\H a=some (cB a xs)/\RT a/\¬ old a/\xs.map pj=ks.map kV/\∀x∈xs,aY K H x.1 x.2.1
 inj:∀(i j:Nat) (ks ks':List (NK×D)) (a:Addr),Z[i]? = some (.dct ks)->Z[j]? = some (.dct ks')->ZV[i]? = some (some (.ref a))->ZV[j]? = some (some (.ref a))->i=j
noncomputable def RtO(H:Hp)(a:Addr):Prop:=(∃xs,H a=some (.lst xs))\/∃xs,H a=some (cB a xs)
structure Sx (Z:Sg) (ZV:L2.St) (H:Hp):Prop where
 sh:∀(i:Nat) (pa:Bool) (d:D),Z[i]? = some (.sh pa d)->∃v,ZV[i]? = some (some v)/\Rep K H (λa=>RT a\/exB Y old pa a) d v
 own:∀(i:Nat) (pa:Bool) (ds:List D),Z[i]? = some (.own pa ds)->∃a xs,ZV[i]? = some (some (.ref a))/\H a=some (.lst xs)/\RT a/\¬ old a/\Reps K H (λa=>RT a\/exB Y old pa a) ds xs
 trk:∀a,RT a\/Y a\/old a->H a≠none
 yo:∀a,Y a->old a
 tk:Tk K H
 rt:∀a,RT a->RtO H a
 inj:∀(i j:Nat) (pa pa':Bool) (ds ds':List D) (a:Addr),Z[i]? = some (.own pa ds)->Z[j]? = some (.own pa' ds')->ZV[i]? = some (some (.ref a))->ZV[j]? = some (some (.ref a))->i=j
 len:Z.length=ZV.length
 dx:Dx K RT old Z ZV H
noncomputable def alR(Z:Sg)(ZV:L2.St)(al:List Nat)(a:Addr):Prop:=∃j∈al,(∃pa ds,Z[j]? = some (.own pa ds))/\ZV[j]? = some (some (.ref a))
noncomputable def exV(Z:Sg)(ZV:L2.St)(pa:Bool)(al:List Nat)(a:Addr):Prop:=(RT a/\¬ alR Z ZV al a)\/exB Y old pa a
noncomputable def Rv(Z:Sg)(ZV:L2.St)(H:Hp)(v:Vl)(u:V):Prop:=Rep K H (exV RT Y old Z ZV v.pa v.al) v.d u
noncomputable def Ro(Z:Sg)(ZV:L2.St)(H H':Hp)(v:Vl)(u:V):Prop:=
 aG H H'/\(if v.fr=true then ∃a xs ds,u=.ref a/\v.d=.lst ds/\H a=none/\H' a=some (.lst xs)/\Reps K H' (λb=>b=a\/exV RT Y old Z ZV v.pa v.al b) ds xs
  else Rv K RT Y old Z ZV H' v u)
noncomputable def Rvs(Z:Sg)(ZV:L2.St)(H:Hp):List Vl->List V->Prop
 | [],us=>us=[]
 | v::vs,us=>∃u r,us=u::r/\Rv K RT Y old Z ZV H v u/\Rvs Z ZV H vs r
end
section
variable {K:Fg} {RT Y old:Addr->Prop} {Z:Sg} {ZV:L2.St} {H H' H1 H2:Hp} {v:Vl} {u:V}
theorem aY.imp(q:∀b ks,SqT K H b ks->SqT K H' b ks){k:NK}{b:Addr}(h:aY K H k b):aY K H' k b:=by
 obtain⟨bs,g,B⟩:=h;refine⟨bs,q _ _ g,?_⟩;clear g
 induction B with
 | nil=>exact .nil|cons h t G=>exact .cons (q _ _ h) G
theorem Dx.imp{g:Addr->Prop}{Z':Sg}{q:L2.St}(L:Dx K RT old Z ZV H)(m:Nat->Nat)(hs:∀j ks,Z'[j]? = some (.dct ks)->Z[m j]? = some (.dct ks)/\q[j]? = ZV[m j]?)(hm:∀i j ks ks',Z'[i]? = some (.dct ks)->Z'[j]? = some (.dct ks')->m i=m j->i=j)
 (hh:∀a xs,H a=some (cB a xs)->RT a->¬ old a->H' a=some (cB a xs)/\g a) (hr:∀b ks,SqT K H b ks->SqT K H' b ks):Dx K g old Z' q H' where
 at':=λi ks e=>by obtain⟨B,G⟩:=hs i ks e;obtain⟨a,xs,h1,h2,h3,I,h5,h6⟩:=L.at' (m i) ks B;obtain⟨g1,g2⟩:=hh a xs h2 h3 I;exact⟨a,xs,by rw[G];exact h1,g1,g2,I,h5,λx hx=>aY.imp hr (h6 x hx)⟩
 inj:=λi j ks ks' a M U v1 v2=>by obtain⟨B,G⟩:=hs i ks M;obtain⟨W,e4⟩:=hs j ks' U;exact hm i j ks ks' M U (L.inj (m i) (m j) ks ks' a B W (by rw[<-G];exact v1) (by rw[<-e4];exact v2))
theorem RtO.grow{a:Addr}(h:RtO H a)(s:aG H H'):RtO H' a:=h.imp (λ⟨xs,e⟩=>⟨xs,s _ _ e⟩) λ⟨xs,e⟩=>⟨xs,s _ _ e⟩
theorem Sx.grow(S:Sx K RT Y old Z ZV H)(s:aG H H')(t:Tk K H'):Sx K RT Y old Z ZV H' where
 sh:=λi pa d e=>let ⟨v,h1,h2⟩:=S.sh i pa d e;⟨v,h1,h2.grow s⟩
 own:=λi pa ds e=>let ⟨a,xs,h1,h2,h3,h4,h5⟩:=S.own i pa ds e;⟨a,xs,h1,s _ _ h2,h3,h4,h5.grow s⟩
 trk:=λa h z=>S.trk a h (s.free z)
 yo:=S.yo
 tk:=t
 rt:=λa h=>(S.rt a h).grow s
 inj:=S.inj
 len:=S.len
 dx:=S.dx.imp id (λ_ _ e=>⟨e,rfl⟩) (λ_ _ _ _ _ _ e=>e) (λa xs e z _=>⟨s _ _ e,z⟩) λ_ _ r=>aG.seqT s r
theorem exV.trk(S:Sx K RT Y old Z ZV H){pa:Bool}{al:List Nat}{a:Addr}(h:exV RT Y old Z ZV pa al a):H a≠none:=by
 rcases h with⟨h,_⟩|h|⟨_,h⟩
 exact S.trk a (.inl h);exact S.trk a (.inr (.inl h));exact S.trk a (.inr (.inr h))
theorem Ro.rv(S:Sx K RT Y old Z ZV H)(h:Ro K RT Y old Z ZV H H' v u):Rv K RT Y old Z ZV H' v u:=by obtain⟨s,h⟩:=h;by_cases g:v.fr=true;rw[if_pos g] at h;obtain⟨a,xs,ds,q,B,G,I,r⟩:=h;unfold Rv;rw[B];exact⟨a,xs,q,SqL.of I,λz=>exV.trk S z G,r.weak λb z=>.inr z⟩;rw[if_neg g] at h;exact h
theorem Rv.grow(h:Rv K RT Y old Z ZV H v u)(s:aG H H'):Rv K RT Y old Z ZV H' v u:=Rep.grow h s
theorem Rvs.grow:∀{vs:List Vl} {us:List V},Rvs K RT Y old Z ZV H vs us->aG H H'->Rvs K RT Y old Z ZV H' vs us
 | [],_,h,_=>h|v::vs,_,h,s=>by obtain⟨u,r,e,g,q⟩:=h;exact⟨u,r,e,g.grow s,Rvs.grow q s⟩
theorem Ro.plain(s:aG H H')(g:v.fr=false)(h:Rv K RT Y old Z ZV H' v u):Ro K RT Y old Z ZV H H' v u:=⟨s,by rw[if_neg (by rw[g];decide)];exact h⟩
theorem Ro.from(h:Ro K RT Y old Z ZV H1 H' v u)(s:aG H H1):Ro K RT Y old Z ZV H H' v u:=by obtain⟨L,h⟩:=h;refine⟨s.trans L,?_⟩;by_cases g:v.fr=true;rw[if_pos g] at h ⊢;obtain⟨a,xs,ds,q,B,G,I,r⟩:=h;exact⟨a,xs,ds,q,B,s.free G,I,r⟩;rw[if_neg g] at h ⊢;exact h
theorem Ro.cl{d:D}(s:aG H H')(h:Rep K H' (exV RT Y old Z ZV false []) d u):Ro K RT Y old Z ZV H H' (.cl d) u:=Ro.plain s rfl h
theorem Rv.sub{d:D}{x:V}{ds:List D}{xs:List V}{j:Nat}(h:Rep K H (exV RT Y old Z ZV v.pa v.al) d x):Rv K RT Y old Z ZV H (v.sub d) x:=by unfold Rv Vl.sub;by_cases g:noL d=true;rw[if_pos g];exact Rep.free d x g h;rw[if_neg g];exact h
theorem alR.mono{al g:List Nat}{a:Addr}(h:alR Z ZV al a)(s:∀j∈al,j∈g):alR Z ZV g a:=by obtain⟨j,B,q⟩:=h;exact⟨j,s j B,q⟩
theorem exV.mono{pa pa':Bool}{al g:List Nat}{a:Addr}(h:exV RT Y old Z ZV pa' g a)(G:pa=true->pa'=true)(s:∀j∈al,j∈g):exV RT Y old Z ZV pa al a:=by
 rcases h with⟨q,B⟩|h|⟨q,B⟩
 exact .inl ⟨q,λz=>B (z.mono s)⟩;exact .inr (.inl h);refine .inr (.inr ⟨?_,B⟩);cases pa with
 | false=>rfl|true=>rw[G rfl] at q;cases q
theorem Rvs.length:∀{vs:List Vl} {us:List V},Rvs K RT Y old Z ZV H vs us->vs.length=us.length
 | [],_,h=>by rw[show _=[] from h];rfl|v::vs,_,h=>by obtain⟨u,r,e,_,g⟩:=h;subst e;rw[lC,lC,Rvs.length g]
theorem jH{vs:List Vl}{v:Vl}(h:v∈vs):∀j∈v.al,j∈bM vs:=λj g=>DT.mpr ⟨v,h,g⟩
theorem rX{vs:List Vl}{v:Vl}(h:v∈vs)(g:v.pa=true):dM vs=true:=EE.mpr ⟨v,h,g⟩
theorem Rvs.reps:∀{vs:List Vl} {us:List V} {pa:Bool} {al:List Nat},Rvs K RT Y old Z ZV H vs us->(∀v∈vs,(v.pa=true->pa=true)/\∀j∈v.al,j∈al) ->
 Reps K H (exV RT Y old Z ZV pa al) (vs.map (·.d)) us
 | [],_,_,_,h,_=>h|v::vs,_,_,_,h,q=>by obtain⟨u,r,e,B,G⟩:=h;have g:=q v Ai;exact⟨u,r,e,Rep.weak B λa z=>z.mono g.1 g.2,Rvs.reps G λw I=>q w (Af _ I)⟩
theorem Rvs.all{vs:List Vl}{us:List V}(h:Rvs K RT Y old Z ZV H vs us):Reps K H (exV RT Y old Z ZV (dM vs) (bM vs)) (vs.map (·.d)) us:=
 h.reps λv g=>⟨λz=>rX g z,jH g⟩
theorem Ro.fresh{p:Addr}{xs:List V}{ds:List D}(g:H p=none)(G:Tk K (upd H p (.lst xs)))(hd:v.d=.lst ds)(B:v.fr=true)(S:Sx K RT Y old Z ZV H)(r:Reps K H (exV RT Y old Z ZV v.pa v.al) ds xs) :
 Ro K RT Y old Z ZV H (upd H p (.lst xs)) v (.ref p):=by
 have s:aG H (upd H p (.lst xs)):=λb o q=>by rw[aJ (bH q g)];exact q
 refine⟨s,?_⟩;rw[if_pos B];refine⟨p,xs,ds,rfl,hd,g,bG,?_⟩;refine Reps.imp (λ_ _ q=>aG.seqT s q) (λa ys n q=>⟨λz=>?_,s.seq q⟩) (λ_ _ q=>s _ _ q) ds xs r;rcases z with z|z;subst z;rcases q with(q|⟨o,q⟩)|⟨o,I,L,q,_⟩
 rw[g] at q;cases q;rw[g] at q;cases q;have z:=G a (by rw[bG];simp);rw[q] at z;cases z;exact n z
theorem aG.new{p:Addr}{o:HO}(g:H p=none):aG H (upd H p o):=λb u q=>by rw[aJ (bH q g)];exact q
theorem Ro.tup{p:Addr}{xs:List V}{ds:List D}(g:H p=none)(hd:v.d=.tup ds)(q:v.fr=false)(r:Reps K H (exV RT Y old Z ZV v.pa v.al) ds xs) :
 Ro K RT Y old Z ZV H (upd H p (.tup xs)) v (.ref p):=by refine Ro.plain (aG.new g) q ?_;unfold Rv;rw[hd];exact⟨p,xs,rfl,SqT.of bG,r.grow (aG.new g)⟩
end
section
variable (X:Cx) (P:Pg) (W:Caller) (RT Y old:Addr->Prop)
noncomputable def wE(Z:Sg)(c:E):TE:=λZV H Q=>Sx X.K RT Y old Z ZV H/\RE (ev P W Z c) λv=>∀u H',Tk X.K H'->Ro X.K RT Y old Z ZV H H' v u->Q u H'
noncomputable def wT(Z:Sg)(c:E):TT:=λZV H Q=>Sx X.K RT Y old Z ZV H/\RE (tst P W Z c) λk=>∀H',Tk X.K H'->aG H H'->Q k H'
noncomputable def wA(Z:Sg)(cs:Es):TA:=λZV H Q=>Sx X.K RT Y old Z ZV H/\RE (evs P W Z cs) λvs=>∀us H',Tk X.K H'->aG H H'->Rvs X.K RT Y old Z ZV H' vs us->Q us H'
end
section
variable {X:Cx} {P:Pg} {W:Caller} {RT Y old:Addr->Prop} {Z:Sg} {pos:Eg}
theorem _root_.L2.Inv.tk{pins:List (Addr×Obj)}{ZV:L2.St}{H:Hp}{s:Ac}(I:Inv X pins ZV H s):Tk X.K H:=λb g=>by
 cases q:X.K.lookup b with
 | none=>rfl|some o=>exact absurd (I.bs b o (I.ok.mod.kin b o q)).2 g
theorem _root_.L2.PE.imp{e:A6}{t t':TE}(h:PE X e t)(f:∀ZV H Q,Tk X.K H->t' ZV H Q->t ZV H λv H'=>Tk X.K H'->Q v H'):PE X e t':=λpins s ZV H Q I B=>thn (h pins s ZV H _ I (f ZV H Q I.tk B)) λu G ⟨v,H',g,r,q⟩=>⟨v,H',g,r,q g.tk⟩
theorem _root_.L2.PT.imp{e:A6}{t t':TT}(h:PT X e t)(f:∀ZV H Q,Tk X.K H->t' ZV H Q->t ZV H λv H'=>Tk X.K H'->Q v H'):PT X e t':=λpins s ZV H Q I B=>thn (h pins s ZV H _ I (f ZV H Q I.tk B)) λk G ⟨H',g,q⟩=>⟨H',g,q g.tk⟩
theorem _root_.L2.PA.imp{es:List A6}{t t':TA}(h:PA X es t)(f:∀ZV H Q,Tk X.K H->t' ZV H Q->t ZV H λv H'=>Tk X.K H'->Q v H'):PA X es t':=λpos pins s ZV H Q I B=>thn (h pos pins s ZV H _ I (f ZV H Q I.tk B)) λu G ⟨v,H',g,r,q⟩=>⟨v,H',g,r,q g.tk⟩
theorem wE.two{a b:E}{ZV:L2.St}{H:Hp}{p:Vl->Vl->Prop}{Q:V->V->Hp->Prop}(S:Sx X.K RT Y old Z ZV H)(h:RE (ev P W Z a) λx=>RE (ev P W Z b) λy=>p x y)
 (f:∀x y q B g,p x y->Tk X.K g->aG H g->Sx X.K RT Y old Z ZV g->Rv X.K RT Y old Z ZV g x q->Rv X.K RT Y old Z ZV g y B->Q q B g) :
 wE X P W RT Y old Z a ZV H λq H1=>wE X P W RT Y old Z b ZV H1 λB g=>Q q B g:=by refine⟨S,h.mono λx hx q H1 M G=>⟨S.grow G.1 M,hx.mono λy hy B g U I=>?_⟩⟩;have L:=S.grow G.1 M;exact f x y q B g hy U (G.1.trans I.1) (L.grow I.1 U) ((G.rv S).grow I.1) (I.rv L)
theorem Ro.val{d:D}{u:V}{ZV:L2.St}{H H':Hp}(s:aG H H')(h:∀ex,Rep X.K H' ex d u):Ro X.K RT Y old Z ZV H H' (.cl d) u:=Ro.cl s (h _)
theorem s_c {d : D} {c : Const} {k : Nat} (h : eqC d c = true) : PE X (.Constant c k pos) (wE X P W RT Y old Z (.c d)) := by
 have key : ∀ {v : V}, (∀ (H : Hp) ex, Rep X.K H ex d v) -> PE X (.Constant c k pos) (tC v) -> PE X (.Constant c k pos) (wE X P W RT Y old Z (.c d)) := λ B g =>g.imp λ ZV H Q t ⟨S, q⟩ t' => q _ H t' (Ro.val (aG.refl H) (B H));cases d with
 | non => cases c with|none => exact key (λ _ _ => rfl) aEc|_ => cases h
 | bl b => cases c with
  | bool b' => have e : b = b' := by simpa [eqC] using h
               subst e; exact key (λ _ _ => rfl) aGu
  | _ => cases h
 | int b => cases c with
  | int b' => have e : b = b' := by simpa [eqC] using h
              subst e; exact key (λ _ _ => rfl) aEb
  | _ => cases h
 | str b => cases c with
  | str b' => have e : b = b' := by simpa [eqC] using h
              subst e; exact key (λ _ _ => rfl) aEd
  | _ => cases h
 | _ => cases c <;> cases h
theorem s_v{i:Nat}{x:Str}(U:X.N[i]? = some x)(hv:Vis X.env.scope x)(hd:(x==("__debug__" : Str))=false)(G:(x==("__classdict__" : Str))=false) :
 PE X (.Name x pos) (wE X P W RT Y old Z (.v i)):=by
 refine(iL U hv hd G).imp λZV H Q t ⟨S,q⟩=>?_;have q:RE (cR Z i) _:=q;unfold cR at q;cases e:Z[i]? with
 | none=>rw[e] at q;exact q.elim|some sl=>
  rw[e] at q;cases sl with
  | dead=>exact q.elim|dct _=>exact q.elim|sh pa d=>
   obtain⟨v,g,B⟩:=S.sh i pa d e;refine⟨v,g,λt'=>q v H t' (Ro.plain (aG.refl H) rfl ?_)⟩;unfold Rv;by_cases L:noL d=true;exact Rep.free d v L B;refine Rep.weak B λa z=>?_;rcases z with⟨z,_⟩|z|⟨z,z'⟩
   exact .inl z;exact .inr (.inl z);have:pa=false:=by simpa[L] using z
   exact .inr (.inr ⟨this,z'⟩)
  | own pa ds=>
   obtain⟨a,xs,g,B,h3,I,M⟩:=S.own i pa ds e;refine⟨.ref a,g,λt'=>q _ H t' (Ro.plain (aG.refl H) rfl ?_)⟩;unfold Rv;refine⟨a,xs,rfl,SqL.of B,λz=>?_,M.weak λb z=>?_⟩;rcases z with⟨_,z⟩|z|⟨_,z⟩
   exact z ⟨i,by simp,⟨pa,ds,e⟩,g⟩;exact I (S.yo a z);exact I z;rcases z with⟨z,_⟩|z;exact .inl z;exact .inr z
end
noncomputable def aAu(prog:A0)(w:AR)(K:Fg)(a:Addr)(t:List (Str×D)):Prop:=(a==Dd)=false/\∃vs:List (Key×Ad),(∀h:Heap,K.In h->h.DictOf (eE prog w) a vs) /\
 ∀k:Str,(t.lookup k=none/\valueAt vs (Fi k:Key)=none)\/∃d u v,t.lookup k=some d/\valueAt vs (Fi k:Key)=some u/\aQ v u/\∀(H:Hp) (ex:Addr->Prop),Rep K H ex d v
section
variable {X:Cx} {RT Y old:Addr->Prop} {Z:Sg} {ZV:L2.St} {H:Hp} {s:Ac} {pins:List (Addr×Obj)} {Q:VK} {ux uy:V} {vx vy:Ad} {x y:Vl}
theorem _root_.L2.EP.tk{u:Ad}{B:Ac}(h:EP X pins ZV (λv H'=>Tk X.K H'->Q v H') u B):EP X pins ZV Q u B:=by obtain⟨v,H',g,r,q⟩:=h;exact⟨v,H',g,r,q (Inv.tk g)⟩
abbrev Wn(X:Cx)(RT Y old:Addr->Prop)(Z:Sg)(ZV:L2.St)(H:Hp)(Q:VK)(v:Vl):Prop:=∀u H',Tk X.K H'->Ro X.K RT Y old Z ZV H H' v u->Q u H'
theorem Wn.val{d:D}{u:V}(w:Wn X RT Y old Z ZV H Q (.cl d))(t:Tk X.K H)(h:∀ex,Rep X.K H ex d u):Q u H:=w u H t (Ro.cl (aG.refl H) (h _))
theorem Rv.int{i:Int}{u:V}(h:Rv X.K RT Y old Z ZV H x u)(e:x.d=.int i):u=.int i:=by unfold Rv at h;rw[e] at h;exact h
theorem Rv.str{i:Str}{u:V}(h:Rv X.K RT Y old Z ZV H x u)(e:x.d=.str i):u=.str i:=by unfold Rv at h;rw[e] at h;exact h
theorem Rv.bl{i:Bool}{u:V}(h:Rv X.K RT Y old Z ZV H x u)(e:x.d=.bl i):u=.bl i:=by unfold Rv at h;rw[e] at h;exact h
theorem Rv.non{u:V}(h:Rv X.K RT Y old Z ZV H x u)(e:x.d=.non):u=.non:=by unfold Rv at h;rw[e] at h;exact h
theorem Rv.tup{ds:List D}{u:V}(h:Rv X.K RT Y old Z ZV H x u)(e:x.d=.tup ds):∃a xs,u=.ref a/\SqT X.K H a xs/\Reps X.K H (exV RT Y old Z ZV x.pa x.al) ds xs:=by unfold Rv at h;rw[e] at h;exact h
theorem Rv.lst{ds:List D}{u:V}(h:Rv X.K RT Y old Z ZV H x u)(e:x.d=.lst ds):∃a xs,u=.ref a/\SqL X.K H a xs/\¬ exV RT Y old Z ZV x.pa x.al a/\Reps X.K H (exV RT Y old Z ZV x.pa x.al) ds xs:=by unfold Rv at h;rw[e] at h;exact h
theorem aEQ:lim<=sizeLine:=by unfold lim;rw[BV];decide
theorem dA{n:Nat}(h:n<=lim):n<=sizeLine:=A2 h aEQ
theorem eI{ds:List D}{xs:List V}{pa:Bool}{al:List Nat}{K:Fg}(r:Reps K H (exV RT Y old Z ZV pa al) ds xs) :
 Reps K H (exV RT Y old Z ZV (pa&&!noLs ds) (if noLs ds=true then [] else al)) ds xs:=by by_cases g:noLs ds=true;exact Reps.free ds xs g r;rw[if_neg g];refine r.weak λa z=>z.mono (λB=>?_) λj q=>q;rw[B];simp[g]
noncomputable def aHk(K:Fg):R2:=λx y H Q=>∃l b xs zs,x=.ref l/\y=.ref b/\SqL K H l xs/\SqL K H b zs/\xs.length+zs.length<=sizeLine/\∀p,H p=none->Q (.ref p) (upd H p (.lst (xs++zs)))
theorem aCx:OpR X (Cq .Add) (aHk X.K):=by
 intro pins s ZV H x y v u Q I rx ry h;obtain⟨l,b,xs,zs,rfl,rfl,hH,hB,hz,q⟩:=h;cases rx;cases ry;obtain⟨B,r,pl,z⟩:=I.list hH;obtain⟨g,r2,q0,z2⟩:=I.list hB;obtain⟨⟨cls,dd,data,sl⟩,ho,hc,n,hd⟩:=pl.isList;obtain⟨⟨q2,W,U,q1⟩,M,G,n2,L⟩:=q0.isList;simp only at hc hd G L;subst hc hd G L;have e:B.toArray++g.toArray=(B++g).toArray:=by simp
 have hl:=r.length;have q3:=r2.length;refine Gq ⟨_,ho,rfl⟩ ⟨_,M,rfl⟩ noFill_list_add seq_list_add PySem.F.slot_list_add PySem.F.entry_list_add (PySem.F.args_list_add_2 _ _) (list_addW l b B.toArray g.toArray n n2 dd W sl q1 (by rw[Aj,Aj];omega)) ⟨ho,M,?_⟩;rw[e];exact⟨.ref _,_,I.lnew (t':=s.toks) (r.append r2) (by rw[lA];omega),rfl,q _ I.fresh⟩
theorem aCy(x:Str):Str.rep x 1=x:=by unfold Str.rep;cases x;simp
theorem yG(x:Str)(h:x.length=0)(k:Nat):Str.rep x k=x:=by
 have g:x.cps=#[]:=by unfold J8 at h;exact Array.eq_empty_of_size_eq_zero h
 have go:∀k,(An k x.cps).foldl (·++·) #[]=#[]:=by
  intro k;rw[g]
  induction k with
  | zero=>rfl|succ k q=>rw[Bz,C3];simpa using q
 unfold Str.rep;rw[go k];cases x;simp at g;rw[g]
theorem uM(x:Str)(k:Nat):(⟨(An k x.cps).foldl (·++·) #[]⟩:Str).length=x.length*k:=by
 have go:∀(k:Nat) (acc:Array Nat),((An k x.cps).foldl (·++·) acc).size=acc.size+x.cps.size*k:=by
  intro k
  induction k with
  | zero=>intro acc;simp|succ k g=>intro acc;rw[Bz,C3,g,Ir,Nat.mul_succ];omega
 show((An k x.cps).foldl (·++·) #[]).size=x.cps.size*k;rw[go];simp
theorem aCz:OpR X (Cq .Mult) (λx y H Q=>∃a k,x=.str a/\y=.int k/\aF k=true/\a.length*k.toNat<=lim/\Q (.str (Str.rep a k.toNat)) H):=by
 intro pins s ZV H x y v u Q I rx ry h;obtain⟨a,k,rfl,rfl,B,M,q⟩:=h;obtain⟨t,rfl⟩:=rx;obtain⟨t',rfl⟩:=ry;unfold aF at B;simp only[bA,Ax] at B;have h1:-(2 ^ 62:Int)<=k:=B.1;have h2:k<(2 ^ 62:Int):=B.2;have U:decide (k < -(2 ^ 63:Int))=false:=Ar (by omega);have W:decide (k ≥ (2 ^ 63:Int))=false:=Ar (by omega);have g:∀z:Str,z=Str.rep a k.toNat->∀tk,EP X pins ZV Q (.str z tk) { s with toks:=s.toks+1 }:=λz e tk=>by subst e;exact⟨.str _,H,I.tok _,⟨_,rfl⟩,q⟩
 refine P.mul_str (by rw[U,W];rfl) (λn1 n2 z=>?_) (λn1 n2=>?_) ?_;have k1:1<=k:=by omega
 have z1:(a.length:Int)*k<=(lim:Int):=by
  have L:((k.toNat:Nat):Int)=k:=by omega
  have:=Int.ofNat_le.mpr M;rw[GI] at this;rw[<-L]
  exact_mod_cast this
 have z2:(2 ^ 63-1:Int) / k<a.length:=z;have z3:(2 ^ 63-1:Int)<a.length*k:=Int.lt_mul_of_ediv_lt (by omega) z2;have z4:(lim:Int)=1000000:=rfl;omega;unfold Ll;have:=dA M;exact Ar (by omega);split;rename_i hn;have:k.toNat=0:=by omega
 refine⟨by decide,?_⟩;exact g _ (by rw[this];rfl) _;split;rename_i hn G;have hz:Str.rep a k.toNat=a:=by rcases Bool.or_eq_true_iff.mp G with z|z;have:k=1:=eq_of_beq z;subst this;exact aCy a;exact yG a (eq_of_beq z) _
 exact⟨.str a,H,I,⟨_,rfl⟩,by rw[hz] at q;exact q⟩;refine⟨?_,g _ rfl _⟩;have:=dA M;rw[uM];exact this
noncomputable def aER(K:Fg):R2:=λx y H Q=>∃a b xs ys,x=.ref a/\y=.ref b/\SqT K H a xs/\SqT K H b ys/\xs.length+ys.length<=sizeLine /\
 (xs=[]->Q (.ref b) H)/\(xs≠[]->ys=[]->Q (.ref a) H)/\(xs≠[]->ys≠[]->∀p,H p=none->Q (.ref p) (upd H p (.tup (xs++ys))))
theorem aAv:OpR X (Cq .Add) (aER X.K):=by
 intro pins s Z H x y v u Q I rx ry h;obtain⟨a,b,xs,ys,rfl,rfl,ha,hb,hz,q0,q1,q2⟩:=h;by_cases G:xs=[]
 cases rx;cases ry;obtain⟨L,r1,p1,_⟩:=I.tuple ha;obtain⟨M,r2,p2,_⟩:=I.tuple hb;obtain⟨⟨cls,dd,data,sl⟩,ho,hc,n,hd⟩:=id p1;obtain⟨⟨q4,W,U,q3⟩,B,g,n2,q⟩:=id p2;simp only at hc hd g q;subst hc hd g q;have hi:L=[]:=r1.nil_iff.mpr G;exact Gq ⟨_,ho,rfl⟩ ⟨_,B,rfl⟩ Ge Ht Er Ek (Ee _ _)
  (tuple_addW0 a b L.toArray M.toArray n n2 dd W sl q3 (by simp[hi])) ⟨ho,B,⟨.ref b,H,I,rfl,q0 G⟩⟩
 exact aCi pins s Z H _ _ v u Q I rx ry ⟨a,b,xs,ys,rfl,rfl,ha,hb,G,hz,q1 G,q2 G⟩
theorem aAw{o:Operator}(I:Inv X pins ZV H s)(S:Sx X.K RT Y old Z ZV H)(rx:aQ ux vx)(ry:aQ uy vy)(L:Rv X.K RT Y old Z ZV H x ux)(M:Rv X.K RT Y old Z ZV H y uy)
 (q6:x.fr=true->∃a xs,ux=.ref a/\H a=some (.lst xs)) (h:RE (opD o x y) (Wn X RT Y old Z ZV H Q)):Am (A4 X.prog X.w) X.A (Cq o vx vy) (EP X pins ZV Q) X.xe s:=by
 have t:=Inv.tk I;have go:∀{f:Ad->Ad->KH Ad} {r:R2},OpR X f r->(r ux uy H λv H'=>Tk X.K H'->Q v H')->Am (A4 X.prog X.w) X.A (f vx vy) (EP X pins ZV Q) X.xe s:=λhr q=>thn (hr pins s ZV H ux uy vx vy _ I rx ry q) λu s' z=>EP.tk z;cases o with
 | Add=>have h:RE (aEK x y) (Wn X RT Y old Z ZV H Q):=h;unfold aEK at h;split at h;rename_i i j g B;exact go aEp ⟨i,j,L.int g,M.int B,λ_=>h.val t λ_=>rfl⟩;rename_i i j g B;obtain⟨c,h⟩:=h.iff;exact go uB ⟨i,j,L.str g,M.str B,dA (of_decide_eq_true c),λ_=>Wn.val h t λ_=>rfl⟩;rename_i as bs g B;obtain⟨c,h⟩:=h.iff;obtain⟨a,xs,e1,W,U⟩:=L.tup g;obtain⟨b,ys,e2,q2,r2⟩:=M.tup B;have l1:=U.length;have l2:=r2.length;have c':=of_decide_eq_true c;have q4:Reps X.K H (exV RT Y old Z ZV (x.pa||y.pa) (x.al++y.al)) as xs:=U.weak λa z=>z.mono (λG=>by rw[G];rfl) λj hj=>AB _ hj;have q5:Reps X.K H (exV RT Y old Z ZV (x.pa||y.pa) (x.al++y.al)) bs ys:=r2.weak λa z=>z.mono (λG=>by rw[G,K1]) λj hj=>As _ hj;refine go aAv ⟨a,b,xs,ys,e1,e2,W,q2,dA (by omega),λz t'=>?_,λz z' t'=>?_,λz z' p G t'=>?_⟩;subst z;have:as=[]:=BW.mp (by simpa using l1);subst this;exact h _ _ t' (Ro.plain (aG.refl H) rfl ⟨b,ys,rfl,q2,q5⟩);subst z';have:bs=[]:=BW.mp (by simpa using l2);subst this;exact h _ _ t' (Ro.plain (aG.refl H) rfl ⟨a,xs,rfl,W,by rw[Bg];exact q4⟩);exact h _ _ t' (Ro.tup G rfl rfl (q4.append q5));rename_i as bs g B;obtain⟨c,h⟩:=h.iff;obtain⟨a,xs,e1,W,_,U⟩:=L.lst g;obtain⟨b,ys,e2,q2,_,r2⟩:=M.lst B;have l1:=U.length;have l2:=r2.length;have c':=of_decide_eq_true c;refine go aCx ⟨a,b,xs,ys,e1,e2,W,q2,dA (by omega),λp G t'=>h _ _ t' (Ro.fresh G t' rfl rfl S ?_)⟩;refine Reps.append ((eI U).weak λa z=>z.mono (λG=>?_) λj hj=>AB _ hj) ((eI r2).weak λa z=>z.mono (λG=>?_) λj hj=>As _ hj);show(_||_)=true;rw[G];rfl;show(_||_)=true;rw[G,K1];exact h.elim|Mult=>
  have h:RE (aEL x y) (Wn X RT Y old Z ZV H Q):=h;unfold aEL at h;split at h;rename_i i j g B;obtain⟨c,h⟩:=h.iff;refine go aEr ⟨i,j,L.int g,M.int B,?_,λ_=>Wn.val h t λ_=>rfl⟩;simp only[kT,B8,bA,Ax] at c;exact c;rename_i i j g B;obtain⟨c,h⟩:=h.iff;simp only[bA,Ax] at c;exact go aCz ⟨i,j,L.str g,M.int B,c.1,c.2,λ_=>Wn.val h t λ_=>rfl⟩;rename_i as k g B;obtain⟨c,h⟩:=h.iff;simp only[bA,Ax] at c;obtain⟨a,xs,e1,W,_,U⟩:=L.lst g;obtain⟨a',q8,q0,q3⟩:=q6 c.1.1.1;rw[e1] at q0;cases q0;have e3:xs=q8:=I.list_inj W (SqL.of q3);subst e3;have l1:=U.length;have hk:=c.1.1.2;unfold aF at hk;simp only[bA,Ax] at hk;have q9:=hk.1;have q7:=hk.2;refine go aEF ⟨a,k,xs,e1,M.int B,q3,by omega,by omega,dA (by rw[<-l1];exact c.1.2),λp G t'=>h _ _ t' (Ro.fresh G t' rfl rfl S ?_)⟩;exact Reps.flat (Reps.free as xs c.2 U) _;rename_i as k g B;obtain⟨c,h⟩:=h.iff;simp only[bA,Ax,Cd,List.isEmpty_eq_false_iff] at c;obtain⟨⟨⟨⟨c1,c2⟩,c3⟩,c4⟩,c5⟩:=c;obtain⟨a,xs,e1,W,U⟩:=L.tup g;have l1:=U.length;unfold aF at c2;simp only[bA,Ax] at c2;have q7:=c2.2;have r2:=Reps.flat (Reps.free (ex':=exV RT Y old Z ZV false []) as xs c5 U) k.toNat;refine go aCs ⟨a,k,xs,e1,M.int B,W,λz=>c3 (BW.mp (by rw[l1,z];rfl)),c1,by omega,dA (by rw[<-l1];exact c4),λz t'=>?_,λ_ p G t'=>h _ _ t' (Ro.tup G rfl rfl r2)⟩;subst z;have e:∀{α:Type} (l:List α),(An (1:Int).toNat l).flatten=l:=λl=>by simp
  rw[e] at h;rw[e,e] at r2;exact h _ _ t' (Ro.cl (aG.refl H) ⟨a,xs,rfl,W,r2⟩);exact h.elim
 | Sub=>dsimp only[opD,rR] at h;split at h;rename_i i j g B;exact go aEq ⟨i,j,L.int g,M.int B,λ_=>h.val t λ_=>rfl⟩;exact h.elim|FloorDiv=>dsimp only[opD,rR] at h;split at h;rename_i i j g B;obtain⟨c,h⟩:=h.iff;refine go aCa ⟨i,j,L.int g,M.int B,?_,λ_=>Wn.val h t λ_=>rfl⟩;simp only[rQ,bA,Ax] at c;exact c;exact h.elim|Mod=>dsimp only[opD,rR] at h;split at h;rename_i i j g B;obtain⟨c,h⟩:=h.iff;exact go aEs ⟨i,j,L.int g,M.int B,of_decide_eq_true c,λ_=>Wn.val h t λ_=>rfl⟩;exact h.elim|Pow=>dsimp only[opD,rR] at h;split at h;rename_i i j g B;obtain⟨c,h⟩:=h.iff;refine go aEt ⟨i,j,L.int g,M.int B,?_,λ_=>Wn.val h t λ_=>rfl⟩;simp only[aDE,bA,Ax] at c;exact⟨c.1.1,by omega,c.2⟩;exact h.elim|_=>exact h.elim
end
end Hp
namespace Hp
open PySem PySem.Spec PyProof.Rows L2 PySem.SeqAt
noncomputable def fD(n:Nat)(ds es:List D)(j:Nat):Bool:=match ds[j]?,es[j]? with|some x,some y=>(eqF n x y).getD false|_,_=>false
theorem vU:∀{n:Nat} {ds es:List D} {k:Bool},cX n ds es=some k->∀{j:Nat} {x y:D},ds[j]? = some x->es[j]? = some y->∃b,eqF n x y=some b
 | n,[],es,k,h,j,x,y,e1,e2=>by simp at e1|n,d::ds,[],k,h,j,x,y,e1,e2=>by simp at e2|n,d::ds,e::es,k,h,j,x,y,e1,e2=>by
  rw[cX] at h;cases g:eqF n d e with
  | none=>rw[g] at h;simp at h|some b=>
   cases q:cX n ds es with
   | none=>rw[g,q] at h;simp at h|some B=>
    cases j with
    | zero=>simp at e1 e2;subst e1 e2;exact⟨b,g⟩|succ j=>exact vU q (by simpa using e1) (by simpa using e2)
theorem lD:∀{n:Nat} {ds es:List D} {k:Bool},cX n ds es=some k->k=((AA (min ds.length es.length)).all (fD n ds es)&&ds.length==es.length)
 | n,[],[],k,h=>by simp[cX] at h;simp[<-h]|n,[],e::es,k,h=>by simp[cX] at h;simp[<-h]|n,d::ds,[],k,h=>by simp[cX] at h;simp[<-h]|n,d::ds,e::es,k,h=>by
  rw[cX] at h;cases g:eqF n d e with
  | none=>rw[g] at h;simp at h|some b=>
   cases B:cX n ds es with
   | none=>rw[g,B] at h;simp at h|some G=>
    rw[g,B] at h;have L:(b&&G)=k:=Av h;have U:=lD B;have I:fD n (d::ds) (e::es) 0=b:=by simp[fD,g]
    have q:∀j,fD n (d::ds) (e::es) (j+1)=fD n ds es j:=λj=>by simp[fD]
    have M:min (d::ds).length (e::es).length=min ds.length es.length+1:=by simp only[lC];omega
    rw[M,G5,FV,I,List.all_map];have:(fD n (d::ds) (e::es))∘Nat.succ=fD n ds es:=funext λj=>q j;rw[this,<-L,U];simp[Bool.and_assoc]
section
variable {X:Cx} {ZV:L2.St} {H:Hp} {s:Ac} {pins:List (Addr×Obj)}
theorem _root_.L2.Inv.lt_ne(I:L2.Inv X pins ZV H s){a:Addr}{xs ys:List V}(q:SqL X.K H a xs)(B:SqT X.K H a ys):False:=by obtain⟨G,_,L,_⟩:=I.list q;obtain⟨g,_,pt,_⟩:=I.tuple B;exact ne_of_list_tuple L.isList (show s.heap.IsTuple a g.toArray from pt) rfl
theorem aAx{n:Nat}{ds:List (D×D)}{e:D}{k:Bool}(h:eqF (n+1) (.dic ds) e=some k):∃a x b y,ds=[(.int a,.int x)]/\e=.dic [(.int b,.int y)]/\k=(a==b&&x==y):=by
 unfold eqF at h;split at h <;> first|(cases h;done)|(rename_i g q;cases g;done)|(rename_i g;cases g;done)|skip
 rename_i a x b y e;cases e;cases h;exact⟨a,x,b,y,rfl,rfl,rfl⟩;rename_i z _ _ _ _ _ _ _ _ _ _;exact absurd rfl (z _)
theorem jW{K:Fg}{H:Hp}{ex:Addr->Prop}{a x:Int}{u:V}(h:Rep K H ex (.dic [(.int a,.int x)]) u):∃p,u=.ref p/\H p=some (.dK [(.inl a,.int x)]):=by
 obtain⟨p,ks,e,g,r⟩:=h;obtain⟨L,v,M,I,G,q,B⟩:=r;have B:M=[]:=B;have q:v=.int x:=q;subst B q I;cases L with
 | inl i=>cases G;exact⟨p,e,g⟩|inr z=>cases G
mutual
theorem jX(I:L2.Inv X pins ZV H s):∀(n:Nat) (d e:D) (u:V) (k:Bool) (ex ex':Addr->Prop),Rep X.K H ex d u->Rep X.K H ex' e u->eqF n d e=some k->k=true
 | 0,d,e,u,k,_,_,_,_,h=>by simp[eqF] at h|n+1,.non,e,u,k,_,_,h1,h2,h=>by
  rw[show u=.non from h1] at h2;cases e with
  | non=>simpa[eqF] using h.symm|tup ds=>obtain⟨a,xs,z,_⟩:=h2;cases z|lst ds=>obtain⟨a,xs,z,_⟩:=h2;cases z|dic ds=>obtain⟨a,xs,z,_⟩:=h2;cases z|err _ _=>exact h2.elim|bl b=>cases(show V.non=.bl b from h2)|int b=>cases(show V.non=.int b from h2)|str b=>cases(show V.non=.str b from h2)
 | n+1,.bl b,e,u,k,_,_,h1,h2,h=>by
  rw[show u=.bl b from h1] at h2;cases e with
  | bl B=>cases(show V.bl b=.bl B from h2);simpa[eqF] using h.symm|tup ds=>obtain⟨a,xs,z,_⟩:=h2;cases z|lst ds=>obtain⟨a,xs,z,_⟩:=h2;cases z|dic ds=>obtain⟨a,xs,z,_⟩:=h2;cases z|err _ _=>exact h2.elim|non=>cases(show V.bl b=.non from h2)|int B=>cases(show V.bl b=.int B from h2)|str B=>cases(show V.bl b=.str B from h2)
 | n+1,.int b,e,u,k,_,_,h1,h2,h=>by
  rw[show u=.int b from h1] at h2;cases e with
  | int B=>cases(show V.int b=.int B from h2);simpa[eqF] using h.symm|tup ds=>obtain⟨a,xs,z,_⟩:=h2;cases z|lst ds=>obtain⟨a,xs,z,_⟩:=h2;cases z|dic ds=>obtain⟨a,xs,z,_⟩:=h2;cases z|err _ _=>exact h2.elim|non=>cases(show V.int b=.non from h2)|bl B=>cases(show V.int b=.bl B from h2)|str B=>cases(show V.int b=.str B from h2)
 | n+1,.str b,e,u,k,_,_,h1,h2,h=>by
  rw[show u=.str b from h1] at h2;cases e with
  | str B=>cases(show V.str b=.str B from h2);simpa[eqF] using h.symm|tup ds=>obtain⟨a,xs,z,_⟩:=h2;cases z|lst ds=>obtain⟨a,xs,z,_⟩:=h2;cases z|dic ds=>obtain⟨a,xs,z,_⟩:=h2;cases z|err _ _=>exact h2.elim|non=>cases(show V.str b=.non from h2)|bl B=>cases(show V.str b=.bl B from h2)|int B=>cases(show V.str b=.int B from h2)
 | n+1,.tup ds,e,u,k,ex,ex',h1,h2,h=>by
  obtain⟨a,xs,z,q,r⟩:=h1;subst z;cases e with
  | tup es=>obtain⟨M,ys,z,G,L⟩:=h2;cases z;have:xs=ys:=I.tuple_inj q G;subst this;exact eqs_same I n ds es xs k ex ex' r L (by simpa[eqF] using h)|lst es=>obtain⟨M,ys,z,G,_,L⟩:=h2;cases z;exact(I.lt_ne G q).elim|dic ds=>simp[eqF] at h|err _ _=>exact h2.elim|non=>cases(show V.ref a=.non from h2)|bl B=>cases(show V.ref a=.bl B from h2)|int B=>cases(show V.ref a=.int B from h2)|str B=>cases(show V.ref a=.str B from h2)
 | n+1,.lst ds,e,u,k,ex,ex',h1,h2,h=>by
  obtain⟨a,xs,z,q,_,r⟩:=h1;subst z;cases e with
  | lst es=>obtain⟨M,ys,z,G,_,L⟩:=h2;cases z;have:xs=ys:=I.list_inj q G;subst this;have hl:ds.length=es.length:=r.length.trans L.length.symm;exact eqs_same I n ds es xs k ex ex' r L (by simpa[eqF,hl] using h)|tup es=>obtain⟨M,ys,z,G,L⟩:=h2;cases z;exact(I.lt_ne q G).elim|dic ds=>simp[eqF] at h|err _ _=>exact h2.elim|non=>cases(show V.ref a=.non from h2)|bl B=>cases(show V.ref a=.bl B from h2)|int B=>cases(show V.ref a=.int B from h2)|str B=>cases(show V.ref a=.str B from h2)
 | n+1,.dic ds,e,u,k,ex,ex',h1,h2,h=>by obtain⟨a,x,b,y,U,W,ek⟩:=aAx h;subst U W ek;obtain⟨p,U,g1⟩:=jW h1;obtain⟨p',W,g2⟩:=jW h2;cases U.symm.trans W;have g:=g1.symm.trans g2;simp at g;simp[g]|n+1,.err _ _,e,u,k,ex,ex',h1,h2,h=>h1.elim
theorem eqs_same(I:L2.Inv X pins ZV H s):∀(n:Nat) (ds es:List D) (us:List V) (k:Bool) (ex ex':Addr->Prop),Reps X.K H ex ds us->Reps X.K H ex' es us->cX n ds es=some k->k=true
 | n,[],[],us,k,_,_,h1,h2,h=>by simpa[cX] using h.symm|n,[],e::es,us,k,_,_,h1,h2,h=>by obtain⟨x,r,z,_⟩:=h2;rw[show us=[] from h1] at z;cases z|n,d::ds,[],us,k,_,_,h1,h2,h=>by obtain⟨x,r,z,_⟩:=h1;rw[show us=[] from h2] at z;cases z|n,d::ds,e::es,us,k,ex,ex',h1,h2,h=>by
  obtain⟨x,r,z,a1,b1⟩:=h1;obtain⟨x',r',B,G,M⟩:=h2;rw[z] at B;cases B;rw[cX] at h;cases g:eqF n d e with
  | none=>rw[g] at h;simp at h|some b=>
   cases q:cX n ds es with
   | none=>rw[g,q] at h;simp at h|some L=>rw[g,q] at h;have U:=jX I n d e x b ex ex' a1 G g;have W:=eqs_same I n ds es r L ex ex' b1 M q;subst U W;simpa using h.symm
end
noncomputable def Eq3(A:AJ)(s:Ac)(v z:Ad)(k:Bool):Prop:=EqAt A s v z k/\RcAt A s v z k/\RcNeAt A s v z (!k)
theorem vV{xs:List V}{us:List Ad}(r:aH xs us){j:Nat}(h:j<us.toArray.size):∃x,xs[j]? = some x/\aQ x us.toArray[j]:=by
 have G:=r.length;have g:j<xs.length:=by rw[Aj] at h;omega
 obtain⟨u,e,q⟩:=r.get (Ah g);refine⟨xs[j],Ah g,?_⟩;have:us.toArray[j]=u:=by
  have B:us[j]? = some us.toArray[j]:=by simp[Ah (show j<us.length by simpa using h)]
  rw[B] at e;exact Av e
 rw[this];exact q
theorem nO(A:AJ):A.in1.units=A.units+1:=rfl
theorem vW(I:L2.Inv X pins ZV H s):∀(n:Nat) (A:AJ) (d e:D) (u w:V) (v z:Ad) (k:Bool) (ex ex':Addr->Prop),A.units+n<Co->Rep X.K H ex d u->Rep X.K H ex' e w->aQ u v->aQ w z->eqF n d e=some k->Eq3 A s v z k:=by
 intro n
 induction n with
 | zero=>intro A d e u w v z k ex ex' _ _ _ _ _ h;simp[eqF] at h|succ n ih=>
  intro A d e u w v z k ex ex' hA h1 M r1 G h;have B:A.units<Co:=by omega
  have items:∀{ds es:List D} {xs ys:List V} {L U:List Ad} {k:Bool},Reps X.K H ex ds xs->Reps X.K H ex' es ys->aH xs L->aH ys U->cX n ds es=some k ->
   ∀j (_:j<L.toArray.size) (_:j<U.toArray.size),EqAt A.in1 s L.toArray[j] U.toArray[j] (fD n ds es j):=by
   intro ds es xs ys L U k q1 q2 v1 v2 hk j w1 w3;obtain⟨x,q9,rx⟩:=vV v1 w1;obtain⟨y,w0,ry⟩:=vV v2 w3;obtain⟨d',ed,rd⟩:=q1.get' q9;obtain⟨e',ee,re⟩:=q2.get' w0;obtain⟨b,hb⟩:=vU hk ed ee;have hj:fD n ds es j=b:=by simp[fD,ed,ee,hb]
   rw[hj];exact(ih A.in1 d' e' x y _ _ b ex ex' (by rw[nO];omega) rd re rx ry hb).1
  cases d with
  | err _ _=>exact h1.elim|dic ds=>obtain⟨a,x,b,y,e1,e2,ek⟩:=aAx h;subst e1 e2 ek;obtain⟨p,e1,g1⟩:=jW h1;obtain⟨p',e2,g2⟩:=jW M;subst e1 e2;cases r1;cases G;have W:=aEJ B (aDD I.hok g1) (aDD I.hok g2);refine⟨?_,W.1,W.2⟩;by_cases q3:p=p';subst q3;have e:=jX I (n+1) _ _ (.ref p) _ ex ex' h1 M h;rw[e];exact EqAt.same _;exact EqAt.of_refs q3 W.1|non=>
   rw[show u=.non from h1] at r1;cases r1;cases e with
   | err _ _=>exact M.elim|dic _=>simp[eqF] at h|non=>rw[show w=.non from M] at G;cases G;simp[eqF] at h;subst h;exact⟨EqAt.same _,RcAt.none_none,RcNeAt.none_none⟩|bl b=>rw[show w=.bl b from M] at G;cases G;simp[eqF] at h;subst h;exact⟨EqAt.none_bool _,RcAt.none_bool _,RcNeAt.none_bool _⟩|int b=>rw[show w=.int b from M] at G;obtain⟨t,rfl⟩:=G;simp[eqF] at h;subst h;exact⟨EqAt.none_int _ _,RcAt.none_int _ _,RcNeAt.none_int _ _⟩|str b=>rw[show w=.str b from M] at G;obtain⟨t,rfl⟩:=G;simp[eqF] at h;subst h;exact⟨EqAt.none_str _ _,RcAt.none_str _ _,RcNeAt.none_str _ _⟩|tup es=>obtain⟨b,ys,rfl,q,r⟩:=M;cases G;obtain⟨L,_,p,_⟩:=I.tuple q;simp[eqF] at h;subst h;exact⟨EqAt.none_tuple (show s.heap.IsTuple b L.toArray from p) B,RcAt.none_tuple (show s.heap.IsTuple b L.toArray from p) B,RcNeAt.none_tuple (show s.heap.IsTuple b L.toArray from p) B⟩|lst es=>obtain⟨b,ys,rfl,q,_,r⟩:=M;cases G;obtain⟨L,_,p,_⟩:=I.list q;simp[eqF] at h;subst h;exact⟨EqAt.none_list p.isList B,RcAt.none_list p.isList B,RcNeAt.none_list p.isList B⟩
  | bl a=>
   rw[show u=.bl a from h1] at r1;cases r1;cases e with
   | err _ _=>exact M.elim|dic _=>simp[eqF] at h|non=>rw[show w=.non from M] at G;cases G;simp[eqF] at h;subst h;exact⟨EqAt.bool_none _,RcAt.bool_none _,RcNeAt.bool_none _⟩|bl b=>rw[show w=.bl b from M] at G;cases G;simp only[eqF,CY] at h;subst h;exact⟨EqAt.bool_bool _ _,RcAt.bool_bool _ _,RcNeAt.bool_bool _ _⟩|int b=>rw[show w=.int b from M] at G;obtain⟨t,rfl⟩:=G;simp only[eqF,CY] at h;subst h;exact⟨EqAt.bool_int _ _ _,RcAt.bool_int _ _ _,RcNeAt.bool_int _ _ _⟩|str b=>rw[show w=.str b from M] at G;obtain⟨t,rfl⟩:=G;simp[eqF] at h;subst h;exact⟨EqAt.bool_str _ _ _,RcAt.bool_str _ _ _,RcNeAt.bool_str _ _ _⟩|tup es=>obtain⟨b,ys,rfl,q,r⟩:=M;cases G;obtain⟨L,_,p,_⟩:=I.tuple q;simp[eqF] at h;subst h;exact⟨EqAt.bool_tuple _ (show s.heap.IsTuple b L.toArray from p) B,RcAt.bool_tuple _ (show s.heap.IsTuple b L.toArray from p) B,RcNeAt.bool_tuple _ (show s.heap.IsTuple b L.toArray from p) B⟩|lst es=>obtain⟨b,ys,rfl,q,_,r⟩:=M;cases G;obtain⟨L,_,p,_⟩:=I.list q;simp[eqF] at h;subst h;exact⟨EqAt.bool_list _ p.isList B,RcAt.bool_list _ p.isList B,RcNeAt.bool_list _ p.isList B⟩
  | int a=>
   rw[show u=.int a from h1] at r1;obtain⟨t1,rfl⟩:=r1;cases e with
   | err _ _=>exact M.elim|dic _=>simp[eqF] at h|non=>rw[show w=.non from M] at G;cases G;simp[eqF] at h;subst h;exact⟨EqAt.int_none _ _,RcAt.int_none _ _,RcNeAt.int_none _ _⟩|bl b=>rw[show w=.bl b from M] at G;cases G;simp only[eqF,CY] at h;subst h;exact⟨EqAt.int_bool _ _ _,RcAt.int_bool _ _ _,RcNeAt.int_bool _ _ _⟩|int b=>rw[show w=.int b from M] at G;obtain⟨t,rfl⟩:=G;simp only[eqF,CY] at h;subst h;exact⟨EqAt.int_int _ _ _ _,RcAt.int_int _ _ _ _,RcNeAt.int_int _ _ _ _⟩|str b=>rw[show w=.str b from M] at G;obtain⟨t,rfl⟩:=G;simp[eqF] at h;subst h;exact⟨EqAt.int_str _ _ _ _,RcAt.int_str _ _ _ _,RcNeAt.int_str _ _ _ _⟩|tup es=>obtain⟨b,ys,rfl,q,r⟩:=M;cases G;obtain⟨L,_,p,_⟩:=I.tuple q;simp[eqF] at h;subst h;exact⟨EqAt.int_tuple _ _ (show s.heap.IsTuple b L.toArray from p) B,RcAt.int_tuple _ _ (show s.heap.IsTuple b L.toArray from p) B,RcNeAt.int_tuple _ _ (show s.heap.IsTuple b L.toArray from p) B⟩|lst es=>obtain⟨b,ys,rfl,q,_,r⟩:=M;cases G;obtain⟨L,_,p,_⟩:=I.list q;simp[eqF] at h;subst h;exact⟨EqAt.int_list _ _ p.isList B,RcAt.int_list _ _ p.isList B,RcNeAt.int_list _ _ p.isList B⟩
  | str a=>
   rw[show u=.str a from h1] at r1;obtain⟨t1,rfl⟩:=r1;cases e with
   | err _ _=>exact M.elim|dic _=>simp[eqF] at h|non=>rw[show w=.non from M] at G;cases G;simp[eqF] at h;subst h;exact⟨EqAt.str_none _ _,RcAt.str_none _ _,RcNeAt.str_none _ _⟩|bl b=>rw[show w=.bl b from M] at G;cases G;simp[eqF] at h;subst h;exact⟨EqAt.str_bool _ _ _,RcAt.str_bool _ _ _,RcNeAt.str_bool _ _ _⟩|int b=>rw[show w=.int b from M] at G;obtain⟨t,rfl⟩:=G;simp[eqF] at h;subst h;exact⟨EqAt.str_int _ _ _ _,RcAt.str_int _ _ _ _,RcNeAt.str_int _ _ _ _⟩|str b=>rw[show w=.str b from M] at G;obtain⟨t,rfl⟩:=G;simp only[eqF,CY] at h;subst h;exact⟨EqAt.str_str _ _ _ _,RcAt.str_str _ _ _ _,RcNeAt.str_str _ _ _ _⟩|tup es=>obtain⟨b,ys,rfl,q,r⟩:=M;cases G;obtain⟨L,_,p,_⟩:=I.tuple q;simp[eqF] at h;subst h;exact⟨EqAt.str_tuple _ _ (show s.heap.IsTuple b L.toArray from p) B,RcAt.str_tuple _ _ (show s.heap.IsTuple b L.toArray from p) B,RcNeAt.str_tuple _ _ (show s.heap.IsTuple b L.toArray from p) B⟩|lst es=>obtain⟨b,ys,rfl,q,_,r⟩:=M;cases G;obtain⟨L,_,p,_⟩:=I.list q;simp[eqF] at h;subst h;exact⟨EqAt.str_list _ _ p.isList B,RcAt.str_list _ _ p.isList B,RcNeAt.str_list _ _ p.isList B⟩
  | tup ds=>
   have q6:=h1;obtain⟨a,xs,rfl,q1,q5⟩:=h1;cases r1;obtain⟨q4,v1,p1,_⟩:=I.tuple q1;have g:s.heap.IsTuple a q4.toArray:=p1;cases e with
   | err _ _=>exact M.elim|dic _=>simp[eqF] at h|non=>rw[show w=.non from M] at G;cases G;simp[eqF] at h;subst h;exact⟨EqAt.tuple_none g B,RcAt.tuple_none g B,RcNeAt.tuple_none g B⟩|bl b=>rw[show w=.bl b from M] at G;cases G;simp[eqF] at h;subst h;exact⟨EqAt.tuple_bool _ g B,RcAt.tuple_bool _ g B,RcNeAt.tuple_bool _ g B⟩|int b=>rw[show w=.int b from M] at G;obtain⟨t,rfl⟩:=G;simp[eqF] at h;subst h;exact⟨EqAt.tuple_int _ _ g B,RcAt.tuple_int _ _ g B,RcNeAt.tuple_int _ _ g B⟩|str b=>rw[show w=.str b from M] at G;obtain⟨t,rfl⟩:=G;simp[eqF] at h;subst h;exact⟨EqAt.tuple_str _ _ g B,RcAt.tuple_str _ _ g B,RcNeAt.tuple_str _ _ g B⟩|tup es=>
    have q7:=M;obtain⟨b,ys,rfl,q2,q0⟩:=M;cases G;obtain⟨U,v2,p2,_⟩:=I.tuple q2;have hk:cX n ds es=some k:=by simpa[eqF] using h
    have hv:=lD hk;have l1:q4.toArray.size=ds.length:=by rw[Aj,<-v1.length,q5.length]
    have l2:U.toArray.size=es.length:=by rw[Aj,<-v2.length,q0.length]
    have rc:RcAt A s (.ref a) (.ref b) k:=by rw[hv,<-l1,<-l2];exact RcAt.tuples g (show s.heap.IsTuple b U.toArray from p2) B (items q5 q0 v1 v2 hk)
    have rn:RcNeAt A s (.ref a) (.ref b) (!k):=by rw[hv,<-l1,<-l2];exact RcNeAt.tuples g (show s.heap.IsTuple b U.toArray from p2) B (items q5 q0 v1 v2 hk)
    refine⟨?_,rc,rn⟩;by_cases q3:a=b;subst q3;have:=jX I (n+1) (.tup ds) (.tup es) (.ref a) k ex ex' q6 q7 h;subst this;exact EqAt.same _;exact EqAt.of_refs q3 rc
   | lst es=>obtain⟨b,ys,rfl,q2,_,q0⟩:=M;cases G;obtain⟨U,v2,p2,_⟩:=I.list q2;simp[eqF] at h;subst h;exact⟨EqAt.tuple_list g p2.isList B,RcAt.tuple_list g p2.isList B,RcNeAt.tuple_list g p2.isList B⟩
  | lst ds=>
   have q6:=h1;obtain⟨a,xs,rfl,q1,_,q5⟩:=h1;cases r1;obtain⟨q4,v1,p1,_⟩:=I.list q1;have g:=p1.isList;cases e with
   | err _ _=>exact M.elim|dic _=>simp[eqF] at h|non=>rw[show w=.non from M] at G;cases G;simp[eqF] at h;subst h;exact⟨EqAt.list_none g B,RcAt.list_none g B,RcNeAt.list_none g B⟩|bl b=>rw[show w=.bl b from M] at G;cases G;simp[eqF] at h;subst h;exact⟨EqAt.list_bool _ g B,RcAt.list_bool _ g B,RcNeAt.list_bool _ g B⟩|int b=>rw[show w=.int b from M] at G;obtain⟨t,rfl⟩:=G;simp[eqF] at h;subst h;exact⟨EqAt.list_int _ _ g B,RcAt.list_int _ _ g B,RcNeAt.list_int _ _ g B⟩|str b=>rw[show w=.str b from M] at G;obtain⟨t,rfl⟩:=G;simp[eqF] at h;subst h;exact⟨EqAt.list_str _ _ g B,RcAt.list_str _ _ g B,RcNeAt.list_str _ _ g B⟩|lst es=>
    have q7:=M;obtain⟨b,ys,rfl,q2,_,q0⟩:=M;cases G;obtain⟨U,v2,p2,_⟩:=I.list q2;have l1:q4.toArray.size=ds.length:=by rw[Aj,<-v1.length,q5.length]
    have l2:U.toArray.size=es.length:=by rw[Aj,<-v2.length,q0.length]
    have W:RcAt A s (.ref a) (.ref b) k/\RcNeAt A s (.ref a) (.ref b) (!k):=by
     by_cases hl:ds.length=es.length;have hk:cX n ds es=some k:=by simpa[eqF,hl] using h
     have hv:=lD hk;rw[<-hl,Nat.min_self,beq_self_eq_true,FW,<-l1] at hv;rw[hv];exact⟨RcAt.lists g p2.isList (by rw[l1,l2,hl]) B (items q5 q0 v1 v2 hk),RcNeAt.lists g p2.isList (by rw[l1,l2,hl]) B (items q5 q0 v1 v2 hk)⟩;have hk:k=false:=by simpa[eqF,hl] using h.symm
     subst hk;have hz:(q4.toArray.size != U.toArray.size)=true:=by rw[l1,l2];simpa using hl
     exact⟨RcAt.lists_lengths g p2.isList hz B,RcNeAt.lists_lengths g p2.isList hz B⟩
    refine⟨?_,W.1,W.2⟩;by_cases q3:a=b;subst q3;have:=jX I (n+1) (.lst ds) (.lst es) (.ref a) k ex ex' q6 q7 h;subst this;exact EqAt.same _;exact EqAt.of_refs q3 W.1
   | tup es=>obtain⟨b,ys,rfl,q2,q0⟩:=M;cases G;obtain⟨U,v2,p2,_⟩:=I.tuple q2;have q8:s.heap.IsTuple b U.toArray:=p2;simp[eqF] at h;subst h;exact⟨EqAt.list_tuple g q8 B,RcAt.list_tuple g q8 B,RcNeAt.list_tuple g q8 B⟩
end
end Hp
namespace HT
open PySem PyProof.Rows
section
open PySem.SeqAt
open PySem.AutoSeq1 (wpAny_loadPart')
open PySem.MeetsSeq PySem.MeetsSeq2 PySem.MeetsSeq3
theorem aAy(A:AJ)(s:Ac)(a:Int)(t:Lq)(c:Int)(u:Lq)(prog:A0)(w:AR)(E:Ad->Ac->Prop)(Q:Ad->Ac->Prop)(h:Q (.bool (decide (c<=a))) s) :
 Am (A4 prog w) A (KL .GtE (.int a t) (.int c u)) Q E s:=
 (Lm h:Am (A4 prog w) A (BU .GtE (.int a t) (.int c u)) Q E s)
theorem nD(l b:Addr)(items B:Array Ad)(n n2:Nat)(dd q5:Option Addr)(sl q9:Array (Option Ad))(ns ms:List Int)(hi:Cw items.toList ns)(hj:Cw B.toList ms) :
 Kr (BL.«tuple.__ge__» ⟨[.ref l,.ref b],[]⟩)
  (λ_ R s=>s.heap.get? l=some { cls:=.type "tuple",dict:=dd,data:=.seq items n,slots:=sl }/\s.heap.get? b=some { cls:=.type "tuple",dict:=q5,data:=.seq B n2,slots:=q9 } /\
   R (.ok (.ret (.bool (!lexLt ns ms)))) s):=
 .of_wp λprog w A R s h=>by
  obtain⟨hp,g,d,tk,os⟩:=s;obtain⟨hl,hb,h⟩:=h;have f2:=FU;have z1:items.size=ns.length:=by rw[<-hi.length];simp
  have z2:B.size=ms.length:=by rw[<-hj.length];simp
  wp_walk using wpAny_loadPart' hl,wpAny_loadPart' hb,Bv _ (λrest b s'=>b.1=none/\s'=⟨hp,g,d,tk,os⟩/\∃(vs ws:List Ad) (L I:List Int),rest=vs.zip ws /\
   Cw vs L/\Cw ws I/\L.length+B.size=I.length+items.size/\R (.ok (.ret (.bool (!lexLt L I)))) ⟨hp,g,d,tk,os⟩) _
  case turn=>
   rintro ⟨y,x⟩ rest b s' ⟨q1,rfl,vs,ws,L,I,W,q2,U,G,M⟩;cases q2 with
   | nil=>rw[Ie] at W;cases W|cons a t q3=>
    cases U with
    | nil=>rw[Fu] at W;cases W|cons c u q4=>
     rw[AY] at W;injection W with hyx hrest
     injection hyx with hy hx
     subst hy hx;rw[lexLt_cons] at M;simp only[lC] at G;obtain⟨e,he,q0⟩:=rE A.in1 ⟨hp,g,d,tk,os⟩ a t c u;refine Aa (he prog w _ _ ?_);cases e with
     | true=>
      rw[if_pos (q0.mp rfl)] at M
      wp_walk
      exact⟨rfl,rfl,_,_,_,_,hrest,q3,q4,by omega,M⟩
     | false=>
      have q7:¬ a=c:=λq=>absurd (q0.mpr q) bN;rw[if_neg q7] at M;have q6:(!decide (a<c))=decide (c<=a):=by by_cases q:a<c;rw[Aw q,Ar (by omega)];rfl;rw[Ar q,Aw (by omega)];rfl
      rw[q6] at M;have q8:=aAy A.in1 ⟨hp,g,d,tk,os⟩ a t c u prog w
      wp_walk using q8
      exact⟨_,rfl,by simpa using M⟩
  case fin=>
   rintro ⟨b1,b2⟩ s' ⟨q1,rfl,vs,ws,L,I,W,q2,U,G,M⟩;simp only at q1;subst q1;have hv:lexLt L I=decide (items.size<B.size):=by
    cases q2 with
    | nil=>
     cases U with
     | nil=>simp only[lN] at G;rw[gD];exact(Ar (by omega)).symm|cons c u hw=>simp only[lN,lC] at G;rw[eZ];exact(Aw (by omega)).symm
    | cons a t hv=>
     cases U with
     | nil=>simp only[lN,lC] at G;rw[fA];exact(Ar (by omega)).symm|cons c u hw=>rw[AY] at W;cases W
   rw[hv] at M
   wp_walk
   refine⟨_,rfl,?_⟩;have e:(!decide (items.size<B.size))=decide (items.size ≥ B.size):=by by_cases q:items.size<B.size;rw[Aw q,Ar (by omega)];rfl;rw[Ar q,Aw (by omega)];rfl
   rw[e] at M;simpa[E6] using M
  case h=>exact⟨rfl,rfl,items.toList,B.toList,ns,ms,rfl,hi,hj,by omega,h⟩
end
theorem jR:Gg JD "tuple.__ge__" = some BL.«tuple.__ge__»:=IR (by kernel_rfl)
section
variable {prog:A0} {w:AR} {A:AJ} {E:Ad->Ac->Prop} {s:Ac}
theorem ge_tupInts{l b:Addr}{items g:Array Ad}{ns I:List Int}{Q:Ad->Ac->Prop}(hl:IsTup s.heap l items)(hb:IsTup s.heap b g)(hi:Cw items.toList ns)(hj:Cw g.toList I)
 (hu:A.units<Co) (h:Q (.bool (!lexLt ns I)) s):Am (A4 prog w) A (BU .GtE (.ref l) (.ref b)) Q E s:=by
 obtain⟨⟨cls,dd,data,sl⟩,ho,hc,n,hd⟩:=id hl;obtain⟨⟨W,M,L,U⟩,G,q,n2,B⟩:=id hb;simp only at hc hd q B;subst hc hd q B;exact Dw (op:=.GtE) ⟨_,ho,rfl⟩ ⟨_,G,rfl⟩ PySem.F.slot_tuple_ge jR (PySem.F.args_tuple_ge_2 _ _) (nD l b items g n n2 dd M sl U ns I hi hj)
  ⟨ho,G,show Fp (!lexLt ns I)≠CT/\Q (.bool (!lexLt ns I)) s from⟨(λx=>nomatch x),h⟩⟩ hu
end
end HT
namespace Hp
open PySem PySem.Spec PyProof.Rows L2 PySem.SeqAt
section
variable {X:Cx} {ZV:L2.St} {H:Hp} {s:Ac} {pins:List (Addr×Obj)}
mutual
theorem vX(I:L2.Inv X pins ZV H s):∀(d e:D) (u:V) (ex ex':Addr->Prop),Rep X.K H ex d u->Rep X.K H ex' e u->(∀kvs,d≠.dic kvs)->eS d=true->eS e=true->d=e
 | .non,e,u,_,_,B,g,_,_,_=>by
  rw[show u=.non from B] at g;cases e with
  | non=>rfl|_=>first|(obtain⟨a,xs,z,_⟩:=g;cases z)|exact g.elim|(injection g)
 | .bl b,e,u,_,_,B,g,_,_,_=>by
  rw[show u=.bl b from B] at g;cases e with
  | bl L=>cases(show V.bl b=.bl L from g);rfl|_=>first|(obtain⟨a,xs,z,_⟩:=g;cases z)|exact g.elim|(injection g)
 | .int b,e,u,_,_,B,g,_,_,_=>by
  rw[show u=.int b from B] at g;cases e with
  | int L=>cases(show V.int b=.int L from g);rfl|_=>first|(obtain⟨a,xs,z,_⟩:=g;cases z)|exact g.elim|(injection g)
 | .str b,e,u,_,_,B,g,_,_,_=>by
  rw[show u=.str b from B] at g;cases e with
  | str L=>cases(show V.str b=.str L from g);rfl|_=>first|(obtain⟨a,xs,z,_⟩:=g;cases z)|exact g.elim|(injection g)
 | .tup ds,e,u,ex,ex',B,g,_,n1,M=>by
  obtain⟨a,xs,z,q,r⟩:=B;subst z;cases e with
  | tup es=>obtain⟨W,ys,z,G,U⟩:=g;cases z;have:xs=ys:=I.tuple_inj q G;subst this;rw[reps_inj I ds es xs ex ex' r U (by simpa[eS] using n1) (by simpa[eS] using M)]|lst es=>obtain⟨W,ys,z,G,_,U⟩:=g;cases z;exact(I.lt_ne G q).elim|dic _=>simp[eS] at M|err _ _=>exact g.elim|_=>injection g
 | .lst ds,e,u,ex,ex',B,g,_,n1,M=>by
  obtain⟨a,xs,z,q,_,r⟩:=B;subst z;cases e with
  | lst es=>obtain⟨W,ys,z,G,_,U⟩:=g;cases z;have:xs=ys:=I.list_inj q G;subst this;rw[reps_inj I ds es xs ex ex' r U (by simpa[eS] using n1) (by simpa[eS] using M)]|tup es=>obtain⟨W,ys,z,G,U⟩:=g;cases z;exact(I.lt_ne q G).elim|dic _=>simp[eS] at M|err _ _=>exact g.elim|_=>injection g
 | .dic kvs,e,u,_,_,_,_,hn,_,_=>absurd rfl (hn kvs)|.err _ _,e,u,_,_,B,_,_,_,_=>B.elim
theorem reps_inj(I:L2.Inv X pins ZV H s):∀(ds es:List D) (us:List V) (ex ex':Addr->Prop),Reps X.K H ex ds us->Reps X.K H ex' es us->noDics ds=true->noDics es=true->ds=es
 | [],[],_,_,_,_,_,_,_=>rfl|[],e::es,us,_,_,h1,h2,_,_=>by obtain⟨x,r,z,_⟩:=h2;rw[show us=[] from h1] at z;cases z|d::ds,[],us,_,_,h1,h2,_,_=>by obtain⟨x,r,z,_⟩:=h1;rw[show us=[] from h2] at z;cases z|d::ds,e::es,us,ex,ex',h1,h2,n1,n2=>by obtain⟨x,r,z,a1,b1⟩:=h1;obtain⟨L,G,g,q,B⟩:=h2;rw[z] at g;cases g;simp only[noDics,bA] at n1 n2;rw[vX I d e x ex ex' a1 q (λkvs z=>by subst z;simp[eS] at n1) n1.1 n2.1,reps_inj I ds es r ex ex' b1 B n1.2 n2.2]
end
theorem cY:∀{ds:List D} {ns:List Int} {xs:List V} {ex:Addr->Prop},bD ds=some ns->Reps X.K H ex ds xs->xs=ns.map V.int
 | [],ns,xs,ex,h,r=>by simp[bD] at h;subst h;exact r|.int a::ds,ns,xs,ex,h,r=>by
  obtain⟨x,I,z,g,B⟩:=r;rw[bD] at h;cases q:bD ds with
  | none=>rw[q] at h;cases h|some G=>rw[q] at h;cases h;rw[z,show x=.int a from g,cY q B];rfl
 | .non::ds,ns,xs,ex,h,r=>by simp[bD] at h|.bl _::ds,ns,xs,ex,h,r=>by simp[bD] at h|.str _::ds,ns,xs,ex,h,r=>by simp[bD] at h|.tup _::ds,ns,xs,ex,h,r=>by simp[bD] at h|.lst _::ds,ns,xs,ex,h,r=>by simp[bD] at h|.dic _::ds,ns,xs,ex,h,r=>by simp[bD] at h|.err _ _::ds,ns,xs,ex,h,r=>by simp[bD] at h
theorem vY:∀(ns g:List Int),aCu ns g=HT.lexLt ns g
 | [],[]=>rfl|[],_::_=>rfl|_::_,[]=>rfl|x::xs,y::ys=>by rw[aCu,HT.lexLt_cons,vY xs ys]
theorem nP{as bs:List D}{k:Bool}(h:aCv as bs=some k):∃ns g,bD as=some ns/\bD bs=some g/\k=HT.lexLt ns g:=by
 unfold aCv at h;cases q:bD as with
 | none=>rw[q] at h;cases h|some ns=>
  cases B:bD bs with
  | none=>rw[q,B] at h;cases h|some g=>rw[q,B] at h;exact⟨ns,g,rfl,rfl,(Av h).symm.trans (vY ns g)⟩
theorem vZ:∀{x:D} {ys:List D} {k:Bool},rS x ys=some k->(∀y∈ys,∃b,eqD y x=some b)/\(k=true↔∃y∈ys,eqD y x=some true)
 | x,[],k,h=>by simp[rS] at h;subst h;simp|x,y::ys,k,h=>by
  rw[rS] at h;cases g:eqD y x with
  | none=>rw[g] at h;simp at h|some a=>
   cases G:rS x ys with
   | none=>rw[g,G] at h;simp at h|some b=>rw[g,G] at h;have I:(a||b)=k:=Av h;obtain⟨i1,i2⟩:=vZ G;refine⟨λz q=>?_,?_⟩;rcases Al.mp q with e|e;subst e;exact⟨a,g⟩;exact i1 z e;rw[<-I,B8,i2];constructor;rintro (e|⟨z,q,e⟩);exact⟨y,Ai,by rw[g,e]⟩;exact⟨z,Af _ q,e⟩;rintro ⟨z,q,e⟩;rcases Al.mp q with B|B;subst B;rw[g] at e;exact .inl (Av e);exact .inr ⟨z,B,e⟩
theorem gH:∀{ds:List D} {d:D},noDics ds=true->d∈ds->eS d=true
 | d'::ds,d,h,hm=>by simp only[noDics,bA] at h;rcases Al.mp hm with e|e;subst e;exact h.1;exact gH h.2 e
open Classical in
theorem fQ(I:L2.Inv X pins ZV H s){A:AJ}(hA:A.units+gR+1<Co){x:D}{ux:V}{U:Ad}{ex ex':Addr->Prop}{ys:List D}{xs:List V}{g:List Ad}{k:Bool}
 (hx:Rep X.K H ex x ux) (rx:aQ ux U) (r:Reps X.K H ex' ys xs) (v:aH xs g) (hn:noDics ys=true) (h:rS x ys=some k) :
 ∃e:Ad->Bool,(∀y,y∈g.toArray->EqAt A.in1 s y U (e y))/\g.toArray.any e=k:=by
 obtain⟨h1,h2⟩:=vZ h;have at':∀y∈g,∃u d,aQ u y/\Rep X.K H ex' d u/\d∈ys:=λy B=>by
  obtain⟨j,M⟩:=EO B;have hl:=v.length;have L:j<xs.length:=by have:=(Au.mp M).1;omega
  obtain⟨u',e',q⟩:=v.get (Ah L);rw[M] at e';cases e';obtain⟨d,hd,rd⟩:=r.get' (Ah L);exact⟨_,d,q,rd,mG hd⟩
 refine⟨λy=>decide (∃u d,aQ u y/\Rep X.K H ex' d u/\d∈ys/\eqD d x=some true),λy B=>?_,?_⟩;obtain⟨u,d,q,rd,hd⟩:=at' y (by simpa using B);obtain⟨b,W⟩:=h1 d hd;have key:(decide (∃u d,aQ u y/\Rep X.K H ex' d u/\d∈ys/\eqD d x=some true))=b:=by
  cases b with
  | true=>exact Aw ⟨u,d,q,rd,hd,W⟩|false=>refine Ar ?_;rintro ⟨u',d',q',q2,q0,G⟩;have e1:u'=u:=q'.inj q;subst e1;have n1:=gH hn hd;have n2:=gH hn q0;have e2:d=d':=vX I d d' u' ex' ex' rd q2 (λkvs z=>by subst z;simp[eS] at n1) n1 n2;subst e2;rw[W] at G;cases G
 show EqAt A.in1 s y U (decide (∃u d,aQ u y/\Rep X.K H ex' d u/\d∈ys/\eqD d x=some true));rw[key];exact(vW I gR A.in1 d x u ux y U b ex' ex (by rw[nO];omega) rd hx q rx W).1;rw[Jl,h2];constructor;intro q;have q':g.any (λy=>decide (∃u d,aQ u y/\Rep X.K H ex' d u/\d∈ys/\eqD d x=some true))=true:=by simpa using q
 obtain⟨y,B,q1⟩:=EE.mp q';obtain⟨u,d,_,_,hd,e⟩:=of_decide_eq_true q1;exact⟨d,hd,e⟩;rintro ⟨d,hd,e⟩;have:g.any (λy=>decide (∃u d,aQ u y/\Rep X.K H ex' d u/\d∈ys/\eqD d x=some true))=true:=by obtain⟨j,M⟩:=EO hd;obtain⟨u,hu,ru⟩:=r.get M;obtain⟨y,B,q⟩:=v.get hu;exact EE.mpr ⟨y,mG B,Aw ⟨u,d,q,ru,hd,e⟩⟩
 simpa using this
end
section
variable {X:Cx} {RT Y old:Addr->Prop} {Z:Sg} {ZV:L2.St} {H:Hp} {s:Ac} {pins:List (Addr×Obj)} {Q:VK} {ux uy:V} {vx vy:Ad} {x y:Vl}
theorem yH{o:CmpOp}{k:Bool}{q0:L2.St}(I:L2.Inv X pins ZV H s)(hA:X.A.units+200<Co)(rx:aQ ux vx)(ry:aQ uy vy)(B:Rv X.K RT Y old Z q0 H x ux)(U:Rv X.K RT Y old Z q0 H y uy)
 (h:cF o x.d y.d=some k) (q:Q (.bl k) H):Am (A4 X.prog X.w) X.A (BU o vx vy) (EP X pins ZV Q) X.xe s:=by
 have hu:X.A.units<Co:=by omega
 have L:EP X pins ZV Q (.bool k) s:=⟨.bl k,H,I,rfl,q⟩
 have hD:gR=120:=rfl;have go:∀{f:Ad->Ad->KH Ad} {r:R2},OpR X f r->r ux uy H Q->Am (A4 X.prog X.w) X.A (f vx vy) (EP X pins ZV Q) X.xe s:=λhr q=>hr pins s ZV H ux uy vx vy Q I rx ry q;have e3:∀{b:Bool},eqD x.d y.d=some b->Eq3 X.A s vx vy b:=λ{b} hb=>vW I gR X.A x.d y.d ux uy vx vy b _ _ (by omega) B U rx ry hb;cases o with
 | Eq=>exact(e3 h).2.1 X.prog X.w X.xe _ L|NotEq=>simp only[cF,Bt] at h;obtain⟨b,hb,e⟩:=h;subst e;exact(e3 hb).2.2 X.prog X.w X.xe _ L|Lt=>simp only[cF] at h;unfold ltD at h;split at h;rename_i a b G g;exact go aGJ ⟨a,b,B.int G,U.int g,by show Q (.bl (decide (a<b))) H;rw[Av h];exact q⟩;rename_i as bs G g;obtain⟨ns,ms,q1,q2,e⟩:=nP h;obtain⟨a,xs,e1,p1,r1⟩:=B.tup G;obtain⟨b,ys,e2,p2,r2⟩:=U.tup g;rw[cY q1 r1] at p1;rw[cY q2 r2] at p2;exact go (aEz hu) ⟨a,b,ns,ms,e1,e2,p1,p2,by rw[<-e];exact q⟩;cases h|Gt=>simp only[cF] at h;split at h;rename_i a b G g;exact go aGL ⟨a,b,B.int G,U.int g,by show Q (.bl (decide (b<a))) H;rw[Av h];exact q⟩;cases h|LtE=>simp only[cF] at h;unfold leD at h;split at h;rename_i a b G g;exact go aGK ⟨a,b,B.int G,U.int g,by show Q (.bl (decide (a<=b))) H;rw[Av h];exact q⟩;cases h|GtE=>simp only[cF] at h;split at h;rename_i a b G g;exact go aGM ⟨a,b,B.int G,U.int g,by show Q (.bl (decide (b<=a))) H;rw[Av h];exact q⟩;rename_i as bs G g;simp only[Bt] at h;obtain⟨b',hb,e'⟩:=h;obtain⟨ns,ms,q1,q2,e⟩:=nP hb;obtain⟨a,xs,e1,p1,r1⟩:=B.tup G;obtain⟨b,ys,e2,p2,r2⟩:=U.tup g;rw[cY q1 r1] at p1;rw[cY q2 r2] at p2;subst e1 e2;cases rx;cases ry;obtain⟨W,v1,t1,_⟩:=I.tuple p1;obtain⟨q3,v2,t2,_⟩:=I.tuple p2;refine HT.ge_tupInts t1 t2 (eG v1) (eG v2) hu ?_;rw[<-e,e'];exact L;cases h|Is=>
  simp only[cF] at h;split at h;rename_i g;refine go aEu ⟨U.non g,?_⟩;have:decide (ux=V.non)=k:=by
   rw[<-Av h];unfold isNone;split;rename_i G;rw[B.non G];simp;rename_i G;refine Ar λz=>?_;rw[z] at B;unfold Rv at B;cases q':x.d with
   | non=>exact G q'|_=>rw[q'] at B;first|(obtain⟨a,xs,z',_⟩:=B;cases z')|exact B.elim|injection B
  rw[this];exact q;cases h
 | IsNot=>
  simp only[cF] at h;split at h;rename_i g;refine go aCb ⟨U.non g,?_⟩;have:(!decide (ux=V.non))=k:=by
   rw[<-Av h];unfold isNone;split;rename_i G;rw[B.non G];simp;rename_i G;rw[Ar λz=>?_];rw[z] at B;unfold Rv at B;cases q':x.d with
   | non=>exact G q'|_=>rw[q'] at B;first|(obtain⟨a,xs,z',_⟩:=B;cases z')|exact B.elim|injection B
  rw[this];exact q;cases h
 | In=>simp only[cF] at h;unfold inD at h;split at h;rename_i ys g;by_cases M:noDics ys=true;rw[if_pos M] at h;obtain⟨b,xs,e2,p2,_,r2⟩:=U.lst g;subst e2;cases ry;obtain⟨W,v2,t2,_⟩:=I.list p2;obtain⟨e,he,hk⟩:=fQ I (A:=X.A) (by omega) B rx r2 v2 M h;exact in_listAt e t2.isList he (by rw[hk];exact L);rw[if_neg M] at h;cases h;rename_i ys g;by_cases M:noDics ys=true;rw[if_pos M] at h;obtain⟨b,xs,e2,p2,r2⟩:=U.tup g;subst e2;cases ry;obtain⟨W,v2,t2,_⟩:=I.tuple p2;obtain⟨e,he,hk⟩:=fQ I (A:=X.A) (by omega) B rx r2 v2 M h;exact in_tupleAt e (show s.heap.IsTuple b W.toArray from t2) he (by rw[hk];exact L);rw[if_neg M] at h;cases h;rename_i a b G g;exact go xY ⟨a,b,B.str G,U.str g,by rw[show(!(Dm b a 0 b.length 1).isEmpty)=k from Av h];exact q⟩;cases h|NotIn=>simp only[cF,Bt] at h;obtain⟨k',h,ek⟩:=h;subst ek;unfold inD at h;split at h;rename_i ys g;by_cases M:noDics ys=true;rw[if_pos M] at h;obtain⟨b,xs,e2,p2,_,r2⟩:=U.lst g;subst e2;cases ry;obtain⟨W,v2,t2,_⟩:=I.list p2;obtain⟨e,he,hk⟩:=fQ I (A:=X.A) (by omega) B rx r2 v2 M h;exact notIn_listAt e t2.isList he (by rw[hk];exact L);rw[if_neg M] at h;cases h;rename_i ys g;by_cases M:noDics ys=true;rw[if_pos M] at h;obtain⟨b,xs,e2,p2,r2⟩:=U.tup g;subst e2;cases ry;obtain⟨W,v2,t2,_⟩:=I.tuple p2;obtain⟨e,he,hk⟩:=fQ I (A:=X.A) (by omega) B rx r2 v2 M h;exact notIn_tupleAt e (show s.heap.IsTuple b W.toArray from t2) he (by rw[hk];exact L);rw[if_neg M] at h;cases h;rename_i a b G g;exact go pB ⟨a,b,B.str G,U.str g,by rw[show(!(Dm b a 0 b.length 1).isEmpty)=k' from Av h];exact q⟩;cases h
end
end Hp
namespace Hp
open PySem PySem.Spec PyProof.Rows L2
section
variable {X:Cx} {RT Y old:Addr->Prop} {Z:Sg} {ZV:L2.St} {H:Hp} {s:Ac} {pins:List (Addr×Obj)} {Q:VK} {ux uy:V} {vx vy:Ad} {x y:Vl}
theorem uN(n:Nat)(k:Int):Hp.ixN n k=L2.ixN n k:=rfl
theorem Rv.ofSub{d:D}{u:V}(h:Rep X.K H (exV RT Y old Z ZV x.pa x.al) d u):Ro X.K RT Y old Z ZV H H (x.sub d) u:=by refine Ro.plain (aG.refl H) ?_ (Rv.sub (ds:=[]) (xs:=[]) (j:=0) h);unfold Vl.sub Vl.cl;split <;> rfl
theorem yI(t:Tk X.K H)(L:Rv X.K RT Y old Z ZV H x ux)(M:Rv X.K RT Y old Z ZV H y uy)(h:RE (cS x y) (Wn X RT Y old Z ZV H Q)):rIx X.K ux uy H (λv H'=>Tk X.K H'->Q v H'):=by
 unfold cS at h;split at h;rename_i ds k B G;obtain⟨a,xs,e,q,_,r⟩:=L.lst B;cases g:Hp.ixN ds.length k with
 | none=>rw[g] at h;exact h.elim|some j=>
  rw[g] at h;cases hd:ds[j]? with
  | none=>simp only[hd] at h;exact h.elim|some d=>simp only[hd] at h;obtain⟨v,I,rv⟩:=r.get hd;refine .inl ⟨a,xs,k,v,e,M.int G,q,?_,λt'=>h v H t' (Rv.ofSub rv)⟩;unfold atI;rw[<-r.length,<-uN,g];exact I
 rename_i ds k B G;obtain⟨a,xs,e,q,r⟩:=L.tup B;cases g:Hp.ixN ds.length k with
 | none=>rw[g] at h;exact h.elim|some j=>
  rw[g] at h;cases hd:ds[j]? with
  | none=>simp only[hd] at h;exact h.elim|some d=>simp only[hd] at h;obtain⟨v,I,rv⟩:=r.get hd;refine .inr (.inl ⟨a,xs,k,v,e,M.int G,q,?_,λt'=>h v H t' (Rv.ofSub rv)⟩);unfold atI;rw[<-r.length,<-uN,g];exact I
 rename_i z k B G;obtain⟨c,h⟩:=h.iff;have U:=of_decide_eq_true c;cases g:Hp.ixN z.length k with
 | none=>rw[g] at h;exact h.elim|some j=>
  rw[g] at h;cases hd:z.cps.toList[j]? with
  | none=>simp only[hd] at h;exact h.elim|some c=>
   simp only[hd] at h;refine .inr (.inr ⟨z,k,c,L.str B,M.int G,dA U,?_,λt'=>Wn.val h t' λ_=>rfl⟩);unfold atI;have W:z.cps.toList.length=z.length:=by simp[J8]
   rw[W,<-uN,g];exact hd
 exact h.elim
theorem pM(n d:Nat)(o:Option Int):Hp.sIx n d o=HT.sIx n d o:=by cases o <;> rfl
theorem rY{K:Fg}{ex:Addr->Prop}{ds:List D}{xs:List V}(r:Reps K H ex ds xs)(lo hi:Option Int):Reps K H ex (cut ds lo hi) (rF xs lo hi):=by unfold cut rF;rw[pM,pM,r.length];exact(r.drop _).take _
theorem fZ{prog:A0}{w:AR}{A:AJ}{E:Ad->Ac->Prop}{t sl:Addr}{items:Array Ad}{M U:Ad}{lo hi:Option Int}{Q:Ad->Ac->Prop}(g:IsTup s.heap t items)(hs:s.heap.IsSliceOf sl M U .none)(pl:Gr M lo)(pu:Gr U hi)
 (L:HT.sIx items.size 0 lo=0/\HT.sIx items.size items.size hi=items.size) (h:Q (.ref t) s):Am (A4 prog w) A (Gu (.ref t) (.ref sl)) Q E s:=by
 obtain⟨os,I,G,W⟩:=id hs;have B:s.TypeIs (.ref sl) "slice" := ⟨os,I,G⟩
 unfold Gu
 try with_reducible refine AI ?_
 first|refine Aa (Ab ?_)|skip
 refine Aa (Ig g.typeIs (by decide) ?_);refine Aa (Cy (name:=Fk "__getitem__") g.typeIs Bl
  (AZ Bl g.typeIs Hk ?_ (HD _ _)))
 show Am _ _ (DE (.ref t) >>= _) _ _ s;refine Aa (Ka g ?_);refine Aa (CU B ?_);rw[if_pos (by decide)];refine Aa (HT.sliceApplied_gen hs pl pu ?_);have q:(((HT.sIx items.size 0 lo:Nat):Int)==0&&(1:Int)==1&&(HT.sIx items.size items.size hi-HT.sIx items.size 0 lo)==items.size)=true:=by rw[L.1,L.2];simp
 show Am _ _ (if (((HT.sIx items.size 0 lo:Nat):Int)==0&&(1:Int)==1&&(HT.sIx items.size items.size hi-HT.sIx items.size 0 lo)==items.size)=true then _ else _) _ _ s;rw[if_pos q];unfold JE;refine Aa (Aa (CU g.typeIs (Ab ?_)));rw[if_pos (beq_self_eq_true _)];exact Aa (CF (Ab ⟨_,rfl,Ab h⟩))
noncomputable def rZ(K:Fg):V->Option Int->Option Int->Hp->VK->Prop:=λx lo hi H Q=>∃a xs,x=.ref a/\SqT K H a xs/\(HT.sIx xs.length 0 lo=0/\HT.sIx xs.length xs.length hi=xs.length)/\Q (.ref a) H
theorem aCA:SlR X (rZ X.K):=by
 intro pins s Z H x v vl vu lo hi sl Q I rx hs U W h;obtain⟨a,xs,rfl,M,L,q⟩:=h;cases rx;obtain⟨B,r,G,hz⟩:=I.tuple M;have g:B.toArray.size=xs.length:=by rw[Aj];exact r.length.symm
 refine⟨"tuple",_,Bl.lookup,G.typeIs,?_⟩;exact fZ G hs U W (by rw[g];exact L) ⟨.ref a,H,I,rfl,q⟩
theorem aES:SlR X (λx lo hi H Q=>zY X.K x lo hi H Q\/zX X.K x lo hi H Q\/rZ X.K x lo hi H Q\/aAr x lo hi H Q):=aCl.or (aEy.or (aCA.or aEP))
theorem yJ{α:Type}{xs:List α}{lo hi:Option Int}(g:Hp.sIx xs.length 0 lo=0)(q:Hp.sIx xs.length xs.length hi=xs.length):cut xs lo hi=xs:=by unfold cut;rw[g,q,E1,G6,DU]
theorem yK{lo hi:Option Int}(S:Sx X.K RT Y old Z ZV H)(t:Tk X.K H)(I:Rv X.K RT Y old Z ZV H x ux)(h:RE (dH x lo hi) (Wn X RT Y old Z ZV H Q)) :
 zY X.K ux lo hi H (λv H'=>Tk X.K H'->Q v H')\/zX X.K ux lo hi H (λv H'=>Tk X.K H'->Q v H')\/rZ X.K ux lo hi H (λv H'=>Tk X.K H'->Q v H')\/aAr ux lo hi H (λv H'=>Tk X.K H'->Q v H'):=by
 unfold dH at h;split at h;rename_i ds g;obtain⟨a,xs,e,q,_,r⟩:=I.lst g;refine .inl ⟨a,xs,e,q,λp G t'=>h _ _ t' (Ro.fresh G t' rfl rfl S ?_)⟩;exact rY (eI r) lo hi;rename_i ds g;obtain⟨a,xs,e,q,r⟩:=I.tup g;have L:=eI r;by_cases B:HT.sIx xs.length 0 lo=0/\HT.sIx xs.length xs.length hi=xs.length;refine .inr (.inr (.inl ⟨a,xs,e,q,B,λt'=>h _ _ t' (Ro.plain (aG.refl H) rfl ?_)⟩));have M:cut ds lo hi=ds:=yJ (by rw[pM,r.length];exact B.1) (by rw[pM,r.length];exact B.2);unfold Rv;show Rep X.K H _ (.tup (cut ds lo hi)) (.ref a);rw[M];exact⟨a,xs,rfl,q,L⟩;exact .inr (.inl ⟨a,xs,e,q,B,λp G t'=>h _ _ t' (Ro.tup G rfl rfl (rY L lo hi))⟩);rename_i a g;obtain⟨U,h⟩:=h.iff;have e:ux=.str a:=by have z:=I;unfold Rv at z;rw[g] at z;exact z
 exact .inr (.inr (.inr ⟨a,e,dA (of_decide_eq_true U),λt'=>h _ _ t' (Ro.cl (aG.refl H) rfl)⟩));exact h.elim
theorem log2_lt{i:Int}(h:i.natAbs<2 ^ 1000):i.natAbs.log2<1920:=by by_cases g:i.natAbs=0;rw[g];decide;have:=(KW g).mpr (AF h (EQ (by decide) (show 1000<=1920 by decide)));exact this
noncomputable def rBi(X:Cx)(b:Bi):List V->Hp->VK->Prop:=match b with|.len=>λxs H Q=>(∃p ys,xs=[.ref p]/\(SqL X.K H p ys\/SqT X.K H p ys)/\Q (.int ys.length) H)\/∃z,xs=[.str z]/\z.length<=sizeLine/\Q (.int z.length) H|.list=>λxs H Q=>∃p ys,xs=[.ref p]/\(SqL X.K H p ys\/SqT X.K H p ys)/\∀l,H l=none->Q (.ref l) (upd H l (.lst ys))|_=>λ_ _ _=>False
noncomputable def aDM:Bi->Ad
 | .len=>.builtin "len" | .list=>.type "list" | .tuple=>.type "tuple" | .min=>.builtin "min" | .max=>.builtin "max" | .abs=>.builtin "abs" | .int=>.type "int" | .str=>.type "str"
 | .all=>.builtin "all" | .any=>.builtin "any" | .sum=>.builtin "sum" | .sorted=>.builtin "sorted" | .bool=>.type "bool" | .repr=>.builtin "repr"
theorem aCB(q:X.calm=true)(B:X.A.guards=some [])(G:X.A.units+200<Co)(b:Bi)(g:aAo b=true):gB X (aDM b) (rBi X b):=by
 cases b with
 | len=>exact pC.or pD|list=>exact pE|_=>cases g
theorem aAz{b:Bi}(g:aAo b=true)(S:Sx X.K RT Y old Z ZV H){vs:List Vl}{us:List V}(U:Rvs X.K RT Y old Z ZV H vs us)(h:RE (biD b vs) (Wn X RT Y old Z ZV H Q)) :
 rBi X b us H (λv H'=>Tk X.K H'->Q v H'):=by
 unfold biD at h;split at h;rename_i x;obtain⟨u,r,e,G,L⟩:=U;rw[show r=[] from L] at e;subst e;cases b with
 | len=>dsimp only[aEM] at h;split at h;rename_i ds B;obtain⟨a,xs,e,q,_,r⟩:=G.lst B;exact .inl ⟨a,xs,by rw[e],.inl q,λt'=>by rw[<-r.length];exact Wn.val h t' λ_=>rfl⟩;rename_i ds B;obtain⟨a,xs,e,q,r⟩:=G.tup B;exact .inl ⟨a,xs,by rw[e],.inr q,λt'=>by rw[<-r.length];exact Wn.val h t' λ_=>rfl⟩;rename_i z B;obtain⟨c,h⟩:=h.iff;exact .inr ⟨z,by rw[G.str B],dA (of_decide_eq_true c),λt'=>Wn.val h t' λ_=>rfl⟩;exact h.elim|list=>dsimp only[aEM] at h;split at h;rename_i ds B;obtain⟨a,xs,e,q,_,r⟩:=G.lst B;exact⟨a,xs,by rw[e],.inl q,λp I t'=>h _ _ t' (Ro.fresh I t' rfl rfl S (eI r))⟩;rename_i ds B;obtain⟨a,xs,e,q,r⟩:=G.tup B;exact⟨a,xs,by rw[e],.inr q,λp I t'=>h _ _ t' (Ro.fresh I t' rfl rfl S (eI r))⟩;exact h.elim|tuple=>cases g|abs=>cases g|int=>cases g|str=>cases g|all=>cases g|repr=>cases g|bool=>cases g|sum=>cases g|any=>cases g|sorted=>cases g|min=>exact h.elim|max=>exact h.elim
 rename_i x y;obtain⟨u,r,e,G,u',W,M,hy,L⟩:=U;rw[show W=[] from L] at M;subst M e;cases b with
 | min=>cases g|max=>cases g|_=>exact h.elim
 exact h.elim
noncomputable def sA:Cl->Option Ad
 | .tInt=>some (.type "int")|.tBool=>some (.type "bool")|.tStr=>some (.type "str")|.tList=>some (.type "list")|.tTuple=>some (.type "tuple")|.tDict=>some (.type "dict")
 | _=>none
noncomputable def tyD:D->Option String
 | .non=>some "NoneType" | .bl _=>some "bool" | .int _=>some "int" | .str _=>some "str" | .tup _=>some "tuple" | .lst _=>some "list" | .dic _=>some "dict" | .err _ _=>none
theorem eJ(K:Fg)(P:Pg){c:Cl}{B:Ad}{d:D}{k:Bool}{T:String}(g:sA c=some B)(q:tyD d=some T)(h:isI [c] P d=some k):PySem.W.kitOne K (.type T) B=some k:=by
 cases c with
 | own c=>cases g|tValueError=>cases g|tInt=>cases g;cases d <;> cases q <;> simp[isI] at h <;> subst h <;> kernel_rfl|tBool=>cases g;cases d <;> cases q <;> simp[isI] at h <;> subst h <;> kernel_rfl|tStr=>cases g;cases d <;> cases q <;> simp[isI] at h <;> subst h <;> kernel_rfl|tList=>cases g;cases d <;> cases q <;> simp[isI] at h <;> subst h <;> kernel_rfl|tTuple=>cases g;cases d <;> cases q <;> simp[isI] at h <;> subst h <;> kernel_rfl|tDict=>cases g;cases d <;> cases q <;> simp[isI] at h <;> subst h <;> kernel_rfl
theorem yL(P:Pg){c:Cl}{cv:Ad}{k:Bool}(I:L2.Inv X pins ZV H s)(G:aQ ux vx)(B:Rv X.K RT Y old Z ZV H x ux)(L:sA c=some cv)(h:isI [c] P x.d=some k)(q:Q (.bl k) H) :
 Am (A4 X.prog X.w) X.A (Gz (.builtin "isinstance") [vx,cv]) (EP X pins ZV Q) X.xe s:=by
 have g:∀tk,EP X pins ZV Q (.bool k) { s with toks:=tk }:=λtk=>⟨.bl k,H,I.tok tk,rfl,q⟩
 cases d:x.d with
 | non=>have e:=eJ X.K P L (by rw[d];rfl) h;rw[B.non d] at G;cases G;exact CP PySem.W.kitx_none I.kIn G1 e (λz=>nomatch z) g|bl b=>have e:=eJ X.K P L (by rw[d];rfl) h;rw[B.bl d] at G;cases G;exact CP PySem.W.kitx_bool I.kIn G1 e (λz=>nomatch z) g|int i=>have e:=eJ X.K P L (by rw[d];rfl) h;rw[B.int d] at G;obtain⟨t,rfl⟩:=G;exact CP PySem.W.kitx_int I.kIn G1 e (λz=>nomatch z) g|str z=>have e:=eJ X.K P L (by rw[d];rfl) h;rw[B.str d] at G;obtain⟨t,rfl⟩:=G;exact CP PySem.W.kitx_str I.kIn G1 e (λz=>nomatch z) g|tup ds=>have e:=eJ X.K P L (by rw[d];rfl) h;obtain⟨a,xs,M,p,_⟩:=B.tup d;subst M;cases G;obtain⟨q0,_,t,_⟩:=I.tuple p;obtain⟨o,U,W,_⟩:=t;exact CP PySem.W.kitx_tuple I.kIn ⟨o,U,W⟩ e (λz=>nomatch z) g|lst ds=>have e:=eJ X.K P L (by rw[d];rfl) h;obtain⟨a,xs,M,p,_⟩:=B.lst d;subst M;cases G;obtain⟨q0,_,t,_⟩:=I.list p;obtain⟨o,n,U,W,_⟩:=t;exact CP PySem.W.kitx_list I.kIn ⟨o,U,W⟩ e (λz=>nomatch z) g|dic kvs=>
  have e:=eJ X.K P L (by rw[d];rfl) h;unfold Rv at B;rw[d] at B;obtain⟨a,ks,M,p,_⟩:=B;subst M;cases G;obtain⟨_,_,vs,_,o,es,ep,U,W,_⟩:=(show cW X.prog X.w H s.heap a (.dK ks) from I.hok a _ p)
  exact CP PySem.W.kitx_dict I.kIn ⟨o,U,W.1⟩ e (λz=>nomatch z) g
 | err _ _=>unfold Rv at B;rw[d] at B;exact B.elim
end
end Hp
namespace L2
open PySem PySem.Spec PyProof.Rows
noncomputable def gA(cells:List (Str×Addr)):List (Str×Cr)->List (Str×Addr)->List (Str×Addr)
 | [],acc=>acc|(n,k)::r,acc=>if k==.free then gA cells r ((n,(cells.lookup n).getD 0)::acc) else gA cells r acc
theorem clos_mem{cells:List (Str×Addr)}:∀{names:List (Str×Cr)} {acc:List (Str×Addr)} {p:Str×Addr},p∈gA cells names acc->p∈acc\/((p.1,Ba)∈names/\p.2=(cells.lookup p.1).getD 0)
 | [],_,_,h=>.inl h|(n,k)::r,acc,p,h=>by unfold gA at h;by_cases g:(k==Ba)=true;rw[if_pos g] at h;rcases clos_mem h with q|q;rcases Al.mp q with q|q;subst q;have:k=.free:=eq_of_beq g;subst this;exact .inr ⟨Ai,rfl⟩;exact .inl q;exact .inr ⟨Af _ q.1,q.2⟩;rw[if_neg g] at h;rcases clos_mem h with q|q;exact .inl q;exact .inr ⟨Af _ q.1,q.2⟩
theorem lE{cells:List (Str×Addr)}:∀{names:List (Str×Cr)} {acc:List (Str×Addr)} {p:Str×Addr},p∈acc->p∈gA cells names acc
 | [],_,_,h=>h|(n,k)::r,acc,p,h=>by unfold gA;by_cases g:(k==Ba)=true;rw[if_pos g];exact lE (Af _ h);rw[if_neg g];exact lE h
theorem hG{cells:List (Str×Addr)}:∀{names:List (Str×Cr)} {acc:List (Str×Addr)} {n:Str},(n,Ba)∈names->(n,(cells.lookup n).getD 0)∈gA cells names acc
 | [],_,_,h=>by simp at h|(m,k)::r,acc,n,h=>by unfold gA;rcases Al.mp h with q|q;cases q;rw[if_pos (by rfl:(Ba==Ba)=true)];exact lE Ai;by_cases g:(k==Ba)=true;rw[if_pos g];exact hG q;rw[if_neg g];exact hG q
theorem dB{α:Type}:∀{l:List (Str×α)} {x:Str} {a:α},(x,a)∈l->∃b,l.lookup x=some b
 | (y,b)::r,x,a,h=>by
  rw[Gh];cases g:x==y with
  | true=>exact⟨b,rfl⟩|false=>rcases Al.mp h with q|q;cases q;simp at g;exact dB q
theorem bK{cells:List (Str×Addr)}{names:List (Str×Cr)}(B:∀n,(n,Ba)∈names->∃c,cells.lookup n=some c){x:Str}{c:Addr}(h:(gA cells names []).lookup x=some c):cells.lookup x=some c:=by
 rcases clos_mem (BH h) with q|⟨G,g⟩
 simp at q;obtain⟨I,e⟩:=B x G;simp only at g;rw[e] at g;rw[e,g];rfl
theorem eU{scope:DB}{env:JY}(L:∀n,(n,Ba)∈scope.names->∃c,env.cells.lookup n=some c):closureFor scope env=pure (gA env.cells scope.names []):=by
 have go:∀(l:List (Str×Cr)) (acc:List (Str×Addr)),(∀n,(n,Ba)∈l->∃c,env.cells.lookup n=some c) ->
  (forIn l acc (λ(x:Str×Cr) (r:List (Str×Addr))=>(match x with|(name,kind)=>if (kind==Ba)=true then do let __do_lift<-cellOf env name;pure (CQ ((name,__do_lift)::r)) else pure (CQ r):KH (ForInStep (List (Str×Addr))))))=(pure (gA env.cells l acc):KH (List (Str×Addr))):=by
  intro l
  induction l with
  | nil=>intro acc _;rfl|cons p r G=>
   intro acc g;obtain⟨n,k⟩:=p;rw[GJ];unfold gA;by_cases B:(k==Ba)=true;have:k=.free:=eq_of_beq B;subst this;obtain⟨c,e⟩:=g n Ai;have I:cellOf env n=pure c:=by unfold cellOf;rw[e]
   simp only[beq_self_eq_true,if_true,I];rw[e];exact G _ λm q=>g m (Af _ q);simp only[B,if_false];exact G _ λm q=>g m (Af _ q)
 unfold closureFor;exact(bind_pure _).trans (go scope.names [] L)
section
variable {prog:A0} {w:AR} {A:AJ} {R:GU->Ac->Prop} {s:Ac}
theorem fE{elt g U:A6}{q3:List A6}{scope:DB}{pos:Eg}{it acc:Ad}{env:JY}(I:Nat->Ac->Prop)
 (q7:∀n s,I n s->Am (A4 prog w) A (FT it) (λr q=>match r with
  | none=>R (.ok .next) q|some v=>Am (A4 prog w) A (ET g it v) (λ_ B=>Am (A4 prog w) A (Gn g env v) (λ_ W=>
   Am (A4 prog w) A (forIn q3 true λc r=>if r=true then do let ok<-isTrue c env (Ed c env);pure (CQ ok) else pure (CQ r)) (λok G=>
    if ok=true then Am (A4 prog w) A (Ed elt env) (λx q0=>
     Am (A4 prog w) A (call (.builtin "list.append") [acc,x]) (λ_ q1=>∃m,m<n/\I m q1) (λ_ _=>False) q0) (λ_ _=>False) G
    else ∃m,m<n/\I m G) (λ_ _=>False) W) (λ_ _=>False) B) (λ_ _=>False) q) (λ_ _=>False) s)
 (n:Nat) (h:I n s) :
 EJ (A4 prog w) A (.compLoop (.ListComp elt [⟨g,U,q3,0⟩] scope pos) 0 it acc env) R s:=by
 refine codeAny_loop rfl I (λn s hI=>?_) n h;show Am _ A ((compTurn (.ListComp elt [⟨g,U,q3,0⟩] scope pos) 0 it acc env).onRaise (λx=>do noteFrame x env;theTreesLotGoes x)) _ _ s;refine wpAny_noted ?_;rw[compTurn_list];refine Aa (Hq (Aa (BO (q7 n s hI) (λr q L=>?_) λ_ _ h'=>h'.elim)));cases r with
 | none=>exact Ab L|some v=>
  refine Aa (BO L (λ_ B q2=>?_) λ_ _ h'=>h'.elim);refine Aa (BO q2 (λ_ W q4=>Aa (BO q4 (λok G M=>?_) λ_ _ h'=>h'.elim)) λ_ _ h'=>h'.elim);cases ok with
  | false=>exact Ab ⟨rfl,M⟩|true=>exact Aa (Aa (BO M (λx q0 q5=>Aa (BO q5 (λ_ q1 q6=>Ab (Ab ⟨rfl,q6⟩)) λ_ _ h'=>h'.elim)) λ_ _ h'=>h'.elim))
end
noncomputable def cI(X:Cx)(scope:DB)(N':List Str)(C:Addr)(s₀:Ac)(H₀:Hp)(ex:List Addr):Cx:=
 { X with env:=KY scope (gA X.env.cells scope.names []) C X.env,N:=N',s₀:=s₀,H₀:=H₀,outer:=X.stack,ex:=ex,fn:=λ_=>false,pn:=[],xe:=λ_ _=>False }
noncomputable def PTs(X:Cx)(ifs:List A6)(t:TT):Prop:=
 ∀(pins:List (Addr×Obj)) (s:Ac) (Z:St) (H:Hp) (Q:Bool->Hp->Prop),Inv X pins Z H s->t Z H Q ->
  Am (A4 X.prog X.w) X.A (forIn ifs true λc r=>if r=true then do let ok<-isTrue c X.env (Ed c X.env);pure (CQ ok) else pure (CQ r)) (TP X pins Z Q) X.xe s
theorem aCC{X:Cx}:PTs X [] (λ_ H Q=>Q true H):=λpins s Z H Q I h=>Ab ⟨H,I,h⟩
theorem aCD{X:Cx}{c:A6}{t:TT}(h:PT X c t):PTs X [c] t:=λpins s Z H Q I g=>wpAny_tests_one (h pins s Z H Q I g)
structure bY (X:Cx) (scope:DB) (k:Nat) (caps:List Nat) (N':List Str):Prop where
 kind:scope.kind=.function
 nocell:∀y∈scope.names,y.2≠.cell
 loc:∀y∈scope.names,y.2=.local->scope.names.lookup y.1=some .local
 free:∀n,(n,Ba)∈scope.names->X.env.kindOf n=some .cell\/X.env.kindOf n=some .free
 len:N'.length=k+caps.length
 cap:∀j i,caps[j]? = some i->∃x,N'[k+j]? = some x/\X.N[i]? = some x/\scope.names.lookup x=some .free/\X.env.kindOf x=some .cell
 ndp:X.N.Nodup
noncomputable def gI(k:Nat)(caps:List Nat)(Z:St):St:=An k none++caps.map λi=>(Z[i]?).getD none
noncomputable def aAA(k:Nat)(caps:List Nat)(wi:TI)(g:TG)(tt:TT)(te:TE):TE:=λZ H Q=>wi Z H λJ H1=>
 ∃W0:Nat->Nat->List V->St->Hp->Prop,(∃m,W0 0 m [] (gI k caps Z) H1)/\∀i m ys Z1 H,W0 i m ys Z1 H ->
  (J.stop i H/\ys.length<=sizeLine/\∀p,H p=none->Q (.ref p) (upd H p (.lst ys))) \/
  (J.go i H/\ys.length<sizeLine/\∀x H',J.yld i H x H'->g x Z1 H' λZ2 H2=>tt Z2 H2 λb H3=>
   if b=true then te Z2 H3 λy H4=>∃m',m'<m/\W0 (i+1) m' (ys++[y]) Z2 H4 else ∃m',m'<m/\W0 (i+1) m' ys Z2 H3)
theorem HOk.track{P:A0}{w:AR}{H:Hp}{h:Heap}{a:Addr}{o:HO}(ok:HOk P w H h)(n:H a=none)(new:cW P w (upd H a o) h a o):HOk P w (upd H a o) h:=λb u e=>by by_cases g:b=a;subst g;rw[bG] at e;cases e;exact new;rw[aJ g] at e;exact(ok b u e).stay (λ_ _ _ q=>q) (λc q=>by rw[aJ (bH q n)];exact q) λc xs q=>by rw[aJ (bH q n)];exact q
abbrev cG(its:List Ad)(n:Nat):Obj:={ cls:=.type "list",data:=.seq its.toArray n }
section
variable {X:Cx} {scope:DB} {k:Nat} {caps:List Nat} {N':List Str} {pins:List (Addr×Obj)} {Z:St} {H:Hp} {s:Ac} {fp:List Addr}
theorem Inv.cellLt(I:Inv X pins Z H s){x:Str}{c:Addr}(e:X.env.cells.lookup x=some c):c<s.heap.objs.size:=by obtain⟨v,q⟩:=I.cell x c e;exact q.lt
theorem dN:∀{l:List (Str×Cr)} {x:Str} {k:Cr},l.lookup x=some k->(x,k)∈l:=λh=>BH h
theorem relabel_lookup{env:JY}:∀{names:List (Str×Cr)} {x:Str} {k:Cr},
 (names.map λ(n,k)=>if (k==Ba&&env.scope.kind==.function&&env.kindOf n==some .cell) then (n,NameKind.cell) else (n,k)).lookup x=some k ->
 (k=.cell/\names.lookup x=some .free/\env.kindOf x=some .cell)\/names.lookup x=some k
 | [],_,_,h=>by simp at h|(n,k')::r,x,k,h=>by
  have B:=@relabel_lookup env r x k;rw[mC] at h;by_cases g:(k'==Ba&&env.scope.kind==.function&&env.kindOf n==some .cell)=true;simp only[g,if_true,Gh] at h ⊢;cases q:x==n with
  | true=>rw[q] at h;simp only at h ⊢;simp only[bA] at g;have G:k'=.free:=eq_of_beq g.1.1;have I:env.kindOf n=some .cell:=eq_of_beq g.2;have L:x=n:=eq_of_beq q;subst L;cases h;exact .inl ⟨rfl,by rw[G],I⟩|false=>rw[q] at h;exact B h
  simp only[Bool.not_eq_true] at g;simp only[g,if_false,Gh,bF] at h ⊢;cases q:x==n with
  | true=>rw[q] at h;exact .inr h|false=>rw[q] at h;exact B h
theorem aJE(G:bY X scope k caps N')(I:Inv X pins Z H s)(f:∀b∈fp,iM X pins H b)(hf:∀b∈fp,b<s.heap.objs.size) :
 (cI X scope N' (s.heap.objs.size+1) { s with heap:=s.heap.push (cG [] 0) } H (s.heap.objs.size::fp)).Ok:=by
 have L:∀n,(n,Ba)∈scope.names->∃c,X.env.cells.lookup n=some c:=λn hn=>I.ok.has n (G.free n hn);have U:∀b o,s.heap.get? b=some o->(s.heap.push (cG [] 0)).get? b=some o:=λb o e=>Ae _ e;have B:∀b∈frs X.stack,∃o,s.heap.get? b=some o:=λb g=>by obtain⟨_,o,ho,_⟩:=I.stack.mem g;exact⟨o,ho⟩
 refine⟨I.ok.mod,?_,I.ok.glob,I.ok.blt,?_,λx y c W h2=>?_,λx hx=>?_,λx c h _=>?_,I.ok.hd,I.ok.frames,.inl rfl,λb g=>?_,λb o e=>?_,?_,λb o e g=>?_,λb g=>?_,?_,I.stkFree⟩;exact G.kind;show(s.heap.push (cG [] 0)).objs.size<=s.heap.objs.size+1;rw[Fz];exact Ak _;exact I.ok.inj x y c (bK L W) (bK L h2);have fr:(x,Ba)∈scope.names:=by rcases hx with q|q;rcases relabel_lookup q with⟨_,z,_⟩|z;exact dN z;exact absurd rfl (G.nocell _ (dN z));rcases relabel_lookup q with⟨z,_⟩|z;cases z;exact dN z
 obtain⟨c,e⟩:=dB (hG (cells:=X.env.cells) (acc:=[]) fr);exact⟨c,e⟩;cases(show false=true from h);refine⟨?_,λx c e=>?_⟩;show b≠s.heap.objs.size+1;rcases Al.mp g with z|z;rw[z];exact A8 (Ck _);exact A8 (B2 (hf b z));have M:=bK L e;rcases Al.mp g with z|z;rw[z];exact A8 (I.cellLt M);exact(f b z).2.2.2.2.1 x c M;exact⟨U b o (I.bs b o e).1,(I.bs b o e).2⟩;show X.base.objs.size<=(s.heap.push (cG [] 0)).objs.size;rw[Fz];exact Iv (A2 I.ok.bsz I.sz);have lt:=Ap e;rcases Al.mp g with z|z;subst z;exact absurd (AF lt (A2 I.ok.bsz I.sz)) (AL _);rcases(f b z).2.2.2.1 with q|q;exact I.ok.noex b o e q;exact absurd (AF lt (A2 I.ok.bsz q)) (AL _);show b∉frs X.stack;intro hs;rcases Al.mp g with z|z;subst z;obtain⟨o,e⟩:=B _ hs;exact absurd (Ap e) (AL _);rcases Al.mp (I.stkSub b hs) with q|q;exact(f b z).2.1 q;exact(f b z).2.2.1 q;exact I.stack.of_keeps λb o e _=>⟨o,U b o e,rfl⟩
theorem aAB(G:bY X scope k caps N'){j:Nat}{v:V}(h:(gI k caps Z)[j]? = some (some v)):∃B i,j=k+B/\caps[B]? = some i/\Z[i]? = some (some v):=by
 unfold gI at h;by_cases g:j<k;rw[AE (by simpa using g),Cv] at h;split at h <;> cases h;rw[AD (by simpa using g),Be,A5] at h;cases e:caps[j-k]? with
 | none=>rw[e] at h;cases h|some i=>
  rw[e] at h;have h':(Z[i]?).getD none=some v:=Av h;refine⟨j-k,i,by omega,e,?_⟩;cases q:Z[i]? with
  | none=>rw[q] at h';cases h'|some z=>rw[q] at h';exact congrArg some h'
theorem aHl(G:bY X scope k caps N')(I:Inv X pins Z H s)(f:∀b∈fp,iM X pins H b)(hf:∀b∈fp,b<s.heap.objs.size){g:Heap}{tk:Nat}
 (q0:g.Ns (s.heap.objs.size+1) λ_=>none) (hk:∀b o,(s.heap.push (cG [] 0)).get? b=some o->g.get? b=some o) :
 Inv (cI X scope N' (s.heap.objs.size+1) { s with heap:=s.heap.push (cG [] 0) } H (s.heap.objs.size::fp)) [] (gI k caps Z) H { s with heap:=g,toks:=tk }:=by
 have W:∀n,(n,Ba)∈scope.names->∃c,X.env.cells.lookup n=some c:=λn hn=>I.ok.has n (G.free n hn);have ge:∀b o,s.heap.get? b=some o->g.get? b=some o:=λb o e=>hk b o (Ae _ e);have B:∀{c:Addr} {v:Option Ad},s.heap.IsCell c v->g.IsCell c v:=λ{c v} ⟨o,e,d⟩=>⟨o,ge _ _ e,d⟩
 refine⟨aJE G I f hf,rfl,I.bare,Un.kept hk,⟨_,q0,λj x v e1 e2 e3=>?_⟩,λx c e=>?_,?_,λx c e=>?_,λp hp=>absurd (show p∈([]:List (Addr×Obj)) from hp) (by simp),I.hok.kept ge,?_⟩;obtain⟨j',i,ej,ec,es⟩:=aAB G e2;obtain⟨y,h1,h2,h3,h4⟩:=G.cap j' i ec;have L:N'[j]? = some x:=e1;rw[ej,h1] at L;have ey:y=x:=Av L;subst ey;obtain⟨m,hn,hl⟩:=I.loc;obtain⟨u,ru,lk⟩:=hl i y v h2 es (.inr (.inl h4));rcases lk with⟨k1,_⟩|⟨_,c,U,hc⟩
 rw[h4] at k1;cases k1;refine⟨u,ru,.inr ⟨?_,c,?_,B hc⟩⟩;have M:Vis (Jy scope X.env) y:=e3;rcases M with z|z|z;rcases relabel_lookup z with⟨z,_⟩|z;cases z;rw[h3] at z;cases z;exact .inl z;exact .inr z;obtain⟨c',e⟩:=dB (hG (cells:=X.env.cells) (acc:=[]) (dN h3));have e':=bK W e;rw[U] at e';cases e';exact e;obtain⟨v,q⟩:=I.cell x c (bK W e);exact⟨v,B q⟩;exact I.hok.fresh (FL _);exact I.freeC x c (bK W e);show(gI k caps Z).length=N'.length;unfold gI;rw[lA,Be,lM,G.len]
theorem sB{tg W elt:A6}{q5:List A6}{pos:Eg}{g:TG}{tt:TT}{te:TE}{it:Addr}{tn:Nat->Heap->Prop}{J:It}{RR:Ad->Addr->GU->Ac->Prop}{E:Ad->Ac->Prop}{Q:VK}
 (CS:bY X scope k caps N') (hc:X.calm=true) (I:Inv X pins Z H s) (T:xT X.prog X.w X.K tg J fp it tn) (st:tn 0 s.heap) (f:∀b∈fp,iM X pins H b)
 (x3:∀C s₀ H₀ ex,PG (cI X scope N' C s₀ H₀ ex) tg g/\PTs (cI X scope N' C s₀ H₀ ex) q5 tt/\PE (cI X scope N' C s₀ H₀ ex) elt te)
 (hw:∃W0:Nat->Nat->List V->St->Hp->Prop,(∃m,W0 0 m [] (gI k caps Z) H)/\∀i m ys Z1 H,W0 i m ys Z1 H ->
  (J.stop i H/\ys.length<=sizeLine/\∀p,H p=none->Q (.ref p) (upd H p (.lst ys))) \/
  (J.go i H/\ys.length<sizeLine/\∀x H',J.yld i H x H'->g x Z1 H' λZ2 H2=>tt Z2 H2 λb H3=>
   if b=true then te Z2 H3 λy H4=>∃m',m'<m/\W0 (i+1) m' (ys++[y]) Z2 H4 else ∃m',m'<m/\W0 (i+1) m' ys Z2 H3))
 (hR:∀D C s' H' m,Inv X pins Z H' s'->s'.heap.Ns C m->s.heap.objs.size<C->(∀(Z':St) (q2:Ac) (h':Heap),Inv X pins Z' H' q2->BA C q2.heap h'->Inv X pins Z' H' { q2 with heap:=h' })->Q (.ref D) H'->RR (.ref D) C (.ok .next) s') :
 Am (A4 X.prog X.w) X.A (L8 []) (λacc z4=>Am (A4 X.prog X.w) X.A (newFunctionEnv scope X.env.globals (gA X.env.cells scope.names []) [] X.env.qual none .none (some X.env)) (λq9 z5=>
  EJ (A4 X.prog X.w) X.A (.compStart (.ListComp elt [⟨tg,W,q5,0⟩] scope pos) 0 (.ref it) acc { q9 with scope:=Jy scope X.env }) (RR acc q9.locals) z5) E z4) E s:=by
 obtain⟨W0,⟨m0,w0⟩,z6⟩:=hw;have hf:∀b∈fp,b<s.heap.objs.size:=λb G=>by obtain⟨o,e,_⟩:=T.obj 0 _ st b G;exact Ap e
 refine Bj (wpAny_newFunctionEnv CS.nocell (by intro y hy;simp at hy) (λL q3 q4=>?_) CS.kind);have hsz:(s.heap.push (cG [] 0)).objs.size=s.heap.objs.size+1:=Fz _ _;have x5:L.Ns (s.heap.objs.size+1) λ_=>none:=by have:=q3;rw[show({ s with heap:=s.heap.push (cG [] 0) }:Ac).heap.objs.size=s.heap.objs.size+1 from hsz] at this;exact this
 have hk:∀b o,(s.heap.push (cG [] 0)).get? b=some o->L.get? b=some o:=λb o e=>q4.extBut b o (A8 (by have:=Ap e;rw[hsz] at this;show b<(s.heap.push (cG [] 0)).objs.size;rw[hsz];exact this)) (Ae _ e);have I0:=aHl (N':=N') CS I f hf (tk:=s.toks+([]:List (Str×Ad)).length) x5 hk;have v2:∀{b:Addr},b<s.heap.objs.size->b≠s.heap.objs.size+1:=λ{b} G=>A8 (B2 G);have z0:H s.heap.objs.size=none:=I.fresh;have hh:∀n,(n,Ba)∈scope.names->∃c,X.env.cells.lookup n=some c:=λn hn=>I.ok.has n (CS.free n hn);have x0:L.get? s.heap.objs.size=some (cG [] 0):=hk _ _ (A7 _ rfl);have z3:∀b∈frs X.stack,b<s.heap.objs.size:=λb G=>by obtain⟨_,o,ho,_⟩:=I.stack.mem G;exact Ap ho
 have w1:∀(pl:List (Addr×Obj)),(∀p∈pl,p.1=s.heap.objs.size)->∀{H':Hp},(∀b∈fp,H' b=none)->∀b∈fp,iM (cI X scope N' (s.heap.objs.size+1) { s with heap:=s.heap.push (cG [] 0) } H (s.heap.objs.size::fp)) pl H' b:=by
  intro pl x7 H' hn b G;refine⟨hn b G,v2 (hf b G),λz=>?_,.inl (Af _ G),λx c e=>(f b G).2.2.2.2.1 x c (bK hh e),λp U z=>?_⟩;rcases Al.mp (I.stkSub b z) with q|q;exact(f b G).2.1 q;exact(f b G).2.2.1 q;have x6:p∈pl:=by simpa[cI] using U
  rw[x7 p x6] at z;exact absurd (hf b G) (by rw[<-z];exact AL _)
 have q0:∀{Z':St} {H':Hp} {s':Ac} {B:List Ad} {n:Nat} {pl:List (Addr×Obj)},Inv (cI X scope N' (s.heap.objs.size+1) { s with heap:=s.heap.push (cG [] 0) } H (s.heap.objs.size::fp)) pl Z' H' s' ->
  s'.heap.get? s.heap.objs.size=some (cG B n)->H' s.heap.objs.size=none->Inv (cI X scope N' (s.heap.objs.size+1) { s with heap:=s.heap.push (cG [] 0) } H (s.heap.objs.size::fp)) [(s.heap.objs.size,cG B n)] Z' H' s':=by
  intro Z' H' s' B n pl J e nn;refine J.pins_of λp U=>?_;have:p=(s.heap.objs.size,cG B n):=by simpa using U
  subst this;refine⟨e,nn,A8 (Ck _),λz=>absurd (z3 _ z) (AL _),λv z=>by cases z⟩
 have start:EJ (A4 X.prog X.w) X.A (.compLoop (.ListComp elt [⟨tg,W,q5,0⟩] scope pos) 0 (.ref it) (.ref s.heap.objs.size) (KY scope (gA X.env.cells scope.names []) (s.heap.objs.size+1) X.env))
  (RR (.ref s.heap.objs.size) (s.heap.objs.size+1)) { s with heap:=L,toks:=s.toks+([]:List (Str×Ad)).length }:=by
  refine fE (λn s'=>∃i ys B cnt Z1 H',Inv (cI X scope N' (s.heap.objs.size+1) { s with heap:=s.heap.push (cG [] 0) } H (s.heap.objs.size::fp)) [(s.heap.objs.size,cG B cnt)] Z1 H' s' /\
   tn i s'.heap/\(∀b∈fp,H' b=none)/\aH ys B/\W0 i n ys Z1 H') ?_ m0 ⟨0,[],[],0,_,H,q0 I0 x0 z0,T.keep _ _ _ st λb _ o e=>hk b o (Ae _ e),λb G=>(f b G).1,.nil,w0⟩
  rintro n s3 ⟨i,ys,B,cnt,Z1,H3,I3,z2,w9,q1,w3⟩;obtain⟨v3,v4,_⟩:=I3.pin (s.heap.objs.size,cG B cnt) (by simp[cI]);have w4:∀p∈[(s.heap.objs.size,cG B cnt)],p.1=s.heap.objs.size:=λp U=>by
   have:p=(s.heap.objs.size,cG B cnt):=by simpa using U
   rw[this]
  rcases z6 i n ys Z1 H3 w3 with⟨stop,hz,qn⟩|⟨go,hz,step⟩
  refine thn (T.done (cI X scope N' (s.heap.objs.size+1) { s with heap:=s.heap.push (cG [] 0) } H (s.heap.objs.size::fp)) rfl rfl rfl hc i _ s3 _ H3 _ I3 (w1 _ w4 w9) z2 stop) λr s4 ⟨hr,I4⟩=>?_;subst hr;obtain⟨x1,z1,_⟩:=I4.pin (s.heap.objs.size,cG B cnt) (by simp[cI]);have u4:=I4.base;have nb:∀{b:Addr} {o:Obj},s.heap.get? b=some o->b∉fp->b∉s.heap.objs.size::fp:=λ{b o} e G z=>by rcases Al.mp z with z|z;exact absurd (Ap e) (by rw[z];exact AL _);exact G z
  have v1:∀{b:Addr} {o:Obj},s.heap.get? b=some o->b≠s.heap.objs.size:=λ{b o} e=>A8 (Ap e);have w6:∀{b:Addr} {o:HO},H b=some o->b≠s.heap.objs.size:=λ{b o} e=>bH e z0;have u:Un (frs X.stack) fp H (upd H3 s.heap.objs.size (.lst ys)) s.heap s4.heap:={
   keep:=λb o e nn G hx=>u4.keep b o (Ae _ e) nn G (nb e hx)
   slot:=λb o e nn G hx=>u4.slot b o (Ae _ e) nn G (nb e hx)
   free:=λb o e nn hx=>by rw[aJ (v1 e)];exact u4.free b o (Ae _ e) nn (nb e hx)
   there:=λb o e hx=>u4.there b o (Ae _ e) (nb e hx)
   tups:=λb xs e=>by rw[aJ (w6 e)];exact u4.tups b xs e
   frzs:=λb o u e=>by rw[aJ (w6 e)];exact u4.frzs b o u e
   tbls:=λb ps e=>by rw[aJ (w6 e)];exact u4.tbls b ps e }
  have hl:=q1.length;have hok:HOk X.prog X.w (upd H3 s.heap.objs.size (.lst ys)) s4.heap:=HOk.track I4.hok z1 ⟨hz,B,cnt,q1,x1⟩;have I5:Inv X pins Z (upd H3 s.heap.objs.size (.lst ys)) s4:=I.call' I4.os u hok I4.bare λb G=>⟨(f b G).2.2.2.1,(f b G).2.1,(f b G).2.2.2.2.1,(f b G).2.2.2.2.2⟩
  obtain⟨m4,x4,_⟩:=I4.loc;refine hR s.heap.objs.size (s.heap.objs.size+1) s4 _ m4 I5 x4 (Ck _) (λZ' q2 h' I6 x8=>?_) (qn _ z1);have:=I6.turned (t':=q2.toks) (h':=h') (it:=s.heap.objs.size+1) (λb o G e=>x8.extBut b o G e) (by rw[aJ (DS (Ck _))];exact I4.free)
   (DS (B2 I.lt)) (.inr (Iv I.sz)) (λx c e=>A8 (B2 (I.cellLt e))) λp U z=>?_
  exact this;have:=Ap (I.pin p U).1;rw[z] at this;exact absurd this (G3.mpr (FL _));refine thn (T.item (cI X scope N' (s.heap.objs.size+1) { s with heap:=s.heap.push (cG [] 0) } H (s.heap.objs.size::fp)) rfl rfl rfl hc i _ s3 _ H3 _ I3 (w1 _ w4 w9) z2 go) λr s4 ⟨u,hr,h4⟩=>?_;subst hr;refine thn h4 λ_ s5 ⟨x,H5,I5,r5,y5,w5,z9⟩=>?_;obtain⟨hg,ht,he⟩:=x3 (s.heap.objs.size+1) { s with heap:=s.heap.push (cG [] 0) } H (s.heap.objs.size::fp);have z8:=I5.pinned (w1 _ w4 z9) (T.obj _ _ w5);have keep:∀{Z7:St} {H7:Hp} {s7:Ac},Inv (cI X scope N' (s.heap.objs.size+1) { s with heap:=s.heap.push (cG [] 0) } H (s.heap.objs.size::fp)) ([(s.heap.objs.size,cG B cnt)]++kK fp s5.heap) Z7 H7 s7 ->
   tn (i+1) s7.heap/\(∀b∈fp,H7 b=none)/\s7.heap.get? s.heap.objs.size=some (cG B cnt)/\H7 s.heap.objs.size=none:=by intro Z7 H7 s7 I7;obtain⟨x2,v0,_⟩:=I7.pin (s.heap.objs.size,cG B cnt) (by simp[cI]);refine⟨T.keep _ _ _ w5 λb G o e=>(I7.pin (b,o) (As _ (As _ (eF G e)))).1,λb G=>?_,x2,v0⟩;obtain⟨o,e,d⟩:=T.obj _ _ w5 b G;exact(I7.pin (b,o) (As _ (As _ (eF G e)))).2.1
  refine thn (hg _ s5 _ H5 x u _ z8 r5 (step x H5 y5)) λ_ s6 ⟨Z6,H6,I6,q6⟩=>?_;refine thn (ht _ s6 Z6 H6 _ I6 q6) λb s7 ⟨H7,I7,q7⟩=>?_;cases b with
  | false=>rw[if_neg bN] at q7 ⊢;obtain⟨m',hm,w7⟩:=q7;obtain⟨t7,f7,d7,n7⟩:=keep I7;exact⟨m',hm,i+1,ys,B,cnt,Z6,H7,q0 I7 d7 n7,t7,f7,q1,w7⟩|true=>
   rw[if_pos rfl] at q7 ⊢;refine thn (he _ s7 Z6 H7 _ I7 q7) λyv s8 ⟨y,H8,I8,r8,q8⟩=>?_;obtain⟨m',hm,w8⟩:=q8;obtain⟨t8,f8,d8,n8⟩:=keep I8;have hl:=q1.length;have x9:B.toArray.size<=sizeLine:=by rw[Aj];omega
   refine DF HF ⟨_,d8,rfl⟩ Hl (GX _ _) (Ii s.heap.objs.size B.toArray cnt yv x9) ⟨d8,?_⟩;have q:=IL d8 (λa=>a.push yv);have e':B.toArray.push yv=(B++[yv]).toArray:=by simp
   rw[e'] at q;have I9:=(I8.unpinned (pins:=[(s.heap.objs.size,cG B cnt)])).pins_of (pins':=[]) (λp U=>absurd U (by simp));have z7:=I9.turned (t':=s8.toks) (it:=s.heap.objs.size) (h':=s8.heap.update s.heap.objs.size (Cb λa=>a.push yv)) (λb o G e=>(Eu s8.heap _ (DR G)).trans e) n8
    (A8 (Ck _)) (.inl Ai) (λx c e=>A8 (I.cellLt (bK hh e))) (λp U=>absurd (show p∈([]:List (Addr×Obj)) from by simpa[cI] using U) (by simp))
   refine⟨m',hm,i+1,ys++[y],B++[yv],_,Z6,H8,q0 z7 q n8,?_,f8,q1.append (.cons r8 .nil),w8⟩;refine T.keep _ _ _ t8 λb G o e=>(Eu s8.heap _ ?_).trans e;intro z;exact absurd (hf b G) (by rw[<-z];exact AL _)
 have M:∀C,C=s.heap.objs.size+1->EJ (A4 X.prog X.w) X.A (.compLoop (.ListComp elt [⟨tg,W,q5,0⟩] scope pos) 0 (.ref it) (.ref s.heap.objs.size) (KY scope (gA X.env.cells scope.names []) C X.env))
  (RR (.ref s.heap.objs.size) C) { s with heap:=L,toks:=s.toks+([]:List (Str×Ad)).length }:=by rintro C rfl;exact start
 exact codeAny_compStart_list (M _ hsz) (T.self X.A 0 _ _ _ (T.keep _ _ _ st λb _ o e=>hk b o (Ae _ e)) (M _ hsz))
end
section
variable {X:Cx} {scope:DB} {k:Nat} {caps:List Nat} {N':List Str} {tg iter elt:A6} {ifs:List A6} {pos:Eg} {wi:TI} {g:TG} {tt:TT} {te:TE}
theorem wB(G:bY X scope k caps N')(hc:X.calm=true)(hi:PI X tg iter wi)
 (L:∀C s₀ H₀ ex,PG (cI X scope N' C s₀ H₀ ex) tg g/\PTs (cI X scope N' C s₀ H₀ ex) ifs tt/\PE (cI X scope N' C s₀ H₀ ex) elt te) (hs:∀x,Cu iter X.env x=pure x) :
 PE X (.ListComp elt [⟨tg,iter,ifs,0⟩] scope pos) (aAA k caps wi g tt te):=by intro pins s Z H Q I h;rw[eval_ListComp];refine FX (use:=none) rfl hs (eU λn M=>I.ok.has n (G.free n M)) G.kind G.loc (thn (hi pins s Z H _ I h) λxv s1 h1=>thn h1 λq0 s2 h2=>?_);obtain⟨it,fp,tn,J,H2,e,I2,T,W,f2,hw⟩:=h2;subst e;exact sB (RR:=λacc C=>compPost (A4 X.prog X.w) X.A X.xe none (EP X pins Z Q) acc C) (Q:=Q) G hc I2 T W f2 L hw λD C s' H' m J M _ B q=>⟨m,M,λh' U=>⟨.ref D,H',B Z s' h' J U,rfl,q⟩⟩
theorem uO{i:Nat}{x:Str}{B G:Eg}(L:bY X scope k caps N')(hc:X.calm=true)(hi:PI X tg iter wi)
 (U:∀C s₀ H₀ ex,PG (cI X scope N' C s₀ H₀ ex) tg g/\PTs (cI X scope N' C s₀ H₀ ex) ifs tt/\PE (cI X scope N' C s₀ H₀ ex) elt te) (hs:∀x,Cu iter X.env x=pure x)
 (hN:X.N.Nodup) (W:X.N[i]? = some x) (hx:Loc X.env.scope x) (hf:X.fn x=true\/X.env.scope.names.lookup x=some .local) :
 PS X (.Assign [.Name x B] (.ListComp elt [⟨tg,iter,ifs,0⟩] scope pos) G) (aBY (aAA k caps wi g tt te) (nI i)):=by
 have hb:∃b,Kn (.ListComp elt [⟨tg,iter,ifs,0⟩] scope pos) (some (.Name x B)) G.line X.env=pure b:=⟨_,rfl⟩
 obtain⟨b,hb⟩:=hb;cases b with
 | false=>exact oX hN W hx (wB L hc hi U hs) hb hf|true=>intro pins s Z H D I h;rw[exec_Assign_Name_used x B _ G hb];refine Aa (Hq (Aa ?_));show Am _ _ (comprehension (.ListComp elt [⟨tg,iter,ifs,0⟩] scope pos) scope X.env (firstIterPos [⟨tg,iter,ifs,0⟩] pos) (L8 []) (firstAsync [⟨tg,iter,ifs,0⟩]) (firstIter [⟨tg,iter,ifs,0⟩] X.env) (some (Gn (.Name x B) X.env)) >>= λ_=>pure ()) _ _ s;refine Aa (FX (use:=some (Gn (.Name x B) X.env)) rfl hs (eU λn hn=>I.ok.has n (L.free n hn)) L.kind L.loc (thn (hi pins s Z H _ I h) λxv s1 h1=>thn h1 λq4 s2 h2=>?_));obtain⟨it,fp,tn,J,H2,e,I2,T,q3,f2,hw⟩:=h2;subst e;refine sB (Q:=λv H'=>D.nx (Z.set i (some v)) H') (RR:=λacc C=>compPost (A4 X.prog X.w) X.A X.xe (some (Gn (.Name x B) X.env)) (λ_ s'=>Am (A4 X.prog X.w) X.A (pure ()) (λ_ s'=>Am (A4 X.prog X.w) X.A (pure Flow.next) (SP X pins D) X.xe s') X.xe s') acc C) L hc I2 T q3 f2 U hw λD' C s' H' m J hn lt M q=>?_;show Am _ _ (Gn (.Name x B) X.env (.ref D')) _ _ s';refine Ib (nH (v:=V.ref D') J hN W hx rfl (λq2 J' q1=>?_) hf);obtain⟨a,sb,ha⟩:=q1;refine⟨m,hn.sameBut sb ?_,λh' q0=>?_⟩;rcases ha with z|z;rw[z];exact DS (Ex I2.lt lt);exact DS (Ex (I2.cellLt z) lt);exact Ab (Ab ⟨_,H',M _ q2 h' J' q0,q⟩)
end
end L2
namespace Hp
open PySem PySem.Spec PyProof.Rows L2
noncomputable def Rr(K:Fg)(H H':Hp)(Y:Addr->Prop)(r:Rt)(u:V):Prop:=
 if r.2.1=true then ∃a xs ds,u=.ref a/\r.1=.lst ds/\H a=none/\H' a=some (.lst xs)/\Reps K H' (λb=>b=a\/Y b\/(r.2.2=false/\H b≠none)) ds xs
 else Rep K H' (λb=>Y b\/(r.2.2=false/\H b≠none)) r.1 u
noncomputable def spF(K:Fg)(P:Pg)(n:Nat)(f:Nat):Sp:=λvs H Q _=>∃(ds:List D) (Y:Addr->Prop),(∀a,Y a->H a≠none)/\Reps K H Y ds vs/\RE (call P n f ds) λr=>∀u H',Tk K H'->aG H H'->Rr K H H' Y r u->Q u H'
noncomputable def bltNames:List Str:=["len", "list", "tuple", "min", "max", "abs", "int", "str", "sum", "all", "any", "sorted", "bool", "range", "zip", "enumerate", "reversed", "set", "isinstance", "dict", "repr"]
structure Md (X:Cx) (P:Pg) (Γ:Ct) (n:Nat):Prop where
 fn:∀(f:Nat) (x:Str),Γ.fns[f]? = some x->∃fa fd ps,X.mg x=some (.ref fa)/\DD X.K (.ref fa)=true/\gC X.K fd ps []/\jM X.prog X.w X.K X.mg X.base CX0 n fa fd ps (spF X.K P n f)
 blt:∀x∈bltNames,X.mg x=none
 cns:∀(x:Str) (d:D),Γ.cns.lookup x=some d->∃u v,X.mg x=some u/\aQ v u/\∀H ex,Rep X.K H ex d v
 tab:∀(i:Nat) (x:Str),Γ.tbs[i]? = some x->∃a t,X.mg x=some (.ref a)/\P.tabs[i]? = some t/\aAu X.prog X.w X.K a t
structure Mc (X:Cx) (P:Pg) (Γ:Ct) (n:Nat):Prop where
 md:Md X P Γ n
 N:X.N=Γ.N
 nd:X.N.Nodup
 sc:X.env.scope.names=Γ.sc
 calm:X.calm=true
 room:gF n X.A
 xe:X.xe=λ_ _=>False
 st:∀x:Str,rU Γ x=true->X.fn x=true\/X.env.scope.names.lookup x=some .local
 fk:X.env.scope.kind=.function
section
variable {X:Cx} {P:Pg} {Γ:Ct} {n:Nat}
theorem Mc.units(M:Mc X P Γ n):X.A.units+200<Co:=by have:=M.room.un;omega
theorem Mc.vis(M:Mc X P Γ n){x:Str}(h:aAn Γ x=true):Vis X.env.scope x:=by
 unfold aAn at h;unfold Vis;rw[M.sc];cases q:Γ.sc.lookup x with
 | none=>rw[q] at h;cases h|some k=>rw[q] at h;cases k <;> first|exact .inl rfl|exact .inr (.inl rfl)|exact .inr (.inr rfl)|cases h
theorem Mc.loc(M:Mc X P Γ n){x:Str}(h:rU Γ x=true):L2.Loc X.env.scope x:=by
 unfold rU at h;unfold L2.Loc;rw[M.sc];cases q:Γ.sc.lookup x with
 | none=>rw[q] at h;cases h|some k=>rw[q] at h;cases k <;> first|exact .inl rfl|exact .inr rfl|cases h
theorem Mc.gl(M:Mc X P Γ n){x:Str}(h:bX Γ x=true):Gl X x:=by
 unfold bX at h;unfold Gl;show X.env.scope.names.lookup x=_;rw[M.sc];cases q:Γ.sc.lookup x with
 | none=>rw[q] at h;cases h|some k=>rw[q] at h;cases k <;> first|rfl|cases h
theorem aP{x:Str}(h:bU x=true):(x==("__debug__" : Str))=false:=by unfold bU at h;simp only[bA,Cd] at h;exact h.1
theorem dD{x:Str}(h:bU x=true):(x==("__classdict__" : Str))=false:=by unfold bU at h;simp only[bA,Cd] at h;exact h.2
theorem aET:∀{d d':D},eqK d d'=true->d=d':=by intro d d' h;cases d <;> cases d' <;> simp[eqK] at h <;> first|rfl|(subst h;rfl)
noncomputable def aS:A6->Bool
 | .Starred _ _=>false|.Slice _ _ _ _=>false|.Set _ _ _=>false|_=>true
theorem aAC{α:Type}{o:Option α}{f:α->Bool}(h:oB o f=true):∃a,o=some a/\f a=true:=by
 cases o with
 | none=>cases h|some a=>exact⟨a,rfl,h⟩
theorem aB{α:Type}{q:α->Prop}{o:Option { a:α // q a }}{f:α->Bool}(h:oS o f=true):∃a,q a/\f a=true:=by
 cases o with
 | none=>cases h|some a=>exact⟨a.1,a.2,h⟩
theorem aN{c:E}{e:A6}(h:aL Γ c e=true):aS e=true:=by
 cases c with
 | c d=>rcases(B8 _ _).mp (show(oS (asC e) (eqC d)||oS (asN e) λx=>bX Γ x&&bU x&&oB (Γ.cns.lookup x) (eqK d))=true from h) with h|h;obtain⟨_,⟨_,_,rfl⟩,_⟩:=aB h;rfl;obtain⟨_,⟨_,rfl⟩,_⟩:=aB h;rfl
 | v i=>obtain⟨_,⟨_,rfl⟩,_⟩:=aB h;rfl|op o a b=>obtain⟨_,⟨_,rfl⟩,_⟩:=aB h;rfl|neg _=>cases h|nt a=>obtain⟨_,⟨_,rfl⟩,_⟩:=aB h;rfl|an a b=>obtain⟨_,rfl,_⟩:=aB h;rfl|orr a b=>obtain⟨_,rfl,_⟩:=aB h;rfl|ife t a b=>obtain⟨_,⟨_,rfl⟩,_⟩:=aB h;rfl|cmp o a b=>obtain⟨_,⟨_,rfl⟩,_⟩:=aB h;rfl|dnin a j=>obtain⟨_,⟨_,rfl⟩,_⟩:=aB h;rfl|dget _ _=>cases h|dlen _=>cases h|din _ _=>cases h|dgd _ _ _=>cases h|srtD j=>obtain⟨_,⟨_,_,rfl⟩,_⟩:=aB h;rfl|sst a=>obtain⟨_,⟨_,_,rfl⟩,_⟩:=aB h;rfl|sop o a b=>obtain⟨_,⟨_,_,rfl⟩,_⟩:=aB h;rfl|cmp2 _ _ _ _ _=>cases h|idx a b=>obtain⟨_,⟨_,rfl⟩,_⟩:=aB h;rfl|sli a lo hi=>obtain⟨_,⟨_,rfl⟩,_⟩:=aB h;rfl|tup es=>obtain⟨_,⟨_,_,rfl⟩,_⟩:=aB h;rfl|lst es=>obtain⟨_,⟨_,rfl⟩,_⟩:=aB h;rfl|call f es=>obtain⟨_,⟨_,_,rfl⟩,_⟩:=aB h;rfl|bi b es=>obtain⟨_,⟨_,_,rfl⟩,_⟩:=aB h;rfl|mth _ _ _=>cases h|isi a cs=>obtain⟨_,⟨_,_,rfl⟩,_⟩:=aB h;rfl|comp k caps t it cond elt=>obtain⟨_,⟨_,rfl⟩,_⟩:=aB h;rfl|numset _=>cases h|tget _ _=>cases h|lzip _ _=>cases h|dic ks vs=>cases h|attr _ _=>cases h
theorem aC{e:A6}{es:List A6}{env:JY}(h:aS e=true):Bd (e::es) env=(false,Ed e env)::Bd es env:=by cases e <;> first|rfl|cases h
theorem fF:∀{cs:Es} {es:List A6},chkEs Γ cs es=true->es.all aS=true
 | .nil,[],_=>rfl|.nil,_::_,h=>by cases h|.cons _ _,[],h=>by cases h|.cons c cs,e::es,h=>by simp only[chkEs,bA] at h;rw[FV,aN h.1,fF h.2];rfl
theorem eK{pos:Eg}{env:JY}:∀{es:List A6},es.all aS=true->(DZ pos (Bd es env)).any (·.1)=false
 | [],_=>rfl|e::es,h=>by rw[FV,bA] at h;rw[aC h.1];show(false||(DZ pos (Bd es env)).any (·.1))=false;rw[eK h.2];rfl
theorem uP{e:A6}(h:aS e=true):vQ e:=by intro o i;cases e <;> first|rfl|cases h
theorem iR{e:A6}{env:JY}(h:aS e=true):∀x,Cu e env x=pure x:=by intro x;cases e <;> first|rfl|cases h
theorem hU{op:CmpOp}{e:A6}(h:aS e=true):Hr op e=false:=by cases e <;> first|rfl|cases h
variable {RT Y old:Addr->Prop} {Z:Sg} {pos:Eg}
abbrev WE(X:Cx)(P:Pg)(n:Nat)(RT Y old:Addr->Prop)(Z:Sg)(c:E):TE:=wE X P (call P n) RT Y old Z c
abbrev WT(X:Cx)(P:Pg)(n:Nat)(RT Y old:Addr->Prop)(Z:Sg)(c:E):TT:=wT X P (call P n) RT Y old Z c
abbrev WA(X:Cx)(P:Pg)(n:Nat)(RT Y old:Addr->Prop)(Z:Sg)(c:Es):TA:=wA X P (call P n) RT Y old Z c
theorem RE.bind'{α g:Type}{x:R α}{f:α->R g}{p:g->Prop}(h:RE (x >>= f) p):RE x λa=>RE (f a) p:=by rwa [RE.bind] at h
theorem wE.one{a:E}{ZV:L2.St}{H:Hp}{p:Vl->Prop}{Q:V->Hp->Prop}(S:Sx X.K RT Y old Z ZV H)(h:RE (ev P (call P n) Z a) p)
 (f:∀x u H',p x->Tk X.K H'->Sx X.K RT Y old Z ZV H'->Ro X.K RT Y old Z ZV H H' x u->Q u H'):WE X P n RT Y old Z a ZV H Q:=
 ⟨S,h.mono λx g u H' t r=>f x u H' g t (S.grow r.1 t) r⟩
theorem aJF{o:Operator}{a b:E}{ea eb:A6}(ha:PE X ea (WE X P n RT Y old Z a))(hb:PE X eb (WE X P n RT Y old Z b)):PE X (.BinOp ea o eb pos) (WE X P n RT Y old Z (.op o a b)):=by
 intro pins s ZV H Q I hw;obtain⟨S,h⟩:=hw;have h:=RE.bind' (show RE (ev P (call P n) Z a >>= λx=>ev P (call P n) Z b >>= λy=>opD o x y) _ from h);refine KZ (thn (ha pins s ZV H (λux H1=>WE X P n RT Y old Z b ZV H1 λuy g=>∃x y,Sx X.K RT Y old Z ZV g/\aG H g/\Rv X.K RT Y old Z ZV g x ux/\Rv X.K RT Y old Z ZV g y uy/\(x.fr=true->∃a xs,ux=.ref a/\g a=some (.lst xs))/\RE (opD o x y) (Wn X RT Y old Z ZV H Q)) I
  (wE.one S h λx u H1 L t1 W U=>wE.one W (RE.bind' L) λy u' g M t2 B q=>⟨x,y,B,U.1.trans q.1,(U.rv S).grow q.1,q.rv W,λG=>?_,M⟩)) λv s1 ⟨x',H1,I1,rx,q1⟩=>thn (hb pins s1 ZV H1 _ I1 q1) λu s2 ⟨y',g,I2,ry,q2⟩=>?_)
 have:=U.2;rw[if_pos G] at this;obtain⟨a',xs,ds,e1,_,_,e4,_⟩:=this;exact⟨a',xs,e1,q.1 _ _ e4⟩;obtain⟨x,y,B,sm,L,M,G,h⟩:=q2;exact aAw I2 B rx ry L M G (h.mono λv hv u H' t r=>hv u H' t (r.from sm))
theorem aAD{H:Hp}{ZV:L2.St}{x:Vl}{u:V}{k:Bool}(g:Rv X.K RT Y old Z ZV H x u)(h:aAf x.d=some k):aCc X.K u H k:=by
 unfold aAf at h;split at h;rename_i d;rw[g.non d];exact(Av h).symm;rename_i b d;rw[g.bl d];exact(Av h).symm;rename_i i d;rw[g.int d];exact(Av h).symm;rename_i z d;by_cases B:z.length<=lim;rw[if_pos B] at h;rw[g.str d];refine⟨dA B,?_⟩;rw[<-Av h];cases G:z.length with
 | zero=>rfl|succ m=>simp;omega
 rw[if_neg B] at h;cases h;rename_i ds d;obtain⟨a,xs,e,q,r⟩:=g.tup d;rw[e];refine .inr (.inl ⟨xs,q,?_⟩);rw[<-Av h];have:=r.length;cases ds <;> cases xs <;> first|rfl|(simp at this)
 rename_i ds d;obtain⟨a,xs,e,q,_,r⟩:=g.lst d;rw[e];refine .inl ⟨xs,q,?_⟩;rw[<-Av h];have:=r.length;cases ds <;> cases xs <;> first|rfl|(simp at this)
 cases h
theorem RE.tru{x:Vl}{p:Bool->Prop}(h:RE (dO x) p):∃k,aAf x.d=some k/\p k:=by
 unfold dO at h;cases q:aAf x.d with
 | none=>rw[q] at h;exact h.elim|some k=>rw[q] at h;exact⟨k,rfl,h⟩
theorem aHm{a:E}{B:A6}(ha:PE X B (WE X P n RT Y old Z a)):PE X (.UnaryOp .Not B pos) (WE X P n RT Y old Z (.nt a)):=by intro pins s ZV H Q I hw;obtain⟨S,h⟩:=hw;have h:=RE.bind' (show RE (ev P (call P n) Z a >>= λx=>dO x >>= λk=>R.ok (Vl.cl (.bl (!k)))) _ from h);refine UnaryOp_ (thn (ha pins s ZV H (λu H1=>∃k,aCc X.K u H1 k/\Q (.bl (!k)) H1) I (wE.one S h λx u H1 hx t1 S1 G=>?_)) λv s1 ⟨u,H1,M,ru,k,g,q⟩=>?_);obtain⟨k,g,hp⟩:=RE.tru (RE.bind' hx);exact⟨k,aAD (G.rv S) g,(show Wn X RT Y old Z ZV H Q (Vl.cl (.bl (!k))) from hp) _ _ t1 (Ro.cl G.1 rfl)⟩;refine not_of (thn (zO pins s1 ZV H1 u v (λk' H'=>k'=k/\H'=H1) M ru ⟨k,g,rfl,rfl⟩) λb s2 ⟨L,U,W,e2⟩=>?_);subst W e2;exact⟨.bl (!b),L,U,rfl,q⟩
theorem nQ{c:E}{e:A6}(B:PE X e (WE X P n RT Y old Z c))(I:∀g,isTrue e X.env g=(do let v<-g;L4 e.pos;FJ [v] (truthy v)))
 (G:∀p,RE (tst P (call P n) Z c) p->RE (ev P (call P n) Z c) λx=>RE (dO x) p):PT X e (WT X P n RT Y old Z c):=by refine(zP B I).imp λZV H Q t ⟨S,h⟩=>?_;refine wE.one S (G _ h) λx u H1 U t1 W q=>?_;obtain⟨k,L,M⟩:=RE.tru U;exact⟨k,aAD (q.rv S) L,λt'=>M _ t' q.1⟩
theorem aHn{a b:E}{G I:A6}{r:List A6}(M:PE X G (WE X P n RT Y old Z a))(U:PE X (.BoolOp .And (I::r) pos) (WE X P n RT Y old Z b)):PE X (.BoolOp .And (G::I::r) pos) (WE X P n RT Y old Z (.an a b)):=by refine(aEh M U).imp λZV H Q t ⟨S,h⟩=>?_;have h:=RE.bind' (show RE (ev P (call P n) Z a >>= λx=>(match x.d with|.bl true=>ev P (call P n) Z b|.bl false=>R.ok (Vl.cl (.bl false))|_=>.bad)) _ from h);refine wE.one S h λx u H1 g t1 L q=>?_;split at g;rename_i B;refine⟨true,(q.rv S).bl B,?_⟩;rw[if_pos rfl];exact⟨L,g.mono λv W u H' t r=>λ_=>W u H' t (r.from q.1)⟩;rename_i B;refine⟨false,(q.rv S).bl B,?_⟩;rw[if_neg bN];exact λt'=>g _ _ t' (Ro.cl q.1 rfl);exact g.elim
theorem aDN{a b:E}{G I:A6}{r:List A6}(M:PE X G (WE X P n RT Y old Z a))(U:PE X (.BoolOp .Or (I::r) pos) (WE X P n RT Y old Z b)):PE X (.BoolOp .Or (G::I::r) pos) (WE X P n RT Y old Z (.orr a b)):=by refine(aGx M U).imp λZV H Q t ⟨S,h⟩=>?_;have h:=RE.bind' (show RE (ev P (call P n) Z a >>= λx=>(match x.d with|.bl true=>R.ok (Vl.cl (.bl true))|.bl false=>ev P (call P n) Z b|_=>.bad)) _ from h);refine wE.one S h λx u H1 g t1 L q=>?_;split at g;rename_i B;refine⟨true,(q.rv S).bl B,?_⟩;rw[if_pos rfl];exact λt'=>g _ _ t' (Ro.cl q.1 rfl);rename_i B;refine⟨false,(q.rv S).bl B,?_⟩;rw[if_neg bN];exact⟨L,g.mono λv W u H' t r=>λ_=>W u H' t (r.from q.1)⟩;exact g.elim
theorem aHo{t a b:E}{I B G:A6}(W:PT X I (WT X P n RT Y old Z t))(M:PE X B (WE X P n RT Y old Z a))(U:PE X G (WE X P n RT Y old Z b)):PE X (.IfExp I B G pos) (WE X P n RT Y old Z (.ife t a b)):=by
 refine(zI W M U).imp λZV H Q t0 ⟨S,h⟩=>?_;have h:=RE.bind' (show RE (tst P (call P n) Z t >>= λx=>if x=true then ev P (call P n) Z a else ev P (call P n) Z b) _ from h);refine⟨S,h.mono λk g H1 L s1=>?_⟩;cases k with
 | true=>rw[if_pos rfl] at g ⊢;exact⟨S.grow s1 L,g.mono λv q u H' t r=>λ_=>q u H' t (r.from s1)⟩|false=>rw[if_neg bN] at g ⊢;exact⟨S.grow s1 L,g.mono λv q u H' t r=>λ_=>q u H' t (r.from s1)⟩
noncomputable def w2(X:Cx)(P:Pg)(n:Nat)(RT Y old:Addr->Prop)(Z:Sg)(ZV:L2.St)(H:Hp)(p:Vl->Vl->Prop)(ux uy:V)(H2:Hp):Prop:=
 ∃x y,Sx X.K RT Y old Z ZV H2/\aG H H2/\Rv X.K RT Y old Z ZV H2 x ux/\Rv X.K RT Y old Z ZV H2 y uy/\p x y
theorem wC(M:Mc X P Γ n)(o:CmpOp):OpR X (BU o) (λg B H Q=>∃(Z:Sg) (ZV:L2.St) (x y:Vl) (k:Bool),Rv X.K RT Y old Z ZV H x g/\Rv X.K RT Y old Z ZV H y B/\cF o x.d y.d=some k/\Q (.bl k) H):=by intro pins s ZV H g B v u Q I rx ry h;obtain⟨Z',G,x,y,k,U,W,L,q⟩:=h;exact yH I M.units rx ry U W L q
theorem aHp(M:Mc X P Γ n){o:CmpOp}{a b:E}{G q:A6}(I:PE X G (WE X P n RT Y old Z a))(L:PE X q (WE X P n RT Y old Z b))(g:aS q=true):PE X (.Compare G [o] [q] pos) (WE X P n RT Y old Z (.cmp o a b)):=by refine(vN (wC (RT:=RT) (Y:=Y) (old:=old) M o) I L (hU g)).imp λZV H Q t ⟨S,h⟩=>?_;have h:=RE.bind' (show RE (ev P (call P n) Z a >>= λx=>ev P (call P n) Z b >>= λy=>(match cF o x.d y.d with|some k=>R.ok (Vl.cl (.bl k))|none=>.bad)) _ from h);refine wE.two S (h.mono λx B=>RE.bind' B) λx y ux uy H2 g t2 s2 S2 B W=>?_;split at g;rename_i k U;exact⟨Z,ZV,x,y,k,B,W,U,λt'=>g _ _ t' (Ro.cl s2 rfl)⟩;exact g.elim
theorem aHq(M:Mc X P Γ n){o:CmpOp}{a b:E}{G q:A6}(I:PE X G (WE X P n RT Y old Z a))(L:PE X q (WE X P n RT Y old Z b))(g:aS q=true):PT X (.Compare G [o] [q] pos) (WT X P n RT Y old Z (.cmp o a b)):=by refine(vO (wC (RT:=RT) (Y:=Y) (old:=old) M o) I L (hU g)).imp λZV H Q t ⟨S,h⟩=>?_;have h:=RE.bind' (show RE (ev P (call P n) Z a >>= λx=>ev P (call P n) Z b >>= λy=>(match cF o x.d y.d with|some k=>R.ok k|none=>.bad)) _ from h);refine wE.two S (h.mono λx B=>RE.bind' B) λx y ux uy H2 g t2 s2 S2 B W=>?_;split at g;rename_i k U;exact⟨Z,ZV,x,y,k,B,W,U,k,rfl,λt'=>g _ t' s2⟩;exact g.elim
theorem lF{K:Fg}{H:Hp}{ex:Addr->Prop}:∀{ds:List D} {ns:List Int} {xs:List V},bD ds=some ns->Reps K H ex ds xs->xs=ns.map V.int
 | [],ns,xs,h,r=>by cases h;exact r|d::ds,ns,xs,h,r=>by
  obtain⟨x,I,e,g,B⟩:=r;subst e;cases d with
  | int i=>unfold bD at h;split at h;rename_i G q;cases h;rw[show x=.int i from g,lF q B];rfl;cases h|_=>cases h
theorem lG{K:Fg}{H:Hp}{ex:Addr->Prop}:∀{ds:List D} {k:NK} {xs:List V},kX ds=some k->Reps K H ex ds xs->∃bs:List Addr,xs=bs.map V.ref/\Dc (λis c=>SqT K H c (is.map V.int)) k bs
 | [],k,xs,h,r=>by cases h;exact⟨[],r,.nil⟩|d::ds,k,xs,h,r=>by
  obtain⟨x,U,e,I,L⟩:=r;subst e;cases d with
  | tup as=>unfold kX at h;split at h;rename_i a q B G;cases h;obtain⟨bs,rfl,p⟩:=lG G L;obtain⟨c,ys,rfl,g,M⟩:=I;rw[lF B M] at g;exact⟨c::bs,rfl,.cons g p⟩;cases h|_=>cases h
theorem uQ{K:Fg}{H:Hp}{ex:Addr->Prop}{d:D}{k:NK}{u:V}(h:eX d=some k)(r:Rep K H ex d u):∃b,u=.ref b/\aY K H k b:=by
 cases d with
 | tup ds=>obtain⟨b,xs,rfl,q,r⟩:=r;obtain⟨bs,rfl,p⟩:=lG (show kX ds=some k from h) r;exact⟨b,rfl,bs,q,p⟩|_=>cases h
theorem wD{xs:List NE}{ks:List (NK×D)}(h:xs.map pj=ks.map kV):xs.map (·.1)=ks.map (·.1):=by have:=congrArg (List.map (·.1)) h;rw[AM,AM] at this;exact this
theorem wF{a:E}{j:Nat}{ZV:L2.St}{H:Hp}{α:Type}{mk:Bool->α}{p:α->Prop}{Q:V->Hp->Prop}(S:Sx X.K RT Y old Z ZV H)(h:RE (ev P (call P n) Z a >>= λx=>(match Z[j]?,eX x.d with|some (.dct ks),some k=>R.ok (mk (!decide (k∈ks.map (·.1))))|_,_=>.bad)) p)
 (f:∀b H',Tk X.K H'->aG H H'->p (mk b)->Q (.bl b) H'):tOp (λux uy H Q=>∃a b xs k,ux=.ref b/\uy=.ref a/\H a=some (cB a xs)/\(∀x∈xs,aY X.K H x.1 x.2.1)/\aY X.K H k b/\Q (.bl (!decide (k∈xs.map (·.1)))) H) (WE X P n RT Y old Z a) (aBR j) ZV H Q:=by refine wE.one S (RE.bind' h) λx u H1 g t1 B q=>?_;split at g;rename_i ks k G I;obtain⟨b,rfl,hk⟩:=uQ I (q.rv S);obtain⟨ad,xs,L,M,g3,g4,U,W⟩:=B.dx.at' j ks G;refine⟨.ref ad,L,ad,b,xs,k,rfl,rfl,M,W,hk,?_⟩;rw[wD U];exact f _ H1 t1 q.1 g;exact g.elim
theorem aEU(M:Mc X P Γ n){a:E}{j:Nat}{q:A6}{x:Str}{p:Eg}(g:bE Γ j x=true)(L:PE X q (WE X P n RT Y old Z a)):PE X (.Compare q [.NotIn] [.Name x p] pos) (WE X P n RT Y old Z (.dnin a j)):=by unfold bE at g;simp only[bA] at g;obtain⟨⟨G,I⟩,B⟩:=g;exact(vN (aDC (by have:=M.units;omega)) L (iL (by rw[M.N];exact eq_of_beq G) (M.vis I) (aP B) (dD B)) (hU rfl)).imp λZV H Q t ⟨S,h⟩=>wF (mk:=λb=>Vl.cl (.bl b)) S h λb H' t s w=>λt'=>w _ _ t' (Ro.cl s rfl)
theorem aEV(M:Mc X P Γ n){a:E}{j:Nat}{q:A6}{x:Str}{p:Eg}(g:bE Γ j x=true)(L:PE X q (WE X P n RT Y old Z a)):PT X (.Compare q [.NotIn] [.Name x p] pos) (WT X P n RT Y old Z (.dnin a j)):=by unfold bE at g;simp only[bA] at g;obtain⟨⟨G,I⟩,B⟩:=g;exact(vO (aDC (by have:=M.units;omega)) L (iL (by rw[M.N];exact eq_of_beq G) (M.vis I) (aP B) (dD B)) (hU rfl)).imp λZV H Q t ⟨S,h⟩=>wF (mk:=λb=>b) S h λb H' t s w=>⟨b,rfl,λt'=>w _ t' s⟩
theorem aHr{a b:E}{G g:A6}(I:PE X G (WE X P n RT Y old Z a))(L:PE X g (WE X P n RT Y old Z b))(q:aS g=true):PE X (.Subscript G g pos) (WE X P n RT Y old Z (.idx a b)):=by refine(aGT aEC I L (uP q)).imp λZV H Q t ⟨S,h⟩=>?_;have h:=RE.bind' (show RE (ev P (call P n) Z a >>= λx=>ev P (call P n) Z b >>= λy=>cS x y) _ from h);refine wE.two S (h.mono λx B=>RE.bind' B) λx y ux uy H2 q W s2 S2 B U=>?_;exact yI W B U (q.mono λv M u H' t r=>M u H' t (r.from s2))
theorem aAE:PA X [] (WA X P n RT Y old Z .nil):=kM.imp λZV H Q t ⟨S,h⟩ t'=>h [] H t' (aG.refl H) rfl
theorem pN{c:E}{cs:Es}{e:A6}{es:List A6}(G:PE X e (WE X P n RT Y old Z c))(L:PA X es (WA X P n RT Y old Z cs))(I:aS e=true):PA X (e::es) (WA X P n RT Y old Z (.cons c cs)):=by
 refine(gO G L (aC I)).imp λZV H Q t ⟨S,h⟩=>?_;have h:=RE.bind' (show RE (ev P (call P n) Z c >>= λx=>evs P (call P n) Z cs >>= λxs=>R.ok (x::xs)) _ from h);refine wE.one S h λx u H1 U t1 B g=>⟨B,(RE.bind' U).mono λvs M us q t2 s2 W t'=>?_⟩
 exact M (u::us) q t' (g.1.trans s2) ⟨u,us,rfl,(g.rv S).grow s2,W⟩
theorem pO:∀{cs:Es} {es:List A6} {vs:List Vl},chkEs Γ cs es=true->evs P (call P n) Z cs=.ok vs->vs.length=es.length
 | .nil,[],vs,_,h=>by cases(show R.ok []=R.ok vs from h);rfl|.nil,_::_,_,h,_=>by cases h|.cons _ _,[],_,h,_=>by cases h|.cons c cs,e::es,vs,B,h=>by
  simp only[chkEs,bA] at B;have h:(ev P (call P n) Z c >>= λx=>evs P (call P n) Z cs >>= λxs=>R.ok (x::xs))=R.ok vs:=h;cases g:ev P (call P n) Z c with
  | ok x=>
   cases q:evs P (call P n) Z cs with
   | ok xs=>rw[g] at h;have h:(evs P (call P n) Z cs >>= λxs=>R.ok (x::xs))=R.ok vs:=h;rw[q] at h;cases(show R.ok (x::xs)=R.ok vs from h);rw[lC,lC,pO B.2 q]|exc z=>rw[g] at h;have h:(evs P (call P n) Z cs >>= λxs=>R.ok (x::xs))=R.ok vs:=h;rw[q] at h;cases h|bad=>rw[g] at h;have h:(evs P (call P n) Z cs >>= λxs=>R.ok (x::xs))=R.ok vs:=h;rw[q] at h;cases h
  | exc z=>rw[g] at h;cases h|bad=>rw[g] at h;cases h
theorem RE.eq{α:Type}{x:R α}{p:α->Prop}(h:RE x p):∃a,x=.ok a/\p a:=by
 cases x with
 | ok a=>exact⟨a,rfl,h⟩|exc e=>exact h.elim|bad=>exact h.elim
theorem aHs{cs:Es}{es:List A6}{k:Nat}(q:PA X es (WA X P n RT Y old Z cs))(B:chkEs Γ cs es=true)(M:es.length<=1000):PE X (.Tuple es k pos) (WE X P n RT Y old Z (.tup cs)):=by
 refine(aEv q).imp λZV H Q t ⟨S,h⟩=>?_;have h:=RE.bind' (show RE (evs P (call P n) Z cs >>= λvs=>R.ok (kW vs)) _ from h);obtain⟨vs,e,L⟩:=h.eq;refine⟨S,?_⟩;show RE (evs P (call P n) Z cs) _;rw[e];intro us H1 U s1 g;have G:us.length<=sizeLine:=by rw[<-g.length,pO B e,BV];omega
 exact⟨G,λp I t'=>(show Wn X RT Y old Z ZV H Q (kW vs) from L) _ _ t' ((Ro.tup I rfl rfl g.all).from s1)⟩
theorem aHt{cs:Es}{es:List A6}(q:PA X es (WA X P n RT Y old Z cs))(B:chkEs Γ cs es=true)(U:es.length<=1000):PE X (.List es pos) (WE X P n RT Y old Z (.lst cs)):=by
 refine(aEw q).imp λZV H Q t ⟨S,h⟩=>?_;have h:=RE.bind' (show RE (evs P (call P n) Z cs >>= λvs=>R.ok (cK vs)) _ from h);obtain⟨vs,e,L⟩:=h.eq;refine⟨S,?_⟩;show RE (evs P (call P n) Z cs) _;rw[e];intro us H1 M s1 g;have G:us.length<=sizeLine:=by rw[<-g.length,pO B e,BV];omega
 exact⟨G,λp I t'=>(show Wn X RT Y old Z ZV H Q (cK vs) from L) _ _ t' ((Ro.fresh I t' rfl rfl (S.grow s1 M) g.all).from s1)⟩
theorem aCE:∀b:Bi,aAo b=true->C9 (gG b)=some (aDM b):=by intro b g;cases b <;> first|kernel_rfl|cases g
theorem lH:∀b:Bi,gG b∈bltNames:=by intro b;cases b <;> decide +kernel
theorem nR:∀b:Bi,gG b ≠ "__name__" := by intro b;cases b <;> decide +kernel
theorem aJG(M:Mc X P Γ n){b:Bi}{cs:Es}{x:Str}{p:Eg}{e:A6}{es:List A6}(q:aAo b=true)(hx:gG b=x)(L:bX Γ x=true)(U:bU x=true)(I:PA X (e::es) (WA X P n RT Y old Z cs))(W:(e::es).all aS=true) :
 PE X (.Call (.Name x p) (e::es) [] pos) (WE X P n RT Y old Z (.bi b cs)):=by
 subst hx;have g:aS e=true/\es.all aS=true:=by simpa using W
 have body:∀(f:PE X (.Call (.Name (gG b) p) (e::es) [] pos) (tCB (rBi X b) (WA X P n RT Y old Z cs))),PE X (.Call (.Name (gG b) p) (e::es) [] pos) (WE X P n RT Y old Z (.bi b cs)):=λf=>f.imp λZV H Q t ⟨S,h⟩=>by have h:=RE.bind' (show RE (evs P (call P n) Z cs >>= λvs=>biD b vs) _ from h);refine⟨S,h.mono λvs B us H1 t1 s1 r1=>?_⟩;exact aAz q (S.grow s1 t1) r1 (B.mono λv B u H' t r=>B u H' t (r.from s1))
 refine body ?_;have r:=aCB M.calm M.room.gd M.units b q;have G:=aCE b q;cases b with
 | len=>exact zT r (M.gl L) (M.md.blt _ (lH _)) G I (nR _) (aP U) (aC g.1) (eK g.2)|list=>exact yA r (M.gl L) (M.md.blt _ (lH _)) G I (nR _) (aP U) (aC g.1) (eK g.2)|_=>cases q
theorem aCF{ZV:L2.St}{H H1 H':Hp}{vs:List Vl}{r:Rt}{u:V}(B:Sx X.K RT Y old Z ZV H1)(s1:aG H H1)(W:aG H1 H')(h:Rr X.K H1 H' (λb=>H1 b≠none/\exV RT Y old Z ZV (dM vs) (bM vs) b) r u) :
 Ro X.K RT Y old Z ZV H H' (dX vs r) u:=by
 obtain⟨d,fr,pa⟩:=r;have key:∀b,exV RT Y old Z ZV (dX vs (d,fr,pa)).pa (dX vs (d,fr,pa)).al b->(H1 b≠none/\exV RT Y old Z ZV (dM vs) (bM vs) b)\/(pa=false/\H1 b≠none):=by
  intro b z;have tk:=exV.trk B z;cases pa with
  | true=>exact .inl ⟨tk,z⟩|false=>exact .inr ⟨rfl,tk⟩
 have g:(dX vs (d,fr,pa)).fr=fr:=by unfold dX;split <;> rfl
 have q:(dX vs (d,fr,pa)).d=d:=by unfold dX;split <;> rfl
 refine⟨s1.trans W,?_⟩;rw[g];unfold Rr at h;cases fr with
 | true=>rw[if_pos rfl] at h ⊢;obtain⟨a,xs,ds,G,I,L,M,U⟩:=h;exact⟨a,xs,ds,G,by rw[q];exact I,s1.free L,M,U.weak λb z=>z.elim (λz=>.inl z) λz=>.inr (key b z)⟩|false=>rw[if_neg bN] at h ⊢;unfold Rv;rw[q];exact Rep.weak h key
theorem aAF{f:Nat}{cs:Es}{ZV:L2.St}{H:Hp}{Q:VK}(S:Sx X.K RT Y old Z ZV H)(h:RE (ev P (call P n) Z (.call f cs)) (Wn X RT Y old Z ZV H Q)) :
 WA X P n RT Y old Z cs ZV H λus H1=>spF X.K P n f (us++[]) H1 (λv H'=>Tk X.K H'->Q v H') E0:=by have h:=RE.bind' (show RE (evs P (call P n) Z cs >>= λvs=>call P n f (vs.map (·.d)) >>= λr=>R.ok (dX vs r)) _ from h);refine⟨S,h.mono λvs B us H1 M s1 G=>?_⟩;have g:=S.grow s1 M;refine⟨vs.map (·.d),λb=>H1 b≠none/\exV RT Y old Z ZV (dM vs) (bM vs) b,λa z=>z.1,by rw[Bg];exact G.all.weak λa z=>z.2,(RE.bind' B).mono λr q u H' t' L I _=>?_⟩;exact(show Wn X RT Y old Z ZV H Q (dX vs r) from q) u H' t' (aCF g s1 L I)
theorem aEW(M:Mc X P Γ n){f:Nat}{cs:Es}{x:Str}{p:Eg}{es:List A6}(hf:Γ.fns[f]? = some x)(L:bX Γ x=true)(U:bU x=true)(W:PA X es (WA X P n RT Y old Z cs))(hp:es.all aS=true)(hc:chkEs Γ cs es=true) :
 PE X (.Call (.Name x p) es [] pos) (WE X P n RT Y old Z (.call f cs)):=by
 obtain⟨fa,fd,ps,q,B,G,I⟩:=M.md.fn f x hf;cases es with
 | cons e es=>
  have g:aS e=true/\es.all aS=true:=by simpa using hp
  exact(aCe I M.room (M.gl L) q B G .nil aDB W (aP U) (aC g.1) (eK g.2)).imp λZV H Q t ⟨S,h⟩=>aAF S h
 | nil=>
  cases cs with
  | cons _ _=>cases hc|nil=>refine(zS I M.room (M.gl L) q B G .nil aDB (aP U)).imp λZV H Q t ⟨S,h⟩=>?_;exact(aAF S h).2 [] H t (aG.refl H) rfl
theorem yM{c:Cl}{g:Ad}{x:Str}(q:sA c=some g)(B:uK Γ c=some x):C9 x=some g/\x∈bltNames/\x ≠ "__name__" := by cases c <;> cases q <;> cases B <;> exact⟨by kernel_rfl,by decide +kernel,by decide +kernel⟩
theorem aHu(M:Mc X P Γ n){a:E}{c:Cl}{cv:Ad}{f x:Str}{pf W:Eg}{B:A6}(hf:f=("isinstance" : Str))(hg:bX Γ f=true)(hc:sA c=some cv)(hx:uK Γ c=some x)(G:bX Γ x=true)(U:bU x=true)
 (ha:PE X B (WE X P n RT Y old Z a)) (hp:aS B=true):PE X (.Call (.Name f pf) [B,.Name x W] [] pos) (WE X P n RT Y old Z (.isi a [c])):=by subst hf;intro pins s ZV H Q I hw;obtain⟨S,h⟩:=hw;have h:=RE.bind' (show RE (ev P (call P n) Z a >>= λx=>(match isI [c] P x.d with|some k=>R.ok (Vl.cl (.bl k))|none=>.bad)) _ from h);obtain⟨b1,b2,b3⟩:=yM hc hx;refine Bs (dG I (M.gl hg) (M.md.blt _ (by decide +kernel)) (show C9 "isinstance" = some (.builtin "isinstance") by kernel_rfl) ?_ (by decide +kernel) (by decide +kernel));refine BB ?_ (aC hp) rfl;rw[aC hp];show Am _ _ (FI ((false,Ed B X.env)::DZ pos (Bd [.Name x W] X.env))) _ _ s;refine CD (thn (ha pins s ZV H (λu H1=>∃y k,Rv X.K RT Y old Z ZV H1 y u/\isI [c] P y.d=some k/\Q (.bl k) H1) I (wE.one S h λy u H1 g t1 S1 r1=>?_)) λv s1 ⟨u,H1,I1,ru,y,k,g,L,q⟩=>?_);split at g;rename_i k L;exact⟨y,k,r1.rv S,L,(show Wn X RT Y old Z ZV H Q (Vl.cl (.bl k)) from g) _ _ t1 (Ro.cl r1.1 rfl)⟩;exact g.elim;show Am _ _ (FI ((false,Ed (.Name x W) X.env)::DZ pos (Bd [] X.env))) _ _ s1;refine CD (dG I1 (M.gl G) (M.md.blt _ b2) b1 (Ep ?_) b3 (aP U));exact yL P I1 ru g hc L q
end
section
variable {X:Cx} {P:Pg} {Γ:Ct} {n:Nat} {RT Y old:Addr->Prop} {Z:Sg} {pos:Eg}
theorem aJH{a:E}{g:A6}(q:PT X g (WT X P n RT Y old Z a)):PT X (.UnaryOp .Not g pos) (WT X P n RT Y old Z (.nt a)):=by refine(aEg q).imp λZV H Q t ⟨S,h⟩=>?_;have h:=RE.bind' (show RE (tst P (call P n) Z a >>= λx=>R.ok (!x)) _ from h);exact⟨S,h.mono λk B H1 G s1 t'=>(show ∀H',Tk X.K H'->aG H H'->Q (!k) H' from B) _ t' s1⟩
theorem aAG{e:A6}{t t':TT}(h:PW X e t)(f:∀ZV H Q,Tk X.K H->t' ZV H Q->t ZV H λv H'=>Tk X.K H'->Q v H'):PW X e t':=λG pins s ZV H Q I B=>thn (h G pins s ZV H _ I (f ZV H Q I.tk B)) λk L ⟨H',g,q⟩=>⟨H',g,q g.tk⟩
theorem aHv{a b:E}{q B:A6}{r:List A6}(G:PT X q (WT X P n RT Y old Z a))(I:PW X (.BoolOp .And (B::r) pos) (WT X P n RT Y old Z b)):PW X (.BoolOp .And (q::B::r) pos) (WT X P n RT Y old Z (.an a b)):=by
 refine aAG (aEf G I) λZV H Q t ⟨S,h⟩=>?_;have h:=RE.bind' (show RE (tst P (call P n) Z a >>= λx=>if x=true then tst P (call P n) Z b else R.ok false) _ from h);refine⟨S,h.mono λk g H1 U s1=>?_⟩;cases k with
 | true=>rw[if_pos rfl] at g ⊢;exact⟨S.grow s1 U,g.mono λv L H' t M _=>L H' t (s1.trans M)⟩|false=>rw[if_neg bN] at g ⊢;exact λt'=>(show ∀H',Tk X.K H'->aG H H'->Q false H' from g) _ t' s1
theorem aDO{a b:E}{q B:A6}{r:List A6}(G:PT X q (WT X P n RT Y old Z a))(I:PW X (.BoolOp .Or (B::r) pos) (WT X P n RT Y old Z b)):PW X (.BoolOp .Or (q::B::r) pos) (WT X P n RT Y old Z (.orr a b)):=by
 refine aAG (aGv G I) λZV H Q t ⟨S,h⟩=>?_;have h:=RE.bind' (show RE (tst P (call P n) Z a >>= λx=>if x=true then R.ok true else tst P (call P n) Z b) _ from h);refine⟨S,h.mono λk g H1 U s1=>?_⟩;cases k with
 | true=>rw[if_pos rfl] at g ⊢;exact λt'=>(show ∀H',Tk X.K H'->aG H H'->Q true H' from g) _ t' s1|false=>rw[if_neg bN] at g ⊢;exact⟨S.grow s1 U,g.mono λv L H' t M _=>L H' t (s1.trans M)⟩
noncomputable def wO(X:Cx)(P:Pg)(n:Nat)(RT Y old:Addr->Prop)(Z:Sg)(cs:Es):TO:=λZV H Q=>Sx X.K RT Y old Z ZV H/\RE (evs P (call P n) Z cs) λvs=>(vs=[]/\∀H',Tk X.K H'->aG H H'->Q none H')\/∃v i,vs=[v]/\v.d=.int i/\∀H',Tk X.K H'->aG H H'->Q (some i) H'
theorem aAH{e:Option A6}{t t':TO}(h:PO X e t)(f:∀ZV H Q,Tk X.K H->t' ZV H Q->t ZV H λv H'=>Tk X.K H'->Q v H'):PO X e t':=λpins s ZV H Q I B=>thn (h pins s ZV H _ I (f ZV H Q I.tk B)) λu G ⟨o,H',g,r,q⟩=>⟨o,H',g,r,q g.tk⟩
theorem aHw:PO X none (wO X P n RT Y old Z .nil):=aAH aCg λZV H Q t ⟨S,h⟩ t'=>by
 rcases(show([]:List Vl)=[]/\_\/_ from h) with⟨_,q⟩|⟨v,i,e,_⟩
 exact q H t' (aG.refl H);cases e
theorem aHx{c:E}{e:A6}(B:PE X e (WE X P n RT Y old Z c)):PO X (some e) (wO X P n RT Y old Z (.cons c .nil)):=by
 refine aAH (aCh B) λZV H Q t ⟨S,h⟩=>?_;have h:=RE.bind' (show RE (ev P (call P n) Z c >>= λx=>evs P (call P n) Z .nil >>= λxs=>R.ok (x::xs)) _ from h);refine wE.one S h λx u H1 G L I g=>?_;rcases(show([x]:List Vl)=[]/\_\/∃v i,([x]:List Vl)=[v]/\_/\_ from G) with⟨e,_⟩|⟨v,i,e,hd,q⟩
 cases e;cases e;exact⟨i,(g.rv S).int hd,λt'=>q _ t' g.1⟩
theorem aHy{a:E}{lo hi:Es}{ea:A6}{el eh:Option A6}{p2:Eg}(ha:PE X ea (WE X P n RT Y old Z a))(B:PO X el (wO X P n RT Y old Z lo))(g:PO X eh (wO X P n RT Y old Z hi)) :
 PE X (.Subscript ea (.Slice el eh none p2) pos) (WE X P n RT Y old Z (.sli a lo hi)):=by
 refine(zW (aES (X:=X)) ha B g).imp λZV H Q t ⟨S,h⟩=>?_;have h:=RE.bind' (show RE (ev P (call P n) Z a >>= λx=>evs P (call P n) Z lo >>= λl=>evs P (call P n) Z hi >>= λh=>(match l,h with
  | [],[]=>dH x none none|[l],[]=>(match l.d with|.int l=>R.iff (aF l) (dH x (some l) none)|_=>.bad)
  | [],[h]=>(match h.d with|.int h=>R.iff (aF h) (dH x none (some h))|_=>.bad)
  | [l],[h]=>(match l.d,h.d with|.int l,.int h=>R.iff (aF l&&aF h) (dH x (some l) (some h))|_,_=>.bad)
  | _,_=>.bad)) _ from h)
 refine wE.one S h λx u H1 hx t1 S1 r1=>?_;have hx:=RE.bind' hx;refine⟨S1,hx.mono λl B=>?_⟩;have B:=RE.bind' B;have up:∀(L:Option Int) (G:Hp),Tk X.K G->aG H1 G->(RE (evs P (call P n) Z hi) λh=>(h=[]/\RE (dH x L none) (Wn X RT Y old Z ZV H Q))\/∃v i,h=[v]/\v.d=.int i/\RE (dH x L (some i)) (Wn X RT Y old Z ZV H Q)) ->
  wO X P n RT Y old Z hi ZV G λI q=>zY X.K u L I q (λv H'=>Tk X.K H'->Q v H')\/zX X.K u L I q (λv H'=>Tk X.K H'->Q v H')\/rZ X.K u L I q (λv H'=>Tk X.K H'->Q v H')\/aAr u L I q (λv H'=>Tk X.K H'->Q v H'):=by
  intro L G t2 s2 g;refine⟨S1.grow s2 t2,g.mono λI hq=>?_⟩;have q0:∀(U:Option Int) (q:Hp),Tk X.K q->aG G q->RE (dH x L U) (Wn X RT Y old Z ZV H Q) ->
   zY X.K u L U q (λv H'=>Tk X.K H'->Q v H')\/zX X.K u L U q (λv H'=>Tk X.K H'->Q v H')\/rZ X.K u L U q (λv H'=>Tk X.K H'->Q v H')\/aAr u L U q (λv H'=>Tk X.K H'->Q v H'):=λU q W M hs=>
   yK (S1.grow (s2.trans M) W) W ((r1.rv S).grow (s2.trans M)) (hs.mono λv I u H' t r=>I u H' t (r.from (r1.1.trans (s2.trans M))))
  rcases hq with⟨e,hs⟩|⟨v,i,e,hd,hs⟩
  exact .inl ⟨e,λq W M=>q0 none q W M hs⟩;exact .inr ⟨v,i,e,hd,λq W M=>q0 (some i) q W M hs⟩
 match l,B with
 | [],B=>
  refine .inl ⟨rfl,λG t2 s2=>up none G t2 s2 (B.mono λh g=>?_)⟩
  match h,g with
  | [],g=>exact .inl ⟨rfl,g⟩|[h],g=>have g:RE (match h.d with|.int h=>R.iff (aF h) (dH x none (some h))|_=>.bad) _:=g;split at g;rename_i i hd;exact .inr ⟨h,i,rfl,hd,g.iff.2⟩;exact g.elim|_::_::_,g=>exact g.elim
 | [l],B=>
  have hd:∃i,l.d=.int i:=by
   obtain⟨h,_,g⟩:=B.eq
   match h,g with
   | [],g=>have g:RE (match l.d with|.int l=>R.iff (aF l) (dH x (some l) none)|_=>.bad) _:=g;split at g;rename_i i hd;exact⟨i,hd⟩;exact g.elim|[h],g=>have g:RE (match l.d,h.d with|.int l,.int h=>R.iff (aF l&&aF h) (dH x (some l) (some h))|_,_=>.bad) _:=g;split at g;rename_i i j hd _;exact⟨i,hd⟩;exact g.elim|_::_::_,g=>exact g.elim
  obtain⟨i,hd⟩:=hd;refine .inr ⟨l,i,rfl,hd,λG t2 s2=>up (some i) G t2 s2 (B.mono λh g=>?_)⟩
  match h,g with
  | [],g=>have g:RE (match l.d with|.int l=>R.iff (aF l) (dH x (some l) none)|_=>.bad) _:=g;rw[hd] at g;exact .inl ⟨rfl,g.iff.2⟩|[h],g=>have g:RE (match l.d,h.d with|.int l,.int h=>R.iff (aF l&&aF h) (dH x (some l) (some h))|_,_=>.bad) _:=g;rw[hd] at g;split at g;rename_i i' j e1 e2;cases e1;exact .inr ⟨h,j,rfl,e2,g.iff.2⟩;exact g.elim|_::_::_,g=>exact g.elim
 | _::_::_,B=>exact(by
     obtain⟨h,_,g⟩:=B.eq
     match h,g with
     | [],g=>exact g.elim|[_],g=>exact g.elim|_::_::_,g=>exact g.elim)
end
end Hp
namespace L2
open PySem PySem.Spec PyProof.Rows
set_option maxRecDepth 100000
instance:LawfulBEq Key where
 eq_of_beq:=λ{a b} h=>by
  cases a with
  | inl x=>cases b with|inl y=>exact congrArg FF (eq_of_beq (show(x==y)=true from h))|inr y=>cases h
  | inr x=>cases b with|inl y=>cases h|inr y=>exact congrArg Fi (eq_of_beq (show(x==y)=true from h))
 rfl:=λ{a}=>by
  cases a with
  | inl x=>exact(beq_self_eq_true x:(x==x)=true)|inr x=>exact(beq_self_eq_true x:(x==x)=true)
noncomputable def aEX(prog:A0)(w:AR)(vs:List Ad)(ks:List Key):Prop:=Dc (λv k=>(eE prog w).is k v=true) vs ks
theorem aEX.get{prog:A0}{w:AR}:∀{vs:List Ad} {ks:List Key},aEX prog w vs ks->∀{i:Nat} {v:Ad},vs[i]? = some v->∃k,ks[i]? = some k/\(eE prog w).is k v=true
 | _,_,.nil,_,_,h=>by simp at h|_,_,.cons r _,0,_,h=>by simp at h;subst h;exact⟨_,rfl,r⟩|_,_,.cons _ t,i+1,v,h=>by obtain⟨k,g,q⟩:=aEX.get t (i:=i) (v:=v) (by simpa using h);exact⟨k,by simpa using g,q⟩
end L2
namespace L2
open PySem PySem.Spec PyProof.Rows
section
variable {X:Cx} {pins:List (Addr×Obj)} {Z:St} {H:Hp} {s:Ac} {h':Heap}
theorem Inv.turns{g:List Addr}{t':Nat}(I:Inv X pins Z H s)(f:∀b∈g,iM X pins H b)(k:∀b o,b∉g->s.heap.get? b=some o->h'.get? b=some o):Inv X pins Z H { s with heap:=h',toks:=t' }:=by
 have G:∀b u,H b=some u->b∉g:=λb u e z=>by rw[(f b z).1] at e;cases e
 refine I.step (g':=s.gens) (d':=s.drawn) (ch:=g) (λb L=>?_) (λb o _ _ B e _=>k b o B e) (λb o _ _ B e _=>⟨o.slots,k b o B e⟩) (λb o _ e n=>n)
  (λb o B e=>⟨o,k b o B e⟩) (λb xs e=>e) (λb o u e=>e) (λb ps e=>⟨#[],by rw[e];simp⟩) (λm M=>?_) (λb u e=>?_) I.bare
 obtain⟨_,f1,f2,f3,f4,f5⟩:=f b L;exact⟨f3,f1,f4,f5⟩;obtain⟨o,es,ep,U,r⟩:=M;exact⟨o,es,ep,k _ o (λz=>(f _ z).2.1 rfl) U,r⟩;refine(I.hok b u e).stay (λc v B q=>k c v ?_ q) (λc q=>q) λc xs q=>q;rcases B with z|z;rw[z];exact G b u e;exact G c _ z
noncomputable def Sq(k:Bool)(K:A1)(H:Hp)(a:Addr)(xs:List V):Prop:=match k with|true=>SqL K H a xs|false=>SqT K H a xs
noncomputable def uR(k:Bool)(h:Heap)(a:Addr)(its:Array Ad):Prop:=match k with|true=>h.IsList a its|false=>h.IsTuple a its
noncomputable def pP(k:Bool)(h:Heap)(it a:Addr)(i:Nat):Prop:=match k with|true=>h.IsListIter it a i|false=>h.IsTupleIter it a i
theorem uR.at{k:Bool}{h:Heap}{a:Addr}{g:Array Ad}(q:uR k h a g)(e:∀o,h.get? a=some o->h'.get? a=some o):uR k h' a g:=by
 cases k with
 | true=>exact Heap.IsList.at q e|false=>exact Heap.IsTuple.at q e
theorem pP.at{k:Bool}{h:Heap}{a it:Addr}{i:Nat}(q:pP k h it a i)(e:∀o,h.get? it=some o->h'.get? it=some o):pP k h' it a i:=by
 cases k with
 | true=>exact Heap.IsListIter.at q e|false=>exact Heap.IsTupleIter.at q e
theorem pP.obj{k:Bool}{h:Heap}{a it:Addr}{i:Nat}(q:pP k h it a i):∃o,h.get? it=some o/\∀v,o.data≠.cell v:=by
 cases k with
 | true=>obtain⟨o,e,c,d⟩:=q;exact⟨o,e,λv z=>by rw[d] at z;cases z⟩|false=>obtain⟨o,e,c,d⟩:=q;exact⟨o,e,λv z=>by rw[d] at z;cases z⟩
theorem Sq.there{k:Bool}{K:A1}{a:Addr}{xs:List V}(h:Sq k K H a xs):H a≠none\/∃o,K.lookup a=some o:=by
 cases k with
 | true=>
  rcases h with(h|⟨o,h⟩)|⟨o,g,n,q,_⟩
  exact .inl (by rw[h];simp);exact .inl (by rw[h];simp);exact .inr ⟨_,q⟩
 | false=>
  rcases h with(h|⟨o,h⟩)|⟨o,g,n,q,_⟩
  exact .inl (by rw[h];simp);exact .inl (by rw[h];simp);exact .inr ⟨_,q⟩
theorem Inv.sqNe{k:Bool}{a b:Addr}{xs:List V}(I:Inv X pins Z H s)(h:Sq k X.K H a xs)(f:iM X pins H b):a≠b:=by
 intro e;subst e;rcases h.there with z|⟨o,z⟩
 exact z f.1;have g:=I.ok.mod.kin a o z;rcases f.2.2.2.1 with q|q;exact I.ok.noex a o g q;exact absurd (AF (Ap g) (A2 I.ok.bsz q)) (AL _)
end
structure aHz (z TI TO i1 i2:Addr):Prop where
 TIz:TI≠z
 TOz:TO≠z
 i1z:i1≠z
 i2z:i2≠z
 TITO:TI≠TO
 TIi1:TI≠i1
 TIi2:TI≠i2
 TOi1:TO≠i1
 TOi2:TO≠i2
 i12:i1≠i2
theorem aHz.apart{X:Cx}{pins:List (Addr×Obj)}{Z:St}{H:Hp}{s:Ac}{ka kb:Bool}{a b z TI TO i1 i2:Addr}{xs ys:List V}(F:aHz z TI TO i1 i2)(I:Inv X pins Z H s)(f:∀c∈[z,TI,TO,i1,i2],iM X pins H c)
 (g:Sq ka X.K H a xs) (q:Sq kb X.K H b ys):ZipApart z TI TO i1 i2 a b:=
 ⟨F.TIz,F.TOz,F.i1z,F.i2z,F.TITO,F.TIi1,F.TIi2,F.TOi1,F.TOi2,F.i12,I.sqNe g (f z (by simp)),I.sqNe g (f TO (by simp)),I.sqNe g (f i1 (by simp)),I.sqNe g (f i2 (by simp)),
  I.sqNe q (f z (by simp)),I.sqNe q (f TO (by simp)),I.sqNe q (f i1 (by simp)),I.sqNe q (f i2 (by simp))⟩
noncomputable def Its(x:Str):It:=⟨λi _=>i<x.cps.size,λi H v H'=>H'=H/\∃c,x.cps[i]? = some c/\v=.str ⟨#[c]⟩,λi _=>x.cps.size<=i⟩
theorem sC{P:A0}{w:AR}{K:A1}{tg:A6}{it:Addr}{x:Str}{t:Lq}{ty:String}(hn:["enumerate", "zip", "dict_itemiterator", "dict_reverseitemiterator", "odict_iterator", "itertools.zip_longest", "itertools.pairwise"].contains ty=false)
 (W0:∀A':AJ,A'.handled=none->Walks P w A' it [it] [it] x.cps.size (SignAt x) (λi h=>h.IsStrIter it ty x t i))
 (S:∀(A:AJ) (i:Nat) (s:Ac) (Q:Ad->Ac->Prop) (E:Ad->Ac->Prop),s.heap.IsStrIter it ty x t i->Q (.ref it) s->Am (A4 P w) A (II (.ref it)) Q E s):xT P w K tg (Its x) [it] it (λi h=>i<=x.cps.size/\h.IsStrIter it ty x t i) where
 mem:=by simp
 obj:=λi h st b g=>by
  have e:b=it:=by simpa using g
  subst e;obtain⟨_,o,e,c,d⟩:=st;exact⟨o,e,λv z=>by rw[d] at z;cases z⟩
 keep:=λi h h' st k=>by obtain⟨hi,o,e,c,d⟩:=st;exact⟨hi,o,k it (by simp) o e,c,d⟩
 item:=by intro X L W G M i pins s Z H E I q st B;subst L W G;obtain⟨f0,f1,f2,f3,f4,f5⟩:=q it (by simp);refine(W0 X.A (I.ok.hd M)).item i s _ _ B st.2 λv h' tk hv st' kk=>?_;obtain⟨c,u,U,rfl⟩:=hv;have I1:Inv X pins Z H { s with heap:=h',toks:=tk }:=I.turned (λb o g e=>kk b o (by simpa using g) e) f0 f1 f3 f4 f5;obtain⟨o,e,oc,od⟩:=id st';exact⟨_,rfl,kJ (s:={ s with heap:=h',toks:=tk }) e oc od hn ⟨.str ⟨#[c]⟩,H,I1,⟨u,rfl⟩,⟨rfl,c,U,rfl⟩,⟨B,st'⟩,λb g=>(q b g).1⟩⟩
 done:=by intro X L W G M i pins s Z H E I q st B;subst L W G;obtain⟨f0,f1,f2,f3,f4,f5⟩:=q it (by simp);have e:i=x.cps.size:=Jm st.1 B;subst e;exact(W0 X.A (I.ok.hd M)).done s _ _ st.2 λh' tk eb=>⟨rfl,I.turned (λb o g e=>eb b o (by simpa using g) e) f0 f1 f3 f4 f5⟩
 self:=λA i s Q E st h=>S A i s Q E st.2 h
theorem aEY{X:Cx}{tg l:A6}{tl:TE}(hl:PE X l tl):PI X tg l (λZ H R=>tl Z H λx H1=>(∃a,x=.ref a/\(((∃xs,SqL X.K H1 a xs)/\R (Itl X.K a) H1)\/((∃xs,SqT X.K H1 a xs)/\R (Itt X.K a) H1)))\/∃z,x=.str z/\R (Its z) H1):=by
 intro pins s Z H R I h;refine thn (hl pins s Z H _ I h) λv s1 ⟨x,H1,g,W,q1⟩=>?_;rcases q1 with⟨a,e,q⟩|⟨z,e,q⟩
 subst e;cases W;rcases q with⟨⟨xs,M⟩,q⟩|⟨⟨xs,M⟩,q⟩
 obtain⟨G,rv,p,hz⟩:=g.list M;refine Iw p.isList ?_;refine⟨s1.heap.objs.size,[s1.heap.objs.size],_,_,H1,rfl,g.kept (t':=s1.toks) λb o e=>Ae _ e,xU a _,⟨_,A7 _ rfl,rfl,rfl⟩,λb B=>?_,q⟩;have e:b=s1.heap.objs.size:=by simpa using B
 subst e;exact g.fpOk (Ak _) (g.hok.fresh (Ak _));obtain⟨G,rv,p,hz⟩:=g.tuple M;refine wpAny_pyIter_tuple (show s1.heap.IsTuple a G.toArray from p) ?_;refine⟨s1.heap.objs.size,[s1.heap.objs.size],_,_,H1,rfl,g.kept (t':=s1.toks) λb o e=>Ae _ e,tX a _,⟨_,A7 _ rfl,rfl,rfl⟩,λb B=>?_,q⟩;have e:b=s1.heap.objs.size:=by simpa using B
 subst e;exact g.fpOk (Ak _) (g.hok.fresh (Ak _));subst e;obtain⟨t,rfl⟩:=W;cases U:z.cps.all (·<128) with
 | false=>
  refine wpAny_pyIter_wide U ⟨s1.heap.objs.size,[s1.heap.objs.size],_,_,H1,rfl,g.kept (t':=s1.toks) λb o e=>Ae _ e,sC (ty:= "str_iterator") (x:=z) (t:=t) (by decide) (λA' L=>Walks.strWide L _ z t) (λA i s Q E st h=>wpAny_pyIter_striter_wide st h),⟨AS _,_,A7 _ rfl,rfl,rfl⟩,λb B=>?_,q⟩;have e:b=s1.heap.objs.size:=by simpa using B
  subst e;exact g.fpOk (Ak _) (g.hok.fresh (Ak _))
 | true=>
  refine wpAny_pyIter_ascii U ⟨s1.heap.objs.size,[s1.heap.objs.size],_,_,H1,rfl,g.kept (t':=s1.toks) λb o e=>Ae _ e,sC (ty:= "str_ascii_iterator") (x:=z) (t:=t) (by decide) (λA' L=>Walks.strAscii L _ z t) (λA i s Q E st h=>wpAny_pyIter_striter_ascii st h),⟨AS _,_,A7 _ rfl,rfl,rfl⟩,λb B=>?_,q⟩;have e:b=s1.heap.objs.size:=by simpa using B
  subst e;exact g.fpOk (Ak _) (g.hok.fresh (Ak _))
abbrev aEZ(h:Heap)(z TI TO:Addr)(f0:Ad)(f1:Bool):Prop:=
 h.get? z=some { cls:=.type "zip",dict:=none,data:=.fields #[f0,.bool f1,.bool false,.ref TI,.ref TO],slots:=#[] }
structure aKu (ka kb:Bool) (z TI TO i1 i2 l1 l2 S:Nat) (xs ys:Array Ad) (i:Nat) (h:Heap) (acc:Array Ad) (c:Nat):Prop where
 zip:(i=0/\IsZip h z TI TO .none/\∃u v,K2 h TO u v)\/∃(t:Nat) (f:Bool) (ot:Obj),aEZ h z TI TO (CL t) f/\h.get? t=some ot/\t≠z/\t≠i1/\t≠i2/\t≠S
 TI:K2 h TI (.ref i1) (.ref i2)
 i1:pP ka h i1 l1 i
 i2:pP kb h i2 l2 i
 l1:uR ka h l1 xs
 l2:uR kb h l2 ys
 lst:h.get? S=some { cls:=.type "list",dict:=none,data:=.seq acc c,slots:=#[] }
 size:h.objs.size=S+1+i
 acc:acc=((AA i).map λj=>Ay (S+1+j)).toArray
 pair:∀j,j<i->∃x y,xs[j]? = some x/\ys[j]? = some y/\K2 h (S+1+j) x y
section
variable {prog:A0} {w:AR} {A:AJ} {E:Ad->Ac->Prop} {s:Ac} {R:GU->Ac->Prop}
variable {ka kb:Bool} {z TI TO i1 i2 l1 l2:Nat} {xs ys:Array Ad}
structure uS (ka kb:Bool) (z TI TO i1 i2 l1 l2:Nat) (xs ys:Array Ad) (h:Heap):Prop where
 zip:IsZip h z TI TO .none
 TI:K2 h TI (.ref i1) (.ref i2)
 TO:∃u v,K2 h TO u v
 i1:pP ka h i1 l1 0
 i2:pP kb h i2 l2 0
 l1:uR ka h l1 xs
 l2:uR kb h l2 ys
theorem uS.at{h h':Heap}(g:uS ka kb z TI TO i1 i2 l1 l2 xs ys h)(k:∀b o,b=z\/b=TI\/b=TO\/b=i1\/b=i2\/b=l1\/b=l2->h.get? b=some o->h'.get? b=some o):uS ka kb z TI TO i1 i2 l1 l2 xs ys h' where
 zip:=k _ _ (by simp) g.zip
 TI:=k _ _ (by simp) g.TI
 TO:=let ⟨u,v,q⟩:=g.TO;⟨u,v,k _ _ (by simp) q⟩
 i1:=g.i1.at λo e=>k _ _ (by simp) e
 i2:=g.i2.at λo e=>k _ _ (by simp) e
 l1:=g.l1.at λo e=>k _ _ (by simp) e
 l2:=g.l2.at λo e=>k _ _ (by simp) e
end
section
variable {X:Cx} {pins:List (Addr×Obj)} {Z:St} {H H':Hp} {s:Ac} {h':Heap}
structure Lz (H H':Hp) (l:Nat) (xs ys:List V):Prop where
 same:∀b u,H b=some u->H' b=some u
 free:H l=none
 lst:H' l=some (.lst ((AA (min xs.length ys.length)).map λj=>.ref (l+1+j)))
 pair:∀(j:Nat) (x y:V),xs[j]? = some x->ys[j]? = some y->H' (l+1+j)=some (.tup [x,y])
end
end L2
namespace Hp
open PySem PySem.Spec PyProof.Rows L2
theorem Kp.refl(R:Addr->Prop)(H:Hp):Kp R H H:=λ_ _ h _=>h
theorem Kp.same{R:Addr->Prop}{H H':Hp}(s:aG H H'):Kp R H H':=λa o h _=>s a o h
section
variable {K:Fg} {RT Y old R:Addr->Prop} {Z:Sg} {ZV:L2.St} {H H':Hp}
theorem Kp.seqL(k:Kp R H H'){a:Addr}{xs:List V}(n:¬ R a)(h:SqL K H a xs):SqL K H' a xs:=by rcases h with(h|⟨o,h⟩)|h;exact .inl (.inl (k _ _ h n));exact .inl (.inr ⟨o,k _ _ h n⟩);exact .inr h
theorem Kp.seqT(k:Kp R H H')(B:∀a,R a->RtO H a){a:Addr}{xs:List V}(h:SqT K H a xs):SqT K H' a xs:=by
 have q:∀{o:HO},H a=some o->(∀ys,o≠.lst ys)->(∀φ,o≠.ext φ)->¬ R a:=λ{o} e G I z=>by
  rcases B a z with⟨ys,g⟩|⟨ys,g⟩
  rw[e] at g;cases g;exact G _ rfl;rw[e] at g;cases g;exact I _ rfl
 rcases h with(h|⟨o,h⟩)|h;exact .inl (.inl (k _ _ h (q h (λ_ z=>by cases z) λ_ z=>by cases z)));exact .inl (.inr ⟨o,k _ _ h (q h (λ_ z=>by cases z) λ_ z=>by cases z)⟩);exact .inr h
theorem Reps.kp{ex:Addr->Prop}{ds:List D}{xs:List V}(r:Reps K H ex ds xs)(k:Kp R H H')(q:∀a,R a->RtO H a)(I:∀a,R a->ex a):Reps K H' ex ds xs:=
 r.keep λa o e B G=>k a o e λz=>by
  rcases q a z with⟨ys,g⟩|⟨ys,g⟩
  rw[e] at g;cases g;exact B ys rfl (I a z);rw[e] at g;cases g;exact G _ rfl
theorem Rep.kp{ex:Addr->Prop}{d:D}{x:V}(r:Rep K H ex d x)(k:Kp R H H')(q:∀a,R a->RtO H a)(I:∀a,R a->ex a):Rep K H' ex d x:=
 r.keep λa o e B G=>k a o e λz=>by
  rcases q a z with⟨ys,g⟩|⟨ys,g⟩
  rw[e] at g;cases g;exact B ys rfl (I a z);rw[e] at g;cases g;exact G _ rfl
noncomputable def rtF(RT:Addr->Prop)(Z:Sg)(ZV:L2.St)(al:List Nat)(a:Addr):Prop:=RT a/\¬ alR Z ZV al a
theorem dI:∀(al:List Nat) (Z:Sg) (i:Nat),(freeze Z al)[i]? = (Z[i]?).map λs=>if i∈al then s.freeze else s
 | [],Z,i=>by cases q:Z[i]? <;> simp[freeze,q]|j::al,Z,i=>by
  rw[freeze,dI al];cases B:Z[j]? with
  | none=>
   simp only;cases q:Z[i]? with
   | none=>rfl|some s=>
    have G:i≠j:=λe=>by subst e;rw[q] at B;cases B
    simp[G]
  | some L=>simp only;by_cases g:i=j;subst g;have I:i<Z.length:=(Au.mp B).1;rw[AU I,B];simp only[EY,Al,true_or,if_true];split;cases L <;> rfl;rfl;rw[Aq (DR g)];simp[g]
theorem lI:∀(al:List Nat) (Z:Sg),(freeze Z al).length=Z.length
 | [],Z=>rfl|j::al,Z=>by rw[freeze,lI al];split;rw[AW];rfl
theorem freeze_sh{al:List Nat}{i:Nat}{pa:Bool}{d:D}(h:(freeze Z al)[i]? = some (.sh pa d)):Z[i]? = some (.sh pa d)\/∃ds,i∈al/\Z[i]? = some (.own pa ds)/\d=.lst ds:=by
 rw[dI] at h;cases q:Z[i]? with
 | none=>rw[q] at h;cases h|some s=>
  rw[q] at h;have h:(if i∈al then s.freeze else s)=.sh pa d:=Av h;split at h;rename_i hi;cases s with
  | dead=>cases h|sh pa' d'=>cases h;exact .inl rfl|own pa' ds'=>cases h;exact .inr ⟨ds',hi,rfl,rfl⟩|dct _=>cases h
  exact .inl (by rw[h])
theorem dJ{al:List Nat}{i:Nat}{pa:Bool}{ds:List D}(h:(freeze Z al)[i]? = some (.own pa ds)):Z[i]? = some (.own pa ds)/\i∉al:=by
 rw[dI] at h;cases q:Z[i]? with
 | none=>rw[q] at h;cases h|some s=>rw[q] at h;have h:(if i∈al then s.freeze else s)=.own pa ds:=Av h;split at h;cases s <;> cases h;rename_i hi;exact⟨by rw[h],hi⟩
theorem uT{al:List Nat}{i:Nat}{ds:List (NK×D)}(h:(freeze Z al)[i]? = some (.dct ds)):Z[i]? = some (.dct ds):=by
 rw[dI] at h;cases q:Z[i]? with
 | none=>rw[q] at h;cases h|some s=>
  rw[q] at h;have h:(if i∈al then s.freeze else s)=.dct ds:=Av h;split at h;cases s with
  | dct d=>exact congrArg some h|_=>cases h
  rw[h]
theorem Sx.frz(S:Sx K RT Y old Z ZV H)(al:List Nat):Sx K (rtF RT Z ZV al) Y old (freeze Z al) ZV H where
 sh:=λi pa d h=>by
  rcases freeze_sh h with h|⟨ds,hi,U,e⟩
  obtain⟨v,g,B⟩:=S.sh i pa d h;exact⟨v,g,B.weak λa z=>z.elim (λz=>.inl z.1) .inr⟩;subst e;obtain⟨a,xs,g,B,I,G,L⟩:=S.own i pa ds U;refine⟨.ref a,g,a,xs,rfl,SqL.of B,?_,L.weak λa z=>z.elim (λz=>.inl z.1) .inr⟩;rintro (z|z|⟨_,z⟩);exact z.2 ⟨i,hi,⟨pa,ds,U⟩,g⟩;exact G (S.yo a z);exact G z
 own:=λi pa ds h=>by obtain⟨h,hi⟩:=dJ h;obtain⟨a,xs,g,B,I,G,L⟩:=S.own i pa ds h;refine⟨a,xs,g,B,⟨I,?_⟩,G,L.weak λa z=>z.elim (λz=>.inl z.1) .inr⟩;rintro ⟨j,W,⟨pa',ds',q⟩,M⟩;have:=S.inj i j pa pa' ds ds' a h q g M;subst this;exact hi W
 trk:=λa z=>S.trk a (z.elim (λz=>.inl z.1) .inr)
 yo:=S.yo
 tk:=S.tk
 rt:=λa z=>S.rt a z.1
 inj:=λi j pa pa' ds ds' a g B I G=>S.inj i j pa pa' ds ds' a (dJ g).1 (dJ B).1 I G
 len:=by rw[lI];exact S.len
 dx:=S.dx.imp id (λ_ _ e=>⟨uT e,rfl⟩) (λ_ _ _ _ _ _ e=>e) (λa xs e z o=>⟨e,z,λ⟨j,_,⟨pa,ds,q⟩,M⟩=>by
  obtain⟨b,ys,g,B,I,G,L⟩:=S.own j pa ds q;rw[M] at g;cases g;rw[e] at B;cases B⟩) λ_ _ r=>r
theorem Tk.new{p:Addr}{o:HO}(t:Tk K H)(h:K.lookup p=none):Tk K (upd H p o):=λb g=>by by_cases e:b=p;rw[e];exact h;rw[aJ e] at g;exact t b g
noncomputable def Nw(K:Fg)(H:Hp)(a:Addr):Prop:=H a=none/\K.lookup a=none
theorem aCG{a:Addr}{xs:List V}(q:SqL K H a xs):¬ Nw K H a:=by
 rintro ⟨n,k⟩;rcases q with(q|⟨o,q⟩)|⟨o,g,m,q,_⟩
 rw[n] at q;cases q;rw[n] at q;cases q;rw[k] at q;cases q
theorem Reps.outN{ex:Addr->Prop}{d:List D}{v:List V}(h:Reps K H ex d v):Reps K H (λb=>ex b\/Nw K H b) d v:=
 Reps.imp (λ_ _ q=>q) (λb xs nb q=>⟨λz=>z.elim nb (aCG q),q⟩) (λ_ _ q=>q) d v h
theorem RvN.sub{ex:Addr->Prop}{v:Vl}{d:D}{x:V}(h:Rep K H' (λa=>exV RT Y old Z ZV v.pa v.al a\/ex a) d x):Rep K H' (λa=>exV RT Y old Z ZV (v.sub d).pa (v.sub d).al a\/ex a) (v.sub d).d x:=by unfold Vl.sub;by_cases g:noL d=true;rw[if_pos g];exact Rep.free d x g h;rw[if_neg g];exact h
structure aAI (K:Fg) (RT Y old:Addr->Prop) (Z:Sg) (ZV:L2.St) (H1:Hp) (J:L2.It) (xs:List Vl) (al:List Nat):Prop where
 sub:∀v∈xs,∀j∈v.al,j∈al
 nofr:∀v∈xs,v.fr=false
 ok:∀(R:Addr->Prop),(∀b,R b->rtF RT Z ZV al b)->∀(i:Nat) (H:Hp),Kp R H1 H->(i<xs.length->J.go i H)/\(xs.length<=i->J.stop i H)/\∀x H',J.yld i H x H'->∀v,xs[i]? = some v->aG H H'/\(Tk K H->Tk K H')/\Rep K H' (λa=>exV RT Y old Z ZV v.pa v.al a\/Nw K H1 a) v.d x
theorem aAJ{v:Vl}{d:D}:∀j∈(v.sub d).al,j∈v.al:=by unfold Vl.sub Vl.cl;split;intro j g;cases g;intro j g;exact g
theorem pQ{v:Vl}{d:D}:(v.sub d).fr=false:=by unfold Vl.sub Vl.cl;split <;> rfl
theorem nS{x:Vl}{ds:List D}{i:Nat}{v:Vl}(h:(items x ds)[i]? = some v):∃d,ds[i]? = some d/\v=x.sub d:=by
 unfold items at h;rw[A5] at h;cases q:ds[i]? with
 | none=>rw[q] at h;cases h|some d=>rw[q] at h;exact⟨d,rfl,(Av h).symm⟩
theorem uU{al:List Nat}{pa:Bool}{b:Addr}(h:rtF RT Z ZV al b):exV RT Y old Z ZV pa al b:=.inl h
theorem aCH(S:Sx K RT Y old Z ZV H){x:Vl}{ds:List D}{a:Addr}{xs:List V}(q:SqL K H a xs)(n:¬ exV RT Y old Z ZV x.pa x.al a)(r:Reps K H (exV RT Y old Z ZV x.pa x.al) ds xs) :
 aAI K RT Y old Z ZV H (Itl K a) (items x ds) x.al where
 sub:=λv g j M=>by obtain⟨d,_,e⟩:=Ag.mp g;subst e;exact aAJ j M
 nofr:=λv g=>by obtain⟨d,_,e⟩:=Ag.mp g;subst e;exact pQ
 ok:=λR G i H1 k=>by
  have L:SqL K H1 a xs:=k.seqL (λz=>n (uU (G a z))) q;have U:Reps K H1 (λa=>exV RT Y old Z ZV x.pa x.al a\/Nw K H a) ds xs:=r.outN.kp k (λb z=>S.rt b (G b z).1) λb z=>.inl (uU (G b z));have hl:(items x ds).length=xs.length:=by unfold items;rw[lM,r.length]
  refine⟨λhi=>⟨xs,xs[i]'(by omega),L,Ah (by omega)⟩,λhi=>⟨xs,L,by omega⟩,λy H' I v g=>?_⟩;obtain⟨e,I⟩:=I;subst e;obtain⟨d,hd,e⟩:=nS g;subst e;obtain⟨y',B,W⟩:=U.get hd;rw[I xs L] at B;cases B;exact⟨aG.refl _,id,RvN.sub W⟩
theorem aFa(S:Sx K RT Y old Z ZV H){x:Vl}{ds:List D}{a:Addr}{xs:List V}(q:SqT K H a xs)(r:Reps K H (exV RT Y old Z ZV x.pa x.al) ds xs) :
 aAI K RT Y old Z ZV H (Itt K a) (items x ds) x.al where
 sub:=λv g j M=>by obtain⟨d,_,e⟩:=Ag.mp g;subst e;exact aAJ j M
 nofr:=λv g=>by obtain⟨d,_,e⟩:=Ag.mp g;subst e;exact pQ
 ok:=λR G i H1 k=>by
  have L:SqT K H1 a xs:=k.seqT (λb z=>S.rt b (G b z).1) q;have U:Reps K H1 (λa=>exV RT Y old Z ZV x.pa x.al a\/Nw K H a) ds xs:=r.outN.kp k (λb z=>S.rt b (G b z).1) λb z=>.inl (uU (G b z));have hl:(items x ds).length=xs.length:=by unfold items;rw[lM,r.length]
  refine⟨λhi=>⟨xs,xs[i]'(by omega),L,Ah (by omega)⟩,λhi=>⟨xs,L,by omega⟩,λy H' I v g=>?_⟩;obtain⟨e,I⟩:=I;subst e;obtain⟨d,hd,e⟩:=nS g;subst e;obtain⟨y',B,W⟩:=U.get hd;rw[I xs L] at B;cases B;exact⟨aG.refl _,id,RvN.sub W⟩
theorem aAK{lo:Int}{m:Nat}{xs:List Vl}(q:xs=((AA m).map λ(k:Nat)=>Vl.cl (.int (lo+(k:Int))))):aAI K RT Y old Z ZV H (Itr lo m) xs [] where
 sub:=λv g j G=>by subst q;obtain⟨d,_,e⟩:=Ag.mp g;subst e;exact G
 nofr:=λv g=>by subst q;obtain⟨d,_,e⟩:=Ag.mp g;subst e;rfl
 ok:=λR I i H1 k=>by
  have L:xs.length=m:=by rw[q,lM,B3]
  refine⟨λhi=>(show i<m by omega),λhi=>(show m<=i by omega),λy H' B v g=>?_⟩;obtain⟨e,B⟩:=B;subst e B;subst q;rw[A5] at g;have hi:i<m:=by have:=(Au.mp (show((AA m).map λ(k:Nat)=>Vl.cl (.int (lo+(k:Int))))[i]? = some v by rw[A5];exact g)).1;simpa using this
  rw[List.getElem?_range hi] at g;cases g;exact⟨aG.refl _,id,rfl⟩
theorem aFb{z:Str}{xs:List Vl}(q:xs=(z.cps.toList.map λn=>Vl.cl (.str ⟨#[n]⟩))):aAI K RT Y old Z ZV H (Its z) xs [] where
 sub:=λv g j I=>by subst q;obtain⟨d,_,e⟩:=Ag.mp g;subst e;exact I
 nofr:=λv g=>by subst q;obtain⟨d,_,e⟩:=Ag.mp g;subst e;rfl
 ok:=λR L i H1 k=>by
  have M:xs.length=z.cps.size:=by rw[q,lM,AK]
  refine⟨λhi=>(show i<z.cps.size by omega),λhi=>(show z.cps.size<=i by omega),λy H' B v g=>?_⟩;obtain⟨e,c,G,B⟩:=B;subst e B;subst q;rw[A5,AT,G] at g;cases g;exact⟨aG.refl _,id,rfl⟩
end
section
variable {X:Cx} {P:Pg} {Γ:Ct} {n:Nat} {RT Y old:Addr->Prop} {Z:Sg} {tg:A6}
noncomputable def wI(X:Cx)(P:Pg)(n:Nat)(RT Y old:Addr->Prop)(Z:Sg)(it:Hp.It):TI:=λZV H R=>Sx X.K RT Y old Z ZV H/\RE (walk P (call P n) Z it) λxs=>∀J H1,Tk X.K H1->aG H H1->aAI X.K RT Y old Z ZV H1 J xs.1 xs.2->R J H1
theorem uV{g:A6}{t t':TI}(h:PI X tg g t)(f:∀ZV H R,Tk X.K H->t' ZV H R->t ZV H λJ H'=>Tk X.K H'->R J H'):PI X tg g t':=λpins s ZV H R I M=>thn (h pins s ZV H _ I (f ZV H R I.tk M)) λv s1 L=>thn L λU s2 ⟨it,fp,tn,J,H',e,B,T,st,G,q⟩=>⟨it,fp,tn,J,H',e,B,T,st,G,q B.tk⟩
theorem aHA{c:E}{e:A6}(L:PE X e (WE X P n RT Y old Z c)):PI X tg e (wI X P n RT Y old Z (.seq c)):=by
 refine uV (aEY L) λZV H RR t ⟨S,h⟩=>?_;have h:=RE.bind' (show RE (ev P (call P n) Z c >>= λx=>(match x.d with
  | .lst ds=>R.ok (items x ds,x.al)|.tup ds=>R.ok (items x ds,x.al)|.str a=>R.iff (decide (a.length<=lim)) (R.ok (a.cps.toList.map λn=>Vl.cl (.str ⟨#[n]⟩),[]))|_=>.bad)) _ from h)
 refine wE.one S h λx u H1 g U I G=>?_;have rv:=G.rv S;split at g;rename_i ds B;obtain⟨a,xs,e,q,M,r⟩:=rv.lst B;exact .inl ⟨a,e,.inl ⟨⟨xs,q⟩,λt'=>g _ _ t' G.1 (aCH I q M r)⟩⟩;rename_i ds B;obtain⟨a,xs,e,q,r⟩:=rv.tup B;exact .inl ⟨a,e,.inr ⟨⟨xs,q⟩,λt'=>g _ _ t' G.1 (aFa I q r)⟩⟩;rename_i z B;obtain⟨c,g⟩:=g.iff;exact .inr ⟨z,rv.str B,λt'=>g _ _ t' G.1 (aFb rfl)⟩;exact g.elim
theorem lJ(i j:Int):(eH i j).map Vl.cl=(AA (j-i).toNat).map λ(k:Nat)=>Vl.cl (.int (i+(k:Int))):=by unfold eH;rw[AM];rfl
theorem iS{k:Int}(h:aF k=true):-(2 ^ 62)<=k/\k<2 ^ 62:=by unfold aF at h;simp only[bA,Ax] at h;exact h
theorem aFc(M:Mc X P Γ n){b:E}{e:A6}{f:Str}{p pos:Eg}(U:f=("range" : Str))(W:bX Γ f=true)(L:PE X e (WE X P n RT Y old Z b))(B:aS e=true):PI X tg (.Call (.Name f p) [e] [] pos) (wI X P n RT Y old Z (.rng (.c (.int 0)) b)):=by
 subst U;refine uV (xV (M.gl W) (M.md.blt _ (by decide +kernel)) (pN L aAE B) (aC B)) λZV H RR t ⟨S,h⟩=>?_;have h:RE (ev P (call P n) Z b) λy=>RE (match (D.int 0),y.d with|.int i,.int j=>R.iff (aF i&&aF j) (R.ok ((eH i j).map Vl.cl,[]))|_,_=>.bad) _:=
  RE.bind' (show RE (ev P (call P n) Z b >>= λy=>(match (D.int 0),y.d with|.int i,.int j=>R.iff (aF i&&aF j) (R.ok ((eH i j).map Vl.cl,[]))|_,_=>.bad)) _ from h)
 refine⟨S,?_⟩;show RE (ev P (call P n) Z b >>= λx=>evs P (call P n) Z .nil >>= λxs=>R.ok (x::xs)) _;rw[RE.bind];refine h.mono λy g=>?_;split at g;rename_i i j G I;cases G;obtain⟨c,g⟩:=g.iff;rw[bA] at c;have c2:=iS c.2;intro us H1 t1 s1 r1;obtain⟨u,r',q,ru,hr⟩:=r1;rw[show r'=[] from hr] at q;subst q;refine⟨j,by rw[ru.int I],c2.1,c2.2,λt'=>g _ _ t' s1 (aAK ?_)⟩;rw[lJ];simp;exact g.elim
theorem aFd(M:Mc X P Γ n){a b:E}{I L:A6}{f:Str}{p pos:Eg}(hf:f=("range" : Str))(hg:bX Γ f=true)(ha:PE X I (WE X P n RT Y old Z a))(hb:PE X L (WE X P n RT Y old Z b))(B:aS I=true)(g:aS L=true) :
 PI X tg (.Call (.Name f p) [I,L] [] pos) (wI X P n RT Y old Z (.rng a b)):=by subst hf;refine uV (xW (M.gl hg) (M.md.blt _ (by decide +kernel)) (pN ha (pN hb aAE g) B) (by rw[aC B,aC g];rfl) (aC g)) λZV H RR t ⟨S,h⟩=>?_;have h:=RE.bind' (show RE (ev P (call P n) Z a >>= λx=>ev P (call P n) Z b >>= λy=>(match x.d,y.d with|.int i,.int j=>R.iff (aF i&&aF j) (R.ok ((eH i j).map Vl.cl,[]))|_,_=>.bad)) _ from h);refine⟨S,?_⟩;show RE (ev P (call P n) Z a >>= λx=>evs P (call P n) Z (.cons b .nil) >>= λxs=>R.ok (x::xs)) _;rw[RE.bind];refine h.mono λx hx=>?_;rw[RE.bind];show RE (ev P (call P n) Z b >>= λx=>evs P (call P n) Z .nil >>= λxs=>R.ok (x::xs)) _;rw[RE.bind];refine(RE.bind' hx).mono λy G=>?_;split at G;rename_i i j e1 e2;obtain⟨c,G⟩:=G.iff;rw[bA] at c;have W:=iS c.1;have c2:=iS c.2;intro us H1 t1 s1 r1;obtain⟨u,r',eu,ru,u2,r2,q,U,hr⟩:=r1;rw[show r2=[] from hr] at q;subst q;subst eu;refine⟨i,j,by rw[ru.int e1,U.int e2],⟨W.1,W.2,c2.1,c2.2⟩,λt'=>G _ _ t' s1 (aAK ?_)⟩;rw[lJ];exact G.elim
end
noncomputable def gs:List Nat->TGs
 | []=>aGD|i::is=>aDy (nI i) (gs is)
noncomputable def gT(K:Fg):T->TG
 | .n i=>nI i|.t is=>aGE K is.length (gs is)
section
variable {K:Fg} {RT Y old:Addr->Prop} {Z:Sg} {ZV:L2.St} {H H':Hp}
theorem set_some{α:Type}{l:List α}{i j:Nat}{x y:α}(e:(l.set i x)[j]? = some y):(i=j/\x=y/\i<l.length)\/(i≠j/\l[j]? = some y):=by by_cases g:i=j;subst g;have q:i<(l.set i x).length:=(Au.mp e).1;rw[AW] at q;rw[AU q] at e;cases e;exact .inl ⟨rfl,rfl,q⟩;rw[Aq g] at e;exact .inr ⟨g,e⟩
theorem Sx.setSh(S:Sx K RT Y old Z ZV H){i:Nat}{pa:Bool}{d:D}{u:V}(h:Rep K H (λa=>RT a\/exB Y old pa a) d u):Sx K RT Y old (Z.set i (.sh pa d)) (ZV.set i (some u)) H where
 sh:=λj pa' d' e=>by
  rcases set_some e with⟨rfl,e,W⟩|⟨g,e⟩
  cases e;exact⟨u,AU (by rw[<-S.len];exact W),h⟩;obtain⟨v,I,L⟩:=S.sh j pa' d' e;exact⟨v,by rw[Aq g];exact I,L⟩
 own:=λj pa' ds e=>by
  rcases set_some e with⟨rfl,e,W⟩|⟨g,e⟩
  cases e;obtain⟨a,xs,I,L⟩:=S.own j pa' ds e;exact⟨a,xs,by rw[Aq g];exact I,L⟩
 trk:=S.trk
 yo:=S.yo
 tk:=S.tk
 rt:=S.rt
 inj:=λj j' pa' q ds ds' a B G M U=>by
  rcases set_some B with⟨_,e,_⟩|⟨n1,B⟩
  cases e;rcases set_some G with⟨_,e,_⟩|⟨n2,G⟩
  cases e;rw[Aq n1] at M;rw[Aq n2] at U;exact S.inj j j' pa' q ds ds' a B G M U
 len:=by rw[AW,AW];exact S.len
 dx:=S.dx.imp id (λj ds e=>by
  rcases set_some e with⟨_,z,_⟩|⟨g,e⟩
  cases z;exact⟨e,Aq g⟩) (λ_ _ _ _ _ _ e=>e) (λ_ _ e z _=>⟨e,z⟩) λ_ _ r=>r
theorem Rep.out{ex:Addr->Prop}{d:D}{v:V}{a:Addr}(h:Rep K H ex d v)(n:H a=none)(k:K.lookup a=none):Rep K H (λb=>b=a\/ex b) d v:=
 Rep.imp (λ_ _ q=>q) (λb xs nb q=>⟨λz=>z.elim (λz=>by
  subst z;rcases q with(q|⟨o,q⟩)|⟨o,g,m,q,_⟩
  rw[n] at q;cases q;rw[n] at q;cases q;rw[k] at q;cases q) nb,q⟩) (λ_ _ q=>q) d v h
theorem Reps.out{ex:Addr->Prop}{d:List D}{v:List V}{a:Addr}(h:Reps K H ex d v)(n:H a=none)(k:K.lookup a=none):Reps K H (λb=>b=a\/ex b) d v:=
 Reps.imp (λ_ _ q=>q) (λb xs nb q=>⟨λz=>z.elim (λz=>by
  subst z;rcases q with(q|⟨o,q⟩)|⟨o,g,m,q,_⟩
  rw[n] at q;cases q;rw[n] at q;cases q;rw[k] at q;cases q) nb,q⟩) (λ_ _ q=>q) d v h
theorem Sx.storeOwn(S:Sx K RT Y old Z ZV H){i:Nat}{a:Addr}{xs:List V}{ds:List D}{pa:Bool}(s:aG H H')(t:Tk K H')(hn:H a=none)(W:H' a=some (.lst xs))(r:Reps K H' (λb=>(RT b\/b=a)\/exB Y old pa b) ds xs) :
 Sx K (λb=>RT b\/b=a) Y old (Z.set i (.own pa ds)) (ZV.set i (some (.ref a))) H' where
 sh:=λj pa' d' e=>by
  rcases set_some e with⟨rfl,e,M⟩|⟨g,e⟩
  cases e;obtain⟨v,I,L⟩:=S.sh j pa' d' e;refine⟨v,by rw[Aq g];exact I,((L.out hn (t a (by rw[W];simp))).grow s).weak λb z=>?_⟩;rcases z with(z|z)|z;exact .inr (.inl z);exact .inl z;exact .inr (.inr z)
 own:=λj pa' ds' e=>by
  rcases set_some e with⟨rfl,e,M⟩|⟨g,e⟩
  cases e;exact⟨a,xs,AU (by rw[<-S.len];exact M),W,.inr rfl,λz=>S.trk a (.inr (.inr z)) hn,r⟩;obtain⟨a',q1,I,L,h3,h4,h5⟩:=S.own j pa' ds' e;refine⟨a',q1,by rw[Aq g];exact I,s _ _ L,.inl h3,h4,((h5.out hn (t a (by rw[W];simp))).grow s).weak λb z=>?_⟩;rcases z with(z|z)|z;exact .inr (.inl z);exact .inl z;exact .inr (.inr z)
 trk:=λb z q=>by rcases z with(z|z)|z;exact S.trk b (.inl z) (s.free q);rw[z,W] at q;cases q;exact S.trk b (.inr z) (s.free q)
 yo:=S.yo
 tk:=t
 rt:=λb z=>by rcases z with z|z;exact(S.rt b z).grow s;rw[z];exact .inl ⟨xs,W⟩
 inj:=λj j' pa' q0 q2 q3 c e1 B U G=>by
  have fr:∀{j:Nat} {pa:Bool} {ds:List D},Z[j]? = some (.own pa ds)->ZV[j]? = some (some (.ref a))->False:=λ{j pa ds} e q=>by obtain⟨a',q1,I,L,_⟩:=S.own j pa ds e;rw[q] at I;cases I;rw[hn] at L;cases L
  rcases set_some e1 with⟨rfl,e,M⟩|⟨n1,e1⟩
  rcases set_some B with⟨rfl,_,_⟩|⟨n2,B⟩
  rfl;rw[AU (by rw[<-S.len];exact M)] at U;cases U;rw[Aq n2] at G;exact(fr B G).elim;rw[Aq n1] at U;rcases set_some B with⟨rfl,e,M⟩|⟨n2,B⟩
  rw[AU (by rw[<-S.len];exact M)] at G;cases G;exact(fr e1 U).elim;rw[Aq n2] at G;exact S.inj j j' pa' q0 q2 q3 c e1 B U G
 len:=by rw[AW,AW];exact S.len
 dx:=S.dx.imp id (λj ds e=>by
  rcases set_some e with⟨_,z,_⟩|⟨g,e⟩
  cases z;exact⟨e,Aq g⟩) (λ_ _ _ _ _ _ e=>e) (λb ys e z _=>⟨s _ _ e,.inl z⟩) λ_ _ r=>aG.seqT s r
theorem fR{v:Vl}(h:v.fr=false):v.slot=.sh v.pa v.d:=by unfold Vl.slot;rw[h]
theorem aCI{v:Vl}{ds:List D}(h:v.fr=true)(hd:v.d=.lst ds):v.slot=.own v.pa ds:=by unfold Vl.slot;rw[h,hd]
theorem Sx.store(S:Sx K RT Y old Z ZV H){v:Vl}{u:V}(ro:Ro K RT Y old Z ZV H H' v u)(t:Tk K H')(i:Nat) :
 ∃g,Sx K g Y old ((freeze Z v.al).set i v.slot) (ZV.set i (some u)) H'/\∀b,g b->RT b\/H b=none:=by by_cases q:v.fr=true;obtain⟨s,h⟩:=ro;rw[if_pos q] at h;obtain⟨a,xs,ds,G,I,B,L,r⟩:=h;subst G;rw[aCI q I];refine⟨_,(S.frz v.al).storeOwn s t B L (r.weak λb z=>?_),λb z=>z.elim (λz=>.inl z.1) λz=>.inr (by rw[z];exact B)⟩;rcases z with(z|z)|z;exact .inr (.inl z);exact .inl z;exact .inr (.inr z);rw[fR (by simpa using q)];exact⟨_,((S.grow ro.1 t).frz v.al).setSh (ro.rv S),λb z=>.inl z.1⟩
theorem aDP:∀{is:List Nat} {us:List V} {ZV:L2.St} {H:Hp} {Q:L2.St->Hp->Prop},is.length=us.length->Q ((is.zip us).foldl (λs p=>s.set p.1 (some p.2)) ZV) H->gs is us ZV H Q
 | [],[],_,_,_,_,h=>⟨rfl,h⟩
 | [],_::_,_,_,_,e,_=>by simp at e|_::_,[],_,_,_,e,_=>by simp at e|i::is,u::us,ZV,H,Q,e,h=>⟨u,us,rfl,aDP (is:=is) (us:=us) (by simpa using e) h⟩
theorem sD{v:Vl}{d:D}:(v.sub d).slot=.sh (!noL d&&v.pa) d:=by
 rw[fR pQ];unfold Vl.sub Vl.cl;split;rename_i h;rw[h];rfl;rename_i h;have:noL d=false:=by simpa using h
 rw[this];rfl
theorem Sx.setAll{v:Vl}:∀{is:List Nat} {ds:List D} {us:List V} {Z:Sg} {ZV:L2.St},Sx K RT Y old Z ZV H->Reps K H (λa=>RT a\/exB Y old v.pa a) ds us ->
 Sx K RT Y old ((is.zip ds).foldl (λZ p=>Z.set p.1 (v.sub p.2).slot) Z) ((is.zip us).foldl (λs p=>s.set p.1 (some p.2)) ZV) H
 | [],_,_,_,_,S,_=>S|_::_,[],us,_,_,S,r=>by rw[show us=[] from r];exact S|i::is,d::ds,us,Z,ZV,S,r=>by
  obtain⟨x,G,e,g,q⟩:=r;subst e;refine Sx.setAll (v:=v) (is:=is) (ds:=ds) (us:=G) ?_ q;show Sx K RT Y old (Z.set i (v.sub d).slot) (ZV.set i (some x)) H;rw[sD];refine S.setSh ?_;cases B:noL d with
  | true=>exact Rep.free d x B g|false=>exact g
theorem iT{α:Type}{g:Type}(f:g->α):∀{is:List Nat} {bs:List g} {l:List α} {j:Nat},j∉is->((is.zip bs).foldl (λs p=>s.set p.1 (f p.2)) l)[j]? = l[j]?
 | [],_,_,_,_=>rfl|_::_,[],_,_,_=>rfl|i::is,b::bs,l,j,h=>by
  have h':i≠j/\j∉is:=by refine⟨λe=>h (by simp[e]),λz=>h (Af _ z)⟩
  rw[AY,C3,iT f (is:=is) (bs:=bs) h'.2,Aq h'.1]
theorem sF{α:Type}{g:Type}(f:g->α):∀{is:List Nat} {bs:List g} {l:List α},((is.zip bs).foldl (λs p=>s.set p.1 (f p.2)) l).length=l.length
 | [],_,_=>rfl|_::_,[],_=>rfl|i::is,b::bs,l=>by rw[AY,C3,sF f (is:=is) (bs:=bs),AW]
theorem fold_mem{α:Type}{g:Type}(f:g->α):∀{is:List Nat} {bs:List g} {l:List α} {j:Nat} {x:α},((is.zip bs).foldl (λs p=>s.set p.1 (f p.2)) l)[j]? = some x->l[j]? = some x\/∃b,x=f b
 | [],_,_,_,_,h=>.inl h|_::_,[],_,_,_,h=>.inl h|i::is,b::bs,l,j,x,h=>by
  rw[AY,C3] at h;rcases fold_mem f (is:=is) (bs:=bs) h with q|q;rcases set_some q with⟨_,e,_⟩|⟨_,e⟩
  exact .inr ⟨b,e.symm⟩;exact .inl e;exact .inr q
theorem lK{v:Vl}{is:List Nat}{g:Sg}(e:setT Z v (.t is)=.ok g):∃ds,v.d=.tup ds/\ds.length=is.length/\g=(is.zip ds).foldl (λZ p=>Z.set p.1 (v.sub p.2).slot) Z:=by unfold setT at e;simp only at e;split at e;rename_i ds hd;split at e;rename_i q;cases e;exact⟨ds,hd,q,rfl⟩;cases e;cases e
theorem lL{v:Vl}{i:Nat}{g:Sg}(e:setT Z v (.n i)=.ok g):g=Z.set i v.slot:=by cases(show R.ok (Z.set i v.slot)=R.ok g from e);rfl
theorem aAL{v:Vl}{t:T}{g:Sg}{j:Nat}(e:setT Z v t=.ok g)(h:j∉tIx t):g[j]? = Z[j]? := by
 cases t with
 | n i=>rw[lL e];exact Aq λz=>h (by simp[tIx,z])|t is=>obtain⟨ds,_,_,e⟩:=lK e;rw[e];exact iT (λd=>(v.sub d).slot) h
theorem aAM{v:Vl}{t:T}{g:Sg}(e:setT Z v t=.ok g):g.length=Z.length:=by
 cases t with
 | n i=>rw[lL e,AW]|t is=>obtain⟨ds,_,_,e⟩:=lK e;rw[e];exact sF (λd=>(v.sub d).slot)
theorem aAN{v:Vl}{t:T}{g:Sg}{j:Nat}{pa:Bool}{ds:List D}(B:v.fr=false)(e:setT Z v t=.ok g)(h:g[j]? = some (.own pa ds)):Z[j]? = some (.own pa ds):=by
 cases t with
 | n i=>
  rw[lL e,fR B] at h;rcases set_some h with⟨_,e,_⟩|⟨_,e⟩
  cases e;exact e
 | t is=>
  obtain⟨ds',_,_,e⟩:=lK e;rw[e] at h;rcases fold_mem (λd=>(v.sub d).slot) h with q|⟨b,q⟩
  exact q;rw[sD] at q;cases q
theorem wG(S:Sx K RT Y old Z ZV H){t:T}{v:Vl}{u:V}{Q:L2.St->Hp->Prop}{I:Sg}(B:v.fr=false)(h:Rep K H (λa=>RT a\/exB Y old v.pa a) v.d u)(e:setT Z v t=.ok I)
 (q:∀g,Sx K RT Y old I g H->(∀j,j∉tIx t->g[j]? = ZV[j]?)->Q g H):gT K t u ZV H Q:=by
 cases t with
 | n i=>rw[lL e,fR B] at q;exact q _ (S.setSh h) λj G=>Aq λz=>G (by simp[tIx,z])|t is=>obtain⟨ds,hd,M,e⟩:=lK e;rw[hd] at h;obtain⟨a,xs,rfl,L,r⟩:=h;have l2:=r.length;refine⟨a,xs,rfl,L,by omega,aDP (by omega) (q _ ?_ λj G=>?_)⟩;rw[e];exact S.setAll r;exact iT (λd=>some d) G
end
section
variable {X:Cx} {P:Pg} {Γ:Ct} {n:Nat} {RT Y old:Addr->Prop} {Z:Sg} {tg:A6} {pos:Eg}
theorem sG(M:Mc X P Γ n):∀{is:List Nat} {es:List A6},is.length=es.length->((is.zip es).all λp=>match p.2 with|.Name x _=>bB Γ p.1 x|_=>false)=true ->
 PGs X es (gs is)/\(Du es X.env).length=is.length/\(Du es X.env).findIdx? (·.1)=none
 | [],[],_,_=>⟨aBX,rfl,rfl⟩
 | [],_::_,e,_=>by simp at e|_::_,[],e,_=>by simp at e|i::is,e::es,hl,h=>by
  rw[AY,FV,bA] at h;obtain⟨q,B,G⟩:=sG M (is:=is) (es:=es) (by simpa using hl) h.2;cases e with
  | Name x p=>have hs:bB Γ i x=true:=h.1;unfold bB at hs;simp only[bA,beq_iff_eq] at hs;have g:Du (.Name x p::es) X.env=(false,Gn (.Name x p) X.env)::Du es X.env:=rfl;refine⟨zN (vM M.nd (by rw[M.N];exact hs.1.1) (M.loc hs.1.2) (M.st x hs.1.2)) q (by rw[g];rfl),?_,?_⟩;rw[g,lC,lC,B];rw[g,List.findIdx?_cons];simp[G]|_=>cases h.1
theorem aAO(M:Mc X P Γ n){t:T}(h:jP Γ t tg=true):PG X tg (gT X.K t):=by
 cases t with
 | n i=>
  cases tg with
  | Name x p=>have hs:bB Γ i x=true:=h;unfold bB at hs;simp only[bA,beq_iff_eq] at hs;exact vM M.nd (by rw[M.N];exact hs.1.1) (M.loc hs.1.2) (M.st x hs.1.2)|_=>cases h
 | t is=>
  cases tg with
  | Tuple es k p=>have h:(is.length==es.length&&(is.zip es).all λp=>match p.2 with|.Name x _=>bB Γ p.1 x|_=>false)=true:=h;rw[bA,beq_iff_eq] at h;obtain⟨g,q,B⟩:=sG M h.1 h.2;exact aEl M.calm g q B|_=>cases h
noncomputable def ch0(k:Nat)(caps:List Nat)(Z:Sg):Sg:=An k .dead++caps.map λi=>(Z[i]?).getD .dead
theorem ch0_get{k:Nat}{caps:List Nat}{Z:Sg}{j:Nat}{s:Sl}(h:(ch0 k caps Z)[j]? = some s):s=.dead\/∃B i,j=k+B/\caps[B]? = some i/\Z[i]? = some s:=by
 unfold ch0 at h;by_cases g:j<k;rw[AE (by simpa using g),Cv,if_pos g] at h;cases h;exact .inl rfl;rw[AD (by simpa using g),Be,A5] at h;cases e:caps[j-k]? with
 | none=>rw[e] at h;cases h|some i=>
  rw[e] at h;have h':(Z[i]?).getD .dead=s:=Av h;cases q:Z[i]? with
  | none=>rw[q] at h';exact .inl h'.symm|some z=>rw[q] at h';exact .inr ⟨j-k,i,by omega,e,by rw[q];exact congrArg some h'⟩
theorem aAP{k:Nat}{caps:List Nat}{Z:Sg}{j:Nat}{s:Sl}(g:j<k)(h:(ch0 k caps Z)[j]? = some s):s=.dead:=by unfold ch0 at h;rw[AE (by simpa using g),Cv,if_pos g] at h;cases h;rfl
theorem pR{k:Nat}{caps:List Nat}{ZV:L2.St}{j i:Nat}{v:V}(e:caps[j]? = some i)(h:ZV[i]? = some (some v)):(gI k caps ZV)[k+j]? = some (some v):=by unfold gI;rw[AD (by simp),Be,A5,Bf,e];show some ((ZV[i]?).getD none)=_;rw[h];rfl
theorem pS{k:Nat}{caps:List Nat}{ZV:L2.St}{j i:Nat}{v:V}(e:caps[j]? = some i)(h:(gI k caps ZV)[k+j]? = some (some v)):ZV[i]? = some (some v):=by
 unfold gI at h;rw[AD (by simp),Be,A5,Bf,e] at h;have h':(ZV[i]?).getD none=some v:=Av h;cases q:ZV[i]? with
 | none=>rw[q] at h';cases h'|some z=>rw[q] at h';exact congrArg some h'
theorem iU{α:Type}:∀{l:List α},l.Nodup->∀{i j:Nat} {x:α},l[i]? = some x->l[j]? = some x->i=j
 | [],_,_,_,_,h,_=>by simp at h|a::l,hn,0,0,_,_,_=>rfl|a::l,hn,0,j+1,x,h1,h2=>by
  have e:a=x:=by simpa using h1
  have:x∈l:=mG (by simpa using h2);subst e;exact absurd this (Bu.mp hn).1
 | a::l,hn,i+1,0,x,h1,h2=>by
  have e:a=x:=by simpa using h2
  have:x∈l:=mG (by simpa using h1);subst e;exact absurd this (Bu.mp hn).1
 | a::l,hn,i+1,j+1,x,h1,h2=>congrArg (·+1) (iU (Bu.mp hn).2 (i:=i) (j:=j) (x:=x) (by simpa using h1) (by simpa using h2))
theorem Sx.child{K:Fg}{ZV:L2.St}{H:Hp}(S:Sx K RT Y old Z ZV H){k:Nat}{caps:List Nat}(nd:caps.Nodup):Sx K RT Y old (ch0 k caps Z) (gI k caps ZV) H where
 sh:=λj pa d e=>by
  rcases ch0_get e with z|⟨j',i,rfl,I,hs⟩
  cases z;obtain⟨v,G,U⟩:=S.sh i pa d hs;exact⟨v,pR I G,U⟩
 own:=λj pa ds e=>by
  rcases ch0_get e with z|⟨j',i,rfl,I,hs⟩
  cases z;obtain⟨a,xs,G,U⟩:=S.own i pa ds hs;exact⟨a,xs,pR I G,U⟩
 trk:=S.trk
 yo:=S.yo
 tk:=S.tk
 rt:=S.rt
 inj:=λj1 j2 pa pa' ds ds' a L M e3 e4=>by
  rcases ch0_get L with z|⟨q1,i1,rfl,g,W⟩
  cases z;rcases ch0_get M with z|⟨q2,i2,rfl,B,q0⟩
  cases z;have:=S.inj i1 i2 pa pa' ds ds' a W q0 (pS g e3) (pS B e4);subst this;rw[iU nd g B]
 len:=by unfold ch0 gI;rw[lA,lA,lM,lM,Be,Be]
 dx:=S.dx.imp (λj=>(caps[j-k]?).getD 0) (λj ds e=>by
  rcases ch0_get e with z|⟨j',i,rfl,I,hs⟩
  cases z;rw[Bf,I];refine⟨hs,?_⟩;obtain⟨a,xs,G,_⟩:=S.dx.at' i ds hs;rw[pR I G];exact G.symm) (λj1 j2 ds ds' L M q=>by
  rcases ch0_get L with z|⟨q1,i1,rfl,g,_⟩
  cases z;rcases ch0_get M with z|⟨q2,i2,rfl,B,_⟩
  cases z;rw[Bf,Bf,g,B] at q;have q:i1=i2:=q;subst q;rw[iU nd g B]) (λ_ _ e z _=>⟨e,z⟩) λ_ _ r=>r
theorem Sx.forget{K:Fg}{Z':Sg}{ZV:L2.St}{H:Hp}(S:Sx K RT Y old Z ZV H)(M:Z'.length=Z.length)(h:∀(j:Nat) (s:Sl),Z'[j]? = some s->s=.dead\/Z[j]? = some s):Sx K RT Y old Z' ZV H where
 sh:=λj pa d e=>by rcases h j _ e with z|z;cases z;exact S.sh j pa d z
 own:=λj pa d e=>by rcases h j _ e with z|z;cases z;exact S.own j pa d z
 trk:=S.trk
 yo:=S.yo
 tk:=S.tk
 rt:=S.rt
 inj:=λg q pa pa' ds ds' a B G I L=>by rcases h g _ B with z|U;cases z;rcases h q _ G with z|W;cases z;exact S.inj g q pa pa' ds ds' a U W I L
 len:=by rw[M];exact S.len
 dx:=S.dx.imp id (λj ds e=>(h j _ e).elim (λz=>by cases z) λz=>⟨z,rfl⟩) (λ_ _ _ _ _ _ e=>e) (λ_ _ e z _=>⟨e,z⟩) λ_ _ r=>r
noncomputable def wTs(X:Cx)(P:Pg)(n:Nat)(RT Y old:Addr->Prop)(Z:Sg)(cs:Es):TT:=λZV H Q=>Sx X.K RT Y old Z ZV H/\RE (tsts P (call P n) Z cs) λk=>∀H',Tk X.K H'->aG H H'->Q k H'
theorem aFe:PTs X [] (wTs X P n RT Y old Z .nil):=λpins s ZV H Q I ⟨S,h⟩=>aCC pins s ZV H Q I ((show ∀H',Tk X.K H'->aG H H'->Q true H' from h) H I.tk (aG.refl H))
theorem aFf{c:E}{e:A6}(h:PT X e (WT X P n RT Y old Z c)):PTs X [e] (wTs X P n RT Y old Z (.cons c .nil)):=λpins s ZV H Q I ⟨S,g⟩=>aCD h pins s ZV H Q I ⟨S,by
 have g:=RE.bind' (show RE (tst P (call P n) Z c >>= λx=>if x=true then tsts P (call P n) Z .nil else R.ok false) _ from g);refine g.mono λk q=>?_;cases k with
 | true=>exact q|false=>exact q⟩
theorem Rvs.append{K:Fg}{ZV:L2.St}{H:Hp}:∀{vs g:List Vl} {us B:List V},Rvs K RT Y old Z ZV H vs us->Rvs K RT Y old Z ZV H g B->Rvs K RT Y old Z ZV H (vs++g) (us++B)
 | [],_,_,_,h,q=>by rw[show _=[] from h];exact q|v::vs,_,_,_,h,q=>by obtain⟨u,r,e,G,I⟩:=h;subst e;exact⟨u,_,rfl,G,Rvs.append I q⟩
noncomputable def lv(k:Nat)(caps al:List Nat)(v:Vl):Vl:=⟨v.d,false,v.pa,al++v.al.filterMap λj=>caps[j-k]?⟩
theorem sH{f:Vl->R (Option Vl)}{x:Vl}{xs g:List Vl}(h:cL f (x::xs)=.ok g):∃y ys,f x=.ok y/\cL f xs=.ok ys/\g=(match y with|some y=>y::ys|none=>ys):=by
 have h:(f x >>= λy=>cL f xs >>= λys=>(match y with|some y=>R.ok (y::ys)|none=>R.ok ys))=R.ok g:=h;cases q:f x with
 | ok y=>
  rw[q] at h;have h:(cL f xs >>= λys=>(match y with|some y=>R.ok (y::ys)|none=>R.ok ys))=R.ok g:=h;cases B:cL f xs with
  | ok ys=>
   rw[B] at h;refine⟨y,ys,rfl,rfl,?_⟩;cases y with
   | none=>cases(show R.ok ys=R.ok g from h);rfl|some y=>cases(show R.ok (y::ys)=R.ok g from h);rfl
  | exc z=>rw[B] at h;cases h|bad=>rw[B] at h;cases h
 | exc z=>rw[q] at h;cases h|bad=>rw[q] at h;cases h
theorem R.bind_ok{α g:Type}{x:R α}{f:α->R g}{b:g}(h:(x >>= f)=.ok b):∃a,x=.ok a/\f a=.ok b:=by
 cases x with
 | ok a=>exact⟨a,rfl,h⟩|exc z=>cases h|bad=>cases h
theorem aAQ{k:Nat}{caps:List Nat}{t:T}{it:Hp.It}{cond:Es}{elt:E}(w9:caps.Nodup)(hk:∀i∈tIx t,i<k){ZV:L2.St}{H:Hp}{Q:VK}(hw:WE X P n RT Y old Z (.comp k caps t it cond elt) ZV H Q) :
 aAA k caps (wI X P n RT Y old Z it) (gT X.K t) (λZV H Q=>∃RT Y old I,wTs X P n RT Y old I cond ZV H Q) (λZV H Q=>∃RT Y old I,WE X P n RT Y old I elt ZV H Q) ZV H λv H'=>Tk X.K H'->Q v H':=by
 obtain⟨S,h⟩:=hw
 let f:List Nat->Vl->R (Option Vl):=λal x=>setT (ch0 k caps (freeze Z al)) x t >>= λI=>tsts P (call P n) I cond >>= λb=>if b=true then (ev P (call P n) I elt >>= λy=>R.ok (some y)) else R.ok none
 have h:=RE.bind' (show RE (walk P (call P n) Z it >>= λxs=>cL (f xs.2) xs.1 >>= λvs=>R.iff (decide (vs.length<=lim)) (R.ok (gU k caps xs.2 vs))) (Wn X RT Y old Z ZV H Q) from h);refine⟨S,h.mono λxs hx J H1 t1 s1 ok=>?_⟩;obtain⟨vs,evs,hv⟩:=(RE.bind' hx).eq;obtain⟨hl,hq⟩:=hv.iff;have hl:=of_decide_eq_true hl;have hq:Wn X RT Y old Z ZV H Q (gU k caps xs.2 vs):=hq;have S1:=S.grow s1 t1;have Sf:=S1.frz xs.2;refine⟨λi m ys q6 Hc=>m=xs.1.length-i/\i<=xs.1.length/\aG H1 Hc/\Tk X.K Hc/\Sx X.K (rtF RT Z ZV xs.2) Y old (ch0 k caps (freeze Z xs.2)) q6 Hc/\(∀j,k<=j->q6[j]? = (gI k caps ZV)[j]?) /\
  ∃ws rs,vs=ws++rs/\cL (f xs.2) (xs.1.drop i)=.ok rs/\Rvs X.K RT Y old Z ZV Hc (ws.map (lv k caps xs.2)) ys,⟨_,rfl,AS _,aG.refl _,t1,Sf.child w9,λ_ _=>rfl,[],vs,rfl,evs,rfl⟩,?_⟩
 rintro i m ys q6 Hc ⟨hm,hi,sc,tc,Sc,w4,ws,rs,g,q0,q2⟩;have q9:=ok.ok (λ_=>False) (λ_ z=>z.elim) i Hc (Kp.same sc);have q8:=q2.length;rw[lM] at q8;have z5:ws.length<=vs.length:=by rw[g,lA];omega
 by_cases G:i<xs.1.length;refine .inr ⟨q9.1 G,by rw[<-q8,BV];have:lim=1000000:=rfl;omega,λx H' hy=>?_⟩;have z0:xs.1[i]? = some xs.1[i]:=Ah G;obtain⟨sm,z4,rv⟩:=q9.2.2 x H' hy xs.1[i] z0;have rv:Rep X.K H' (exV RT Y old Z ZV xs.1[i].pa xs.1[i].al) xs.1[i].d x:=Rep.weak rv λa z=>.inl z;rw[DY G] at q0;obtain⟨yo,w0,U,q4,B⟩:=sH q0;obtain⟨I,q1,U⟩:=R.bind_ok U;obtain⟨b,eb,U⟩:=R.bind_ok U;have q5:xs.1[i]∈xs.1:=BD G;have w5:=ok.nofr _ q5;have rep:Rep X.K H' (λa=>rtF RT Z ZV xs.2 a\/exB Y old xs.1[i].pa a) xs.1[i].d x:=Rep.weak rv λa z=>by rcases z with z|z;exact .inl ⟨z.1,λq=>z.2 (q.mono (ok.sub _ q5))⟩;exact .inr z
 refine wG (Sc.grow sm (z4 tc)) w5 rep q1 λW S2 q7=>⟨_,_,_,I,S2,?_⟩
 rw[eb];intro H3 t3 s3;have L:∀j,k<=j->W[j]? = (gI k caps ZV)[j]? := λj M=>by rw[q7 j λz=>absurd (hk j z) (G3.mpr M),w4 j M]
 have q3:∀{H5:Hp},Sx X.K (rtF RT Z ZV xs.2) Y old I W H5->Sx X.K (rtF RT Z ZV xs.2) Y old (ch0 k caps (freeze Z xs.2)) W H5:=λ{H5} S5=>S5.forget (aAM q1).symm λj s hs=>by by_cases M:j∈tIx t;exact .inl (aAP (hk j M) hs);exact .inr (by rw[aAL q1 M];exact hs)
 cases b with
 | false=>rw[if_neg bN] at U ⊢;cases(show R.ok none=R.ok yo from U);have B:rs=w0:=B;subst B;exact⟨_,by omega,rfl,G,sc.trans (sm.trans s3),t3,q3 (S2.grow s3 t3),L,ws,rs,g,q4,q2.grow (sm.trans s3)⟩|true=>
  rw[if_pos rfl] at U ⊢;obtain⟨y,ey,U⟩:=R.bind_ok U;cases(show R.ok (some y)=R.ok yo from U);have B:rs=y::w0:=B;subst B;refine⟨_,_,_,I,S2.grow s3 t3,?_⟩;rw[ey];intro u H4 t4 w6;have s4:=w6.1;have z3:Rep X.K H4 (exV (rtF RT Z ZV xs.2) Y old I W y.pa y.al) y.d u:=w6.rv (S2.grow s3 t3);refine⟨_,by omega,rfl,G,sc.trans (sm.trans (s3.trans s4)),t4,q3 ((S2.grow s3 t3).grow s4 t4),L,ws++[y],w0,by rw[g];simp,q4,?_⟩;rw[BM];refine(q2.grow (sm.trans (s3.trans s4))).append ⟨u,[],rfl,?_,rfl⟩;show Rep X.K H4 (exV RT Y old Z ZV y.pa (xs.2++y.al.filterMap λj=>caps[j-k]?)) y.d u;refine z3.weak λc z=>?_;rcases z with⟨z1,z2⟩|z;refine .inl ⟨⟨z1,λq=>z2 (q.mono λj M=>AB _ M)⟩,λq=>z2 ?_⟩;obtain⟨j,M,⟨pa,ds,ho⟩,hV⟩:=q;have ho:=aAN w5 q1 ho;rcases ch0_get ho with z|⟨j',i',rfl,hc,hs⟩
  cases z;rw[L _ (EF _ _)] at hV;refine⟨i',As _ (BP.mpr ⟨k+j',M,by rw[Bf];exact hc⟩),⟨pa,ds,(dJ hs).1⟩,pS hc hV⟩;exact .inr z
 have w7:i=xs.1.length:=by omega
 subst w7;rw[Gi] at q0;cases(show R.ok []=R.ok rs from q0);rw[Bg] at g;subst g;refine .inl ⟨q9.2.1 (Ak _),by rw[<-q8];exact dA hl,λp hp t'=>hq _ _ t' ?_⟩;have w1:=S.grow (s1.trans sc) tc;have w3:(vs.map (lv k caps xs.2)).map (·.d)=vs.map (·.d):=by rw[AM];rfl
 have rr:Reps X.K Hc (exV RT Y old Z ZV (dM vs) (xs.2++(bM vs).filterMap λj=>caps[j-k]?)) (vs.map (·.d)) ys:=by rw[<-w3];refine q2.reps λv hv=>?_;obtain⟨w,hw,e⟩:=Ag.mp hv;subst e;refine⟨λz=>rX hw z,λj M=>?_⟩;rcases AO.mp M with z|z;exact AB _ z;obtain⟨j',w8,e⟩:=BP.mp z;exact As _ (BP.mpr ⟨j',jH hw j' w8,e⟩)
 unfold gU;split;rename_i hn;exact(Ro.fresh hp t' rfl rfl w1 (Reps.free _ _ hn rr)).from (s1.trans sc)
 exact(Ro.fresh hp t' rfl rfl w1 rr).from (s1.trans sc)
theorem aFg(M:Mc X P Γ n){k:Nat}{caps:List Nat}{t:T}{it:Hp.It}{cond:Es}{elt:E}{e B:A6}{L:List A6}{scope:DB}{N':List Str}(CS:bY X scope k caps N')(W:caps.Nodup)(hk:∀i∈tIx t,i<k)
 (hi:PI X tg B (wI X P n RT Y old Z it))
 (U:∀C s₀ H₀ ex,PG (cI X scope N' C s₀ H₀ ex) tg (gT X.K t)/\(∀RT Y old q,PTs (cI X scope N' C s₀ H₀ ex) L (wTs X P n RT Y old q cond))/\∀RT Y old q,PE (cI X scope N' C s₀ H₀ ex) e (WE X P n RT Y old q elt))
 (hs:∀x,Cu B X.env x=pure x):PE X (.ListComp e [⟨tg,B,L,0⟩] scope pos) (WE X P n RT Y old Z (.comp k caps t it cond elt)):=by refine(wB (g:=gT X.K t) (tt:=λZV H Q=>∃RT Y old q,wTs X P n RT Y old q cond ZV H Q) (te:=λZV H Q=>∃RT Y old q,WE X P n RT Y old q elt ZV H Q) CS M.calm hi (λC s₀ H₀ ex=>?_) hs).imp λZV H Q t0 G=>aAQ W hk G;obtain⟨h1,h2,h3⟩:=U C s₀ H₀ ex;exact⟨h1,λpins s ZV H Q I ⟨RT,Y,old,q,G⟩=>h2 RT Y old q pins s ZV H Q I G,λpins s ZV H Q I ⟨RT,Y,old,q,G⟩=>h3 RT Y old q pins s ZV H Q I G⟩
end
end Hp
namespace Ts
open PySem PyProof.Rows
noncomputable def aCJ:Bool->A9->Array A9->Nat->Nat->Nat->StateT Bk KH (Option Nat):=sortPriv% PySem.Builtin.gallop
noncomputable def aAR:Array A9->Array A9->StateT Bk KH (Array A9):=sortPriv% PySem.Builtin.mergeLo
noncomputable def aAS:Array A9->Array A9->StateT Bk KH (Array A9):=sortPriv% PySem.Builtin.mergeHi
section
variable {M:GE} {A:AJ} {E:Ad->Ac->Prop} {s:Ac} {r:A9->Nat} {D:A9->Prop} {κ:D2}
noncomputable def Cmp(M:GE)(A:AJ)(E:Ad->Ac->Prop)(s:Ac)(κ:D2)(D:A9->Prop)(r:A9->Nat):Prop:=
 ∀x y,D x->D y->∀(st:Bk) (Q:Option Bool->Bk->Prop),kindOf st=κ->Q (some (decide (r x<r y))) st->Jf M A E s (lt' x y) Q st
noncomputable def kr(r:A9->Nat)(xs:Array A9)(i:Nat):Nat:=match xs[i]? with|some p=>r p|none=>0
theorem aK{g:Array A9}{i:Nat}{p:A9}{Q:A9->Bk->Prop}{st:Bk}(h:g[i]? = some p)(q:Q p st):Jf M A E s (elem' g i) Q st:=by rw[elem'_eq,h];exact Az q
noncomputable def Bp(r:A9->Nat)(left:Bool)(key:A9)(arr:Array A9)(base i:Nat):Bool:=if left then decide (kr r arr (base+i)<r key) else !decide (r key<kr r arr (base+i))
theorem kr_at{xs:Array A9}{i:Nat}{p:A9}(h:xs[i]? = some p):kr r xs i=r p:=by unfold kr;rw[h]
theorem bL{xs:Array A9}{i:Nat}(h:i<xs.size):xs[i]? = some xs[i]:=AN h
theorem aCK(C:Cmp M A E s κ D r){g:Bool}{key:A9}{B:Array A9}{base i:Nat}{st:Bk}{Q:Option Bool->Bk->Prop}
 (I:kindOf st=κ) (L:∀(i:Nat) p,B[i]? = some p->D p) (G:D key) (hi:base+i<B.size) (q:Q (some (Bp r g key B base i)) st) :
 Jf M A E s (elem' B (base+i) >>= λx=>if g=true then lt' x key else lt' key x >>= λb=>pure (Option.map (λx=>!x) b)) Q st:=by
 have e:=bL hi;refine Ao (aK e ?_);have hd:=L _ _ e;unfold Bp at q;rw[kr_at e] at q;cases g with
 | true=>exact C _ _ hd G st _ I q|false=>exact Ao (C _ _ G hd st _ I (Az q))
theorem cT(C:Cmp M A E s κ D r){G:Bool}{key:A9}{U:Array A9}{base n L:Nat}{st:Bk}{Q:Option Nat->Bk->Prop}
 (hk:kindOf st=κ) (hD:∀(i:Nat) p,U[i]? = some p->D p) (q5:D key) (hn:base+n<=U.size) (hh:L<n)
 (mono:∀i j,i<j->j<n->kr r U (base+i)<=kr r U (base+j))
 (h:∀k,k<=n->(∀i,i<k->Bp r G key U base i=true)->(∀i,k<=i->i<n->Bp r G key U base i=false)->Q (some k) st) :
 Jf M A E s (aCJ G key U base n L) Q st:=by
 have dn:∀i j,i<=j->j<n->Bp r G key U base j=true->Bp r G key U base i=true:=λi j q4 hj b=>by rcases Ei q4 with q|q;have m:=mono i j q hj;unfold Bp at b ⊢;cases G;simp only[bF,if_false,Cd,Bq] at b ⊢;omega;simp only[if_true,Ax] at b ⊢;omega;rw[q];exact b
 have up:∀i j,i<=j->j<n->Bp r G key U base i=false->Bp r G key U base j=false:=λi j q4 hj b=>by
  cases q:Bp r G key U base j with
  | false=>rfl|true=>rw[dn i j q4 hj q] at b;cases b
 have B:∀{i:Nat} {Q:Option Bool->Bk->Prop},i<n->Q (some (Bp r G key U base i)) st->Jf M A E s _ Q st:=λ{i Q} hi q=>aCK C hk hD q5 (by omega) q;refine Ao (B hh ?_);dsimp -zeta only
 extract_lets jp
 have q1:∀a b lo hi,lo<=hi->hi<=n->(∀i,i<lo->Bp r G key U base i=true)->(∀i,hi<=i->i<n->Bp r G key U base i=false)->Jf M A E s (jp () a b lo hi) Q st:=by
  intro a b lo hi h1 h2 h3 h4;dsimp only[jp];refine Ao (BG (Bn (I:=λx (c:Option (Option Nat)×Nat×Nat) st'=>st'=st/\c.1=none/\c.2.1<=c.2.2/\c.2.2<=n/\c.2.2+x<=n+c.2.1/\(∀i,i<c.2.1->Bp r G key U base i=true)/\(∀i,c.2.2<=i->i<n->Bp r G key U base i=false))
   (Q:=λc st'=>st'=st/\c.1=none/\c.2.1=c.2.2/\c.2.2<=n/\(∀i,i<c.2.1->Bp r G key U base i=true)/\(∀i,c.2.2<=i->i<n->Bp r G key U base i=false)) ?step ?q1 ⟨rfl,rfl,h1,h2,by show hi+0<=n+lo;omega,h3,h4⟩) ?post)
  case post=>rintro ⟨c,lo,hi⟩ st' ⟨rfl,W,e,hl,b1,b2⟩;dsimp only at W e hl b1 b2 ⊢;subst W e;exact Az (h _ hl b1 b2)
  case q1=>rintro ⟨c,lo,hi⟩ st' ⟨rfl,W,e1,hl,hx,b1,b2⟩;dsimp only at W e1 hl hx b1 b2 ⊢;exact⟨rfl,W,by omega,hl,b1,b2⟩
  case step=>
   rintro x ⟨c,lo,hi⟩ st' _ q6 ⟨rfl,W,e1,hl,hx,b1,b2⟩;dsimp only at W e1 hl hx b1 b2 ⊢;subst W;by_cases g:lo ≥ hi;rw[if_pos g];exact Az ⟨rfl,rfl,by show lo=hi;omega,hl,b1,b2⟩;rw[if_neg g];refine Ao (B (i:=lo+(hi-lo) / 2) (by omega) ?_);cases q:Bp r G key U base (lo+(hi-lo) / 2) with
   | true=>dsimp only;rw[if_pos rfl];refine Az ⟨rfl,rfl,by dsimp only;omega,hl,by dsimp only;omega,λi q3=>?_,b2⟩;exact dn _ _ (by dsimp only at q3;omega) (by omega) q|false=>dsimp only;rw[if_neg bN];refine Az ⟨rfl,rfl,by dsimp only;omega,by dsimp only;omega,by dsimp only;omega,b1,λi q3 q2=>?_⟩;exact up _ _ (by dsimp only at q3;omega) q2 q
 cases q0:Bp r G key U base L with
 | true=>
  rw[if_pos rfl];refine Ao (BG (Bn (I:=λx (c:Option (Option Nat)×Nat×Nat) st'=>st'=st/\c.1=none/\c.2.1<c.2.2/\x+1<=c.2.2/\(c.2.1=0\/L+c.2.1<n)/\Bp r G key U base (L+c.2.1)=true)
   (Q:=λc st'=>st'=st/\c.1=none/\c.2.1<c.2.2/\L+c.2.1<n/\Bp r G key U base (L+c.2.1)=true/\(n<=L+c.2.2\/Bp r G key U base (L+c.2.2)=false)) ?step ?q1 ⟨rfl,rfl,by show 0<1;omega,by show 0+1<=1;omega,.inl rfl,q0⟩) ?post)
  case post=>rintro ⟨c,l,o⟩ st' ⟨rfl,W,e1,e2,e3,e4⟩;dsimp only at W e1 e2 e3 e4 ⊢;subst W;refine q1 l o _ _ (by omega) (by omega) (λi hi=>dn _ _ (by omega) e2 e3) λi hi q2=>?_;rcases e4 with e4|e4;omega;exact up _ _ (by omega) q2 e4
  case q1=>rintro ⟨c,l,o⟩ st' ⟨rfl,W,e1,e2,e3,e4⟩;dsimp only at W e1 e2 e3 e4 ⊢;exact⟨rfl,W,e1,by omega,e4,.inl (by omega)⟩
  case step=>
   rintro x ⟨c,l,o⟩ st' _ q6 ⟨rfl,W,e1,e2,e3,e4⟩;dsimp only at W e1 e2 e3 e4 ⊢;subst W;by_cases g:o ≥ n-L;rw[if_pos g];exact Az ⟨rfl,rfl,e1,by dsimp only;omega,e4,.inl (by dsimp only;omega)⟩;rw[if_neg g];refine Ao (B (i:=L+o) (by omega) ?_);cases q:Bp r G key U base (L+o) with
   | true=>dsimp only;rw[if_neg (by decide)];exact Az ⟨rfl,rfl,by dsimp only;omega,by dsimp only;omega,.inr (by dsimp only;omega),q⟩|false=>dsimp only;rw[if_pos (by decide)];exact Az ⟨rfl,rfl,e1,by dsimp only;omega,e4,.inr q⟩
 | false=>
  rw[if_neg bN];refine Ao (BG (Bn (I:=λx (c:Option (Option Nat)×Nat×Nat) st'=>st'=st/\c.1=none/\c.2.1<c.2.2/\x+1<=c.2.2/\c.2.1<=L/\Bp r G key U base (L-c.2.1)=false)
   (Q:=λc st'=>st'=st/\c.1=none/\c.2.1<c.2.2/\c.2.1<=L/\Bp r G key U base (L-c.2.1)=false/\(L<c.2.2\/Bp r G key U base (L-c.2.2)=true)) ?step ?q1 ⟨rfl,rfl,by show 0<1;omega,by show 0+1<=1;omega,AS _,q0⟩) ?post)
  case post=>rintro ⟨c,l,o⟩ st' ⟨rfl,W,e1,e2,e3,e4⟩;dsimp only at W e1 e2 e3 e4 ⊢;subst W;refine q1 l o _ _ (by omega) (by omega) (λi hi=>?_) λi hi q2=>up _ _ (by omega) q2 e3;rcases e4 with e4|e4;omega;exact dn _ _ (by omega) (by omega) e4
  case q1=>rintro ⟨c,l,o⟩ st' ⟨rfl,W,e1,e2,e3,e4⟩;dsimp only at W e1 e2 e3 e4 ⊢;exact⟨rfl,W,e1,e3,e4,.inl (by omega)⟩
  case step=>
   rintro x ⟨c,l,o⟩ st' _ q6 ⟨rfl,W,e1,e2,e3,e4⟩;dsimp only at W e1 e2 e3 e4 ⊢;subst W;by_cases g:o ≥ L+1;rw[if_pos g];exact Az ⟨rfl,rfl,e1,e3,e4,.inl (by dsimp only;omega)⟩;rw[if_neg g];refine Ao (B (i:=L-o) (by omega) ?_);cases q:Bp r G key U base (L-o) with
   | true=>dsimp only;rw[if_pos rfl];exact Az ⟨rfl,rfl,e1,e3,e4,.inr q⟩|false=>dsimp only;rw[if_neg bN];exact Az ⟨rfl,rfl,by dsimp only;omega,by dsimp only;omega,by dsimp only;omega,q⟩
end
noncomputable def Srt(r:A9->Nat)(l:List A9):Prop:=l.Pairwise λx y=>r x<=r y
structure J (r:A9->Nat) (la lb:List A9) (ia ib:Nat) (out:List A9):Prop where
 pm:out.Perm (la.take ia++lb.take ib)
 so:Srt r out
 oa:∀x∈out,∀y∈la.drop ia,r x<=r y
 ob:∀x∈out,∀y∈lb.drop ib,r x<=r y
section
variable {r:A9->Nat} {la lb out:List A9} {ia ib:Nat}
theorem eA{α:Type}(l:List α)(i k:Nat):l.take (i+k)=l.take i++(l.drop i).take k:=List.take_add
theorem J.a(j:J r la lb ia ib out)(hs:Srt r la)(k:Nat)(h:∀x∈(la.drop ia).take k,∀y∈lb.drop ib,r x<=r y):J r la lb (ia+k) ib (out++(la.drop ia).take k):=by
 have hd:Srt r ((la.drop ia).take k++(la.drop ia).drop k):=by rw[AV];exact F0 hs
 obtain⟨B,I,G⟩:=Bc.mp hd;refine⟨?_,Bc.mpr ⟨j.so,B,λx g y q=>j.oa x g y (BX q)⟩,λx g y q=>?_,λx g y q=>?_⟩;rw[eA,AG];exact(j.pm.append_right _).trans (by rw[AG];exact(AX.append_left _));rw[<-JF] at q;rcases AO.mp g with g|g;exact j.oa x g y (ER q);exact G x g y q;rcases AO.mp g with g|g;exact j.ob x g y q;exact h x g y q
theorem J.swap(j:J r la lb ia ib out):J r lb la ib ia out:=⟨j.pm.trans AX,j.so,j.ob,j.oa⟩
theorem J.b(j:J r la lb ia ib out)(hs:Srt r lb)(k:Nat)(h:∀x∈(lb.drop ib).take k,∀y∈la.drop ia,r x<=r y):J r la lb ia (ib+k) (out++(lb.drop ib).take k):=(j.swap.a hs k h).swap
theorem J.endB(j:J r la lb ia ib out)(hs:Srt r la)(g:lb.length<=ib):(out++la.drop ia).Perm (la++lb)/\Srt r (out++la.drop ia):=by refine⟨?_,Bc.mpr ⟨j.so,F0 hs,j.oa⟩⟩;have p:=j.pm;rw[Ce g] at p;refine(p.append_right _).trans ?_;rw[AG];refine(AX.append_left _).trans ?_;rw[<-AG,AV]
theorem J.endA(j:J r la lb ia ib out)(hs:Srt r lb)(B:∀x∈lb,∀y∈la.drop ia,r x<=r y)(I:la.length=ia+1):(out++lb.drop ib++la.drop ia).Perm (la++lb)/\Srt r (out++lb.drop ib++la.drop ia):=by
 refine⟨?_,?_⟩;refine((j.pm.append_right _).append_right _).trans ?_;rw[AG (la.take ia),AV,AG];refine(AX.append_left _).trans ?_;rw[<-AG,AV];refine Bc.mpr ⟨Bc.mpr ⟨j.so,F0 hs,j.ob⟩,?_,λx g y q=>?_⟩;have:(la.drop ia).length=1:=by rw[BC];omega
 obtain⟨z,G⟩:=List.length_eq_one_iff.mp this;rw[G];exact C1 _ _;rcases AO.mp g with g|g;exact j.oa x g y q;exact B x (ER g) y q
end
section
variable {M:GE} {A:AJ} {E:Ad->Ac->Prop} {s:Ac} {r:A9->Nat} {D:A9->Prop} {κ:D2}
noncomputable def dL(st st':Bk):Prop:=kindOf st'=kindOf st/\arrOf st'=arrOf st/\AC st'=AC st/\DK st'=DK st
theorem aD{α:Type}{m g:StateT Bk KH α}{Q:α->Bk->Prop}{st:Bk}(e:m=g)(h:Jf M A E s g Q st):Jf M A E s m Q st:=e▸h
theorem dL.rfl'(st:Bk):dL st st:=⟨rfl,rfl,rfl,rfl⟩
theorem dQ{xs:Array A9}{i:Nat}{p:A9}(h:xs[i]? = some p):(xs.toList.drop i).take 1=[p]:=by obtain⟨hi,e⟩:=Cf.mp h;rw[DY (by simpa using hi)];simp[e]
theorem gJ(xs:Array A9)(i k:Nat):(xs.extract i (i+k)).toList=(xs.toList.drop i).take k:=by rw[Hb,F1,JG,Bf]
theorem fS(xs:Array A9)(i:Nat):(xs.extract i xs.size).toList=xs.toList.drop i:=by rw[Hb,F1,JG,Ce (by simp)]
theorem hW{xs:Array A9}{i:Nat}{y:A9}(h:y∈xs.toList.drop i):∃j,i<=j/\j<xs.size/\xs[j]? = some y:=by
 obtain⟨j,g,e⟩:=ES.mp h;rw[Ix] at e;rw[BC] at g;have q:i+j<xs.size:=by simp at g;omega
 exact⟨i+j,by omega,q,by rw[AN q,<-e];simp⟩
theorem lO{xs:Array A9}{i k:Nat}{y:A9}(h:y∈(xs.toList.drop i).take k):∃j,j<k/\i+j<xs.size/\xs[i+j]? = some y:=by
 obtain⟨j,g,e⟩:=ES.mp h;rw[List.getElem_take,Ix] at e;rw[Bo,BC] at g;have q:i+j<xs.size:=by simp at g;omega
 exact⟨j,by omega,q,by rw[AN q,<-e];simp⟩
theorem iV{xs:Array A9}(h:Srt r xs.toList){i j:Nat}(g:i<=j)(B:j<xs.size):kr r xs i<=kr r xs j:=by rw[kr_at (bL (show i<xs.size by omega)),kr_at (bL B)];rcases Ei g with q|q;have:=Br.mp h i j (by simp;omega) (by simpa using B) q;simpa using this;subst q;exact Ak _
noncomputable def Rs(r:A9->Nat)(a b:Array A9)(st st':Bk)(c:Option (Array A9)):Prop:=∃res,c=some res/\dL st st'/\res.toList.Perm (a.toList++b.toList)/\Srt r res.toList
noncomputable def Gs(r:A9->Nat)(a b:Array A9)(st st':Bk)(c:Option (Array A9))(out:Array A9)(ia ib:Nat):Prop:=c=none/\dL st st'/\J r a.toList b.toList ia ib out.toList/\ia+1<a.size/\ib<b.size
section
variable {a b out:Array A9} {st st':Bk} {ia ib:Nat}
theorem wH(B:Srt r a.toList)(kp:dL st st')(j:J r a.toList b.toList ia ib out.toList)(e:ib=b.size):Rs r a b st st' (some (out++a.extract ia a.size++b.extract ib b.size)):=by obtain⟨g,q⟩:=j.endB B (by simp;omega);refine⟨_,rfl,kp,?_⟩;rw[AQ,AQ,fS,fS,e,Dy (i:=b.size) (by simp),Bg];exact⟨g,q⟩
theorem aFh(sb:Srt r b.toList)(kp:dL st st')(j:J r a.toList b.toList ia ib out.toList)(e:ia=a.size):Rs r a b st st' (some (out++a.extract ia a.size++b.extract ib b.size)):=by obtain⟨g,q⟩:=j.swap.endB sb (by simp;omega);refine⟨_,rfl,kp,?_⟩;rw[AQ,AQ,fS,fS,e,Dy (i:=a.size) (by simp),Bg];exact⟨g.trans AX,q⟩
theorem wJ(sb:Srt r b.toList)(B:∀x∈b.toList,r x<=kr r a (a.size-1))(kp:dL st st')(j:J r a.toList b.toList ia ib out.toList)(e:ia+1=a.size):Rs r a b st st' (some (out++b.extract ib b.size++a.extract ia a.size)):=by
 obtain⟨g,q⟩:=j.endA sb (λx G y I=>by
  obtain⟨k,U,W,L⟩:=hW I;have:=B x G;rw[show a.size-1=k by omega,kr_at L] at this;exact this) (by simp;omega)
 refine⟨_,rfl,kp,?_⟩;rw[AQ,AQ,fS,fS];exact⟨g,q⟩
theorem J.a1(j:J r a.toList b.toList ia ib out.toList)(B:Srt r a.toList){p:A9}(g:a[ia]? = some p)(h:∀y∈b.toList.drop ib,r p<=r y):J r a.toList b.toList (ia+1) ib (out.push p).toList:=by have:=j.a B 1 (by rw[dQ g];intro x q;rw[A3.mp q];exact h);rw[dQ g] at this;rw[CZ];exact this
theorem J.b1(j:J r a.toList b.toList ia ib out.toList)(sb:Srt r b.toList){p:A9}(g:b[ib]? = some p)(h:∀y∈a.toList.drop ia,r p<=r y):J r a.toList b.toList ia (ib+1) (out.push p).toList:=by have:=j.b sb 1 (by rw[dQ g];intro x q;rw[A3.mp q];exact h);rw[dQ g] at this;rw[CZ];exact this
theorem jY{xs:Array A9}(h:Srt r xs.toList){i m:Nat}(I:m<=kr r xs i):∀y∈xs.toList.drop i,m<=r y:=λy g=>by obtain⟨k,q,B,G⟩:=hW g;have:=iV h q B;rw[kr_at G] at this;omega
end
theorem sJ(C:Cmp M A E s κ D r){a b:Array A9}{st:Bk}{Q:Array A9->Bk->Prop}
 (hk:kindOf st=κ) (q9:∀(i:Nat) p,a[i]? = some p->D p) (w0:∀(i:Nat) p,b[i]? = some p->D p) (sa:Srt r a.toList) (sb:Srt r b.toList) (ha:0<a.size) (hb:0<b.size)
 (h0:∀y∈a.toList,kr r b 0<=r y) (hl:∀x∈b.toList,r x<=kr r a (a.size-1))
 (h:∀res st',dL st st'->res.toList.Perm (a.toList++b.toList)->Srt r res.toList->Q res st'):Jf M A E s (aAR a b) Q st:=by
 have q0:∀{c:Option (Array A9)} {st':Bk},Rs r a b st st' c->∃res,c=some res/\Q res st':=λ⟨res,e,k,p,q⟩=>⟨res,e,h res _ k p q⟩
 have e0:=bL hb;have j0:J r a.toList b.toList 0 1 #[b[0]].toList:=by
  have j:J r a.toList b.toList 0 0 []:=⟨by simp,Cc,by simp,by simp⟩
  have:=j.b sb 1 (by rw[dQ e0];intro x hx;rw[A3.mp hx];intro y hy;rw[E1] at hy;have:=h0 y hy;rwa [kr_at e0] at this);rw[dQ e0] at this;exact this
 refine Ao (Gj (CF ⟨rfl,?_⟩))
 extract_lets total done lastOfA ia ib
 refine Ao (aK e0 ?_)
 extract_lets out
 by_cases g1:1=b.size;rw[if_pos (by simpa[ib] using g1)];obtain⟨res,e,q⟩:=q0 (wH sa (dL.rfl' st) j0 g1);cases e;exact Az q;rw[if_neg (by simpa[ib] using g1)];by_cases g2:0+1=a.size;rw[if_pos (by simpa[ia] using g2)];obtain⟨res,e,q⟩:=q0 (wJ sb hl (dL.rfl' st) j0 g2);cases e;exact Az q;rw[if_neg (by simpa[ia] using g2)];refine Ao (Fm ?_);refine Ao (BG (Bn (I:=λx (c:Option (Array A9)×Array A9×Nat×Nat×Nat) st'=>Gs r a b st st' c.1 c.2.1 c.2.2.1 c.2.2.2.1/\x+1<=c.2.2.1+c.2.2.2.1)
  (Q:=λc st'=>Rs r a b st st' c.1) ?step ?q0 ⟨⟨rfl,dL.rfl' st,j0,by dsimp only;omega,by dsimp only;omega⟩,by dsimp only;omega⟩) ?post)
 case post=>rintro ⟨c,_⟩ st' q;obtain⟨res,e,q'⟩:=q0 q;dsimp only at e ⊢;subst e;exact Az q' 
 case q0=>rintro ⟨c,o,i,j,m⟩ st' ⟨⟨q1,q2,q3,q4,q5⟩,q6⟩;dsimp only[total] at q4 q5 q6;omega
 case step=>
  rintro x ⟨c,o,i,j,m⟩ w1 _ hx ⟨⟨q1,q2,q3,q4,q5⟩,q6⟩;dsimp only at q1 q2 q3 q4 q5 q6;subst q1;have w9:kindOf w1=κ:=q2.1.trans hk;have ht:total=a.size+b.size:=rfl;refine Ao (BG (Bn (I:=λx (c:Option (Array A9)×Array A9×Nat×Nat×Nat×Nat) st'=>st'=w1/\Gs r a b st st' c.1 c.2.1 c.2.2.1 c.2.2.2.1/\i+j+x<=c.2.2.1+c.2.2.2.1)
   (Q:=λc st'=>st'=w1/\(Rs r a b st st' c.1\/(Gs r a b st st' c.1 c.2.1 c.2.2.1 c.2.2.2.1/\i+j+1<=c.2.2.1+c.2.2.2.1))) ?step1 ?fin1 ⟨rfl,⟨rfl,q2,q3,q4,q5⟩,by dsimp only;omega⟩) ?post1)
  case fin1=>rintro ⟨c,o,i',j',ac,bc⟩ st' ⟨e,g,l⟩;exact⟨e,.inr ⟨g,by dsimp only at l ⊢;omega⟩⟩
  case step1=>rintro x' ⟨c,o,i',j',ac,bc⟩ st' _ z0 ⟨rfl,⟨W,_,G,c4,L⟩,l⟩;dsimp only at W G c4 L l;subst W;have ea:=bL (xs:=a) (i:=i') (by omega);have eb:=bL L;refine Ao (aK eb ?_);refine Ao (aK ea ?_);refine Ao (C _ _ (w0 _ _ eb) (q9 _ _ ea) _ _ w9 ?_);by_cases g:r b[j']<r a[i'];rw[Aw g];dsimp only;rw[if_pos rfl];refine Ao (aK eb ?_);have j1:=G.b1 sb eb (jY sa (i:=i') (by rw[kr_at ea];omega));by_cases g3:j'+1=b.size;rw[if_pos (by simpa using g3)];exact Az ⟨rfl,.inl (wH sa q2 j1 g3)⟩;rw[if_neg (by simpa using g3)];by_cases g4:bc+1 ≥ m;rw[if_pos g4];exact Az ⟨rfl,.inr ⟨⟨rfl,q2,j1,c4,by dsimp only;omega⟩,by dsimp only;omega⟩⟩;rw[if_neg g4];exact Az ⟨rfl,⟨rfl,q2,j1,c4,by dsimp only;omega⟩,by dsimp only;omega⟩;rw[Ar g];dsimp only;rw[if_neg bN];refine Ao (aK ea ?_);have j1:=G.a1 sa ea (jY sb (i:=j') (by rw[kr_at eb];omega));by_cases g3:i'+1+1=a.size;rw[if_pos (by simpa using g3)];exact Az ⟨rfl,.inl (wJ sb hl q2 j1 g3)⟩;rw[if_neg (by simpa using g3)];by_cases g4:ac+1 ≥ m;rw[if_pos g4];exact Az ⟨rfl,.inr ⟨⟨rfl,q2,j1,by dsimp only;omega,L⟩,by dsimp only;omega⟩⟩;rw[if_neg g4];exact Az ⟨rfl,⟨rfl,q2,j1,by dsimp only;omega,L⟩,by dsimp only;omega⟩
  case post1=>
   rintro ⟨c,o,i',j',ac,bc⟩ st' ⟨rfl,g⟩;rcases g with g|⟨⟨W,_,G,c4,L⟩,l⟩
   obtain⟨res,e,g'⟩:=g;dsimp only at e ⊢;subst e;exact Az ⟨res,rfl,g'⟩;dsimp only at W G c4 L l;subst W;refine Ao (Gj (CF ⟨rfl,?_⟩));refine Ao (BG (Bn (I:=λx (c:Option (Array A9)×Array A9×Nat×Nat×Nat×Nat×Nat) st'=>Gs r a b st st' c.1 c.2.1 c.2.2.1 c.2.2.2.1/\i+j+1<=c.2.2.1+c.2.2.2.1)
    (Q:=λc st'=>Rs r a b st st' c.1\/(Gs r a b st st' c.1 c.2.1 c.2.2.1 c.2.2.2.1/\i+j+1<=c.2.2.1+c.2.2.2.1)) ?step2 ?fin2 ⟨⟨rfl,q2,G,c4,L⟩,l⟩) ?post2)
   case fin2=>rintro ⟨c,o,i',j',ac,bc⟩ st' ⟨g,l⟩;exact .inr ⟨g,l⟩
   case post2=>
    rintro ⟨c,o,i',j',mg,ac,bc⟩ st' g;rcases g with g|⟨⟨W,k2,G,c4,L⟩,l⟩
    obtain⟨res,e,g'⟩:=g;dsimp only at e ⊢;subst e;exact Az ⟨res,rfl,g'⟩;dsimp only at W G c4 L l;subst W;refine Ao (DL ?_);exact Az ⟨⟨rfl,k2,G,c4,L⟩,by dsimp only;omega⟩
   case step2=>
    rintro x' ⟨c,o,i',j',mg,ac,bc⟩ st' _ z0 ⟨⟨W,k2,G,c4,L⟩,l⟩;dsimp only at W k2 G c4 L l;subst W;dsimp -zeta only
    extract_lets x1 x2 x3 x4 x5 x6 x7 x8 x9 x10 x11 x12 jp
    have w7:x12=j'+1:=rfl;have e2:x2=o:=rfl;have e4:x4=i':=rfl;have e6:x6=j':=rfl;have e8:x8=mg:=rfl;have z4:x11=bc:=rfl
    clear_value x12 x2 x4 x6 x8 x11
    subst w7 e2 e4 e6;have main:∀m',Jf M A E s (jp () m') (λr' st'=>match r' with
     | .done c=>Rs r a b st st' c.1\/(Gs r a b st st' c.1 c.2.1 c.2.2.1 c.2.2.2.1/\i+j+1<=c.2.2.1+c.2.2.2.1)|.yield c=>Gs r a b st st' c.1 c.2.1 c.2.2.1 c.2.2.2.1/\i+j+1<=c.2.2.1+c.2.2.2.1) st':=by
     intro m';dsimp -zeta only[jp];refine Ao (DL ?_);have eb:=bL L;refine Ao (aK eb ?_);refine Ao (cT C (k2.1.trans hk) q9 (w0 _ _ eb) (by omega) (by omega) (λi1 i2 B h2=>iV sa (by omega) (by omega)) λk z6 b1 b2=>?_);dsimp -zeta only
     extract_lets acount jp2
     have ja:=G.a sa k (λz hz y hy=>by
      obtain⟨n1,n2,n3,n4⟩:=lO hz;have B:=b1 n1 n2;unfold Bp at B;rw[kr_at n4] at B;simp only[bF,if_false,Cd,Bq] at B;exact jY sb (i:=x6) (by rw[kr_at eb];omega) y hy)
     have ka:∀y∈a.toList.drop (x4+k),r b[x6]<=r y:=λy hy=>by obtain⟨n1,n2,n3,n4⟩:=hW hy;have B:=b2 (n1-x4) (by omega) (by omega);unfold Bp at B;rw[show x4+(n1-x4)=n1 by omega,kr_at n4] at B;simp only[bF,if_false,F2,Ax] at B;omega
     have q7:∀U o' i2,dL st U->J r a.toList b.toList i2 x6 o'.toList->i2+1<a.size->i+j+1<=i2+x6->(∀y∈a.toList.drop i2,r b[x6]<=r y)->Jf M A E s (jp2 () o' i2) (λr' st'=>match r' with
      | .done c=>Rs r a b st st' c.1\/(Gs r a b st st' c.1 c.2.1 c.2.2.1 c.2.2.2.1/\i+j+1<=c.2.2.1+c.2.2.2.1)|.yield c=>Gs r a b st st' c.1 c.2.1 c.2.2.1 c.2.2.2.1/\i+j+1<=c.2.2.1+c.2.2.2.1) U:=by
      intro U o' i2 k3 jj z5 z7 w8;dsimp -zeta only[jp2];refine Ao (aK eb ?_);have j1:=jj.b1 sb eb w8
      extract_lets out'
      by_cases g3:x6+1=b.size;rw[if_pos (by simpa using g3)];exact Az (.inl (wH sa k3 j1 g3));rw[if_neg (by simpa using g3)];have ea:=bL (xs:=a) (i:=i2) (by omega);refine Ao (aK ea ?_);refine Ao (cT C (k3.1.trans hk) w0 (q9 _ _ ea) (by omega) (by omega) (λi1 i2 B h2=>iV sb (by omega) (by omega)) λk' z2 w5 w6=>?_);dsimp -zeta only
      extract_lets bcount jp3
      have jb:=j1.b sb k' (λz hz y hy=>by
       obtain⟨n1,n2,n3,n4⟩:=lO hz;have B:=w5 n1 n2;unfold Bp at B;rw[kr_at n4] at B;simp only[if_true,Ax] at B;exact jY sa (i:=i2) (by rw[kr_at ea];omega) y hy)
      have kb:∀y∈b.toList.drop (x6+1+k'),r a[i2]<=r y:=λy hy=>by obtain⟨n1,n2,n3,n4⟩:=hW hy;have B:=w6 (n1-(x6+1)) (by omega) (by omega);unfold Bp at B;rw[show x6+1+(n1-(x6+1))=n1 by omega,kr_at n4] at B;simp only[if_true,Bq] at B;omega
      have q8:∀o3 j3,J r a.toList b.toList i2 j3 o3.toList->j3<b.size->i+j+1<=i2+j3->(∀y∈b.toList.drop j3,r a[i2]<=r y)->Jf M A E s (jp3 () o3 j3) (λr' st'=>match r' with
       | .done c=>Rs r a b st st' c.1\/(Gs r a b st st' c.1 c.2.1 c.2.2.1 c.2.2.2.1/\i+j+1<=c.2.2.1+c.2.2.2.1)|.yield c=>Gs r a b st st' c.1 c.2.1 c.2.2.1 c.2.2.2.1/\i+j+1<=c.2.2.1+c.2.2.2.1) U:=by intro o3 j3 z1 w4 z3 w3;dsimp -zeta only[jp3];refine Ao (aK ea ?_);have j4:=z1.a1 sa ea w3;by_cases g4:i2+1+1=a.size;refine aD (if_pos (by simpa using g4)) ?_;exact Az (.inl (wJ sb hl k3 j4 g4));refine aD (if_neg (by simpa using g4)) ?_;by_cases g5:(decide (acount<7)&&decide (bcount<7))=true;refine aD (if_pos g5) ?_;exact Az (.inr ⟨⟨rfl,k3,j4,by dsimp only;omega,w4⟩,by dsimp only;omega⟩);refine aD (if_neg g5) ?_;exact Az ⟨⟨rfl,k3,j4,by dsimp only;omega,w4⟩,by dsimp only;omega⟩
      by_cases g6:k'>0;refine aD (if_pos g6) ?_;rw[<-gJ] at jb;rw[<-AQ] at jb;by_cases g7:x6+1+k'=b.size;refine aD (if_pos (by simpa using g7)) ?_;exact Az (.inl (wH sa k3 jb g7));refine aD (if_neg (by simpa using g7)) ?_;exact q8 _ _ jb (by omega) (by omega) kb;refine aD (if_neg g6) ?_;have:k'=0:=by omega
      subst this;exact q8 _ _ j1 (by omega) (by omega) kb
     by_cases g6:k>0;refine aD (if_pos g6) ?_;rw[<-gJ] at ja;rw[<-AQ] at ja;by_cases g7:x4+k+1=a.size;refine aD (if_pos (by simpa using g7)) ?_;exact Az (.inl (wJ sb hl k2 ja g7));refine aD (if_neg (by simpa using g7)) ?_;by_cases g8:x4+k=a.size;refine aD (if_pos (by simpa using g8)) ?_;exact Az (.inl (aFh sb k2 ja g8));refine aD (if_neg (by simpa using g8)) ?_;exact q7 _ _ _ k2 ja (by omega) (by omega) ka;refine aD (if_neg g6) ?_;have:k=0:=by omega
     subst this;exact q7 _ _ _ k2 G (by omega) (by omega) ka
    by_cases g:x8>1;refine aD (if_pos g) ?_;exact BG (main _) λr' U h=>by cases r' <;> exact h
    refine aD (if_neg g) ?_;exact BG (main _) λr' U h=>by cases r' <;> exact h
end
structure J2 (r:A9->Nat) (la lb:List A9) (na nb:Nat) (out:List A9):Prop where
 pm:out.Perm (la.drop na++lb.drop nb)
 so:Srt r out.reverse
 oa:∀x∈out,∀y∈la.take na,r y<=r x
 ob:∀x∈out,∀y∈lb.take nb,r y<=r x
section
variable {r:A9->Nat} {la lb out:List A9} {na nb:Nat}
theorem J2.swap(j:J2 r la lb na nb out):J2 r lb la nb na out:=⟨j.pm.trans AX,j.so,j.ob,j.oa⟩
theorem J2.a(j:J2 r la lb (m+k) nb out)(hs:Srt r la)(h:∀x∈(la.drop m).take k,∀y∈lb.take nb,r y<=r x):J2 r la lb m nb (out++((la.drop m).take k).reverse):=by
 have hd:Srt r (la.take m++la.drop m):=by rw[AV];exact hs
 obtain⟨I,B,G⟩:=Bc.mp hd;have sub:∀x∈(la.drop m).take k,x∈la.take (m+k):=λx g=>by rw[eA];exact As _ g
 refine⟨?_,?_,λx g y q=>?_,λx g y q=>?_⟩;have e:la.drop m=(la.drop m).take k++la.drop (m+k):=by rw[<-JF,AV]
 refine(j.pm.append_right _).trans ?_;refine(BK _ (FM _)).trans ?_;rw[AG];refine(BK _ AX).trans ?_;rw[<-AG];refine G7 _ ?_;refine AX.trans ?_;rw[<-e];rw[List.reverse_append,List.reverse_reverse];exact Bc.mpr ⟨F3 B,j.so,λx g y q=>j.oa y (Dn.mp q) x (sub x g)⟩;rcases AO.mp g with g|g;exact j.oa x g y (by rw[eA];exact AB _ q);exact G y q x (BX (Dn.mp g));rcases AO.mp g with g|g;exact j.ob x g y q;exact h x (Dn.mp g) y q
theorem J2.b(j:J2 r la lb na (m+k) out)(hs:Srt r lb)(h:∀x∈(lb.drop m).take k,∀y∈la.take na,r y<=r x):J2 r la lb na m (out++((lb.drop m).take k).reverse):=(j.swap.a hs h).swap
theorem J2.end(j:J2 r la lb 0 nb out)(hs:Srt r lb):(lb.take nb++out.reverse).Perm (la++lb)/\Srt r (lb.take nb++out.reverse):=by refine⟨?_,Bc.mpr ⟨F3 hs,j.so,λx g y q=>j.ob y (Dn.mp q) x g⟩⟩;refine(BK _ ((FM _).trans j.pm)).trans ?_;rw[E1,<-AG];refine(G7 _ AX).trans ?_;rw[AG,AV]
theorem J2.one(j:J2 r la lb na 1 out)(hs:Srt r la)(B:∀x∈lb.take 1,∀y∈la,r x<=r y):(lb.take 1++la.take na++out.reverse).Perm (la++lb)/\Srt r (lb.take 1++la.take na++out.reverse):=by
 refine⟨?_,Bc.mpr ⟨Bc.mpr ⟨?_,F3 hs,λx g y q=>B x g y (BX q)⟩,j.so,λx g y q=>?_⟩⟩;refine(BK _ ((FM _).trans j.pm)).trans ?_;refine Jn (l₂:=(la.take na++la.drop na)++(lb.take 1++lb.drop 1)) ?_ (by rw[AV,AV]);rw[AG (la.take na),AG];refine AX.trans ?_;rw[AG,AG];exact BK _ (BK _ AX);cases lb with
 | nil=>exact Cc|cons z G=>exact C1 _ _
 rcases AO.mp g with g|g;exact j.ob y (Dn.mp q) x g;exact j.oa y (Dn.mp q) x g
end
section
variable {M:GE} {A:AJ} {E:Ad->Ac->Prop} {s:Ac} {r:A9->Nat} {D:A9->Prop} {κ:D2}
theorem yN(xs:Array A9)(k:Nat):(xs.extract 0 k).toList=xs.toList.take k:=by have:=gJ xs 0 k;rw[DV] at this;rw[this,E1]
theorem hX{xs:Array A9}{k:Nat}{y:A9}(h:y∈xs.toList.take k):∃j,j<k/\j<xs.size/\xs[j]? = some y:=by
 have h:y∈(xs.toList.drop 0).take k:=by rw[E1];exact h
 obtain⟨j,B,g,q⟩:=lO h;rw[DV] at g q;exact⟨j,B,g,q⟩
theorem jZ{xs:Array A9}(h:Srt r xs.toList){i m k:Nat}(hi:i<xs.size)(B:k<=i+1)(G:kr r xs i<=m):∀y∈xs.toList.take k,r y<=m:=λy g=>by obtain⟨j,I,L,q⟩:=hX g;have:=iV h (i:=j) (j:=i) (by omega) hi;rw[kr_at q] at this;omega
noncomputable def G2(r:A9->Nat)(a b:Array A9)(st st':Bk)(c:Option (Array A9))(out:Array A9)(na nb:Nat):Prop:=c=none/\dL st st'/\J2 r a.toList b.toList na nb out.toList/\0<na/\1<nb/\na<=a.size/\nb<=b.size
section
variable {a b out:Array A9} {st st':Bk} {na nb:Nat}
theorem pT(sb:Srt r b.toList)(kp:dL st st')(j:J2 r a.toList b.toList na nb out.toList)(e:na=0):Rs r a b st st' (some (a.extract 0 na++b.extract 0 nb++out.reverse)):=by subst e;obtain⟨g,q⟩:=j.end sb;refine⟨_,rfl,kp,?_⟩;rw[AQ,AQ,yN,yN,Ha,Dz,Da];exact⟨g,q⟩
theorem aFi(B:Srt r a.toList)(kp:dL st st')(j:J2 r a.toList b.toList na nb out.toList)(e:nb=0):Rs r a b st st' (some (a.extract 0 na++b.extract 0 nb++out.reverse)):=by subst e;obtain⟨g,q⟩:=j.swap.end B;refine⟨_,rfl,kp,?_⟩;rw[AQ,AQ,yN,yN,Ha,Bg,Da];exact⟨g.trans AX,q⟩
theorem pU(L:Srt r a.toList)(h0:∀y∈a.toList,kr r b 0<=r y)(kp:dL st st')(j:J2 r a.toList b.toList na nb out.toList)(e:nb=1):Rs r a b st st' (some (b.extract 0 nb++a.extract 0 na++out.reverse)):=by
 subst e;obtain⟨g,q⟩:=j.one L λx B y G=>by obtain⟨k,U,W,I⟩:=hX B;have:=h0 y G;rw[show(0:Nat)=k by omega,kr_at I] at this;exact this
 refine⟨_,rfl,kp,?_⟩;rw[AQ,AQ,yN,yN,Da];exact⟨g,q⟩
theorem J2.a1(j:J2 r a.toList b.toList (na+1) nb out.toList)(B:Srt r a.toList){p:A9}(g:a[na]? = some p)(h:∀y∈b.toList.take nb,r y<=r p):J2 r a.toList b.toList na nb (out.push p).toList:=by have:=j.a B (by rw[dQ g];intro x q;rw[A3.mp q];exact h);rw[dQ g] at this;rw[CZ];exact this
theorem J2.b1(j:J2 r a.toList b.toList na (nb+1) out.toList)(sb:Srt r b.toList){p:A9}(g:b[nb]? = some p)(h:∀y∈a.toList.take na,r y<=r p):J2 r a.toList b.toList na nb (out.push p).toList:=by have:=j.b sb (by rw[dQ g];intro x q;rw[A3.mp q];exact h);rw[dQ g] at this;rw[CZ];exact this
end
theorem sK(C:Cmp M A E s κ D r){a b:Array A9}{st:Bk}{Q:Array A9->Bk->Prop}
 (hk:kindOf st=κ) (w1:∀(i:Nat) p,a[i]? = some p->D p) (w3:∀(i:Nat) p,b[i]? = some p->D p) (W:Srt r a.toList) (sb:Srt r b.toList) (ha:0<a.size) (hb:0<b.size)
 (h0:∀y∈a.toList,kr r b 0<=r y) (hl:∀x∈b.toList,r x<=kr r a (a.size-1))
 (h:∀res st',dL st st'->res.toList.Perm (a.toList++b.toList)->Srt r res.toList->Q res st'):Jf M A E s (aAS a b) Q st:=by
 have q0:∀{c:Option (Array A9)} {st':Bk},Rs r a b st st' c->∃res,c=some res/\Q res st':=λ⟨res,e,k,p,q⟩=>⟨res,e,h res _ k p q⟩
 have e0:=bL (xs:=a) (i:=a.size-1) (by omega);have j0:J2 r a.toList b.toList (a.size-1) b.size #[a[a.size-1]].toList:=by
  have j:J2 r a.toList b.toList (a.size-1+1) b.size #[].toList:=⟨by rw[Nat.sub_add_cancel ha,Dy (by simp),Dy (by simp)];simp,Cc,by simp,by simp⟩
  exact j.a1 W e0 λy hy=>by have:=hl y (BX hy);rwa [kr_at e0] at this
 refine Ao (Gj (CF ⟨rfl,?_⟩))
 extract_lets total done firstOfB na nb
 refine Ao (aK e0 ?_)
 extract_lets out
 by_cases g1:a.size-1=0;refine aD (if_pos (by simpa[na] using g1)) ?_;obtain⟨res,e,q⟩:=q0 (pT sb (dL.rfl' st) j0 g1);cases e;exact Az q;refine aD (if_neg (by simpa[na] using g1)) ?_;by_cases g2:b.size=1;refine aD (if_pos (by simpa[nb] using g2)) ?_;obtain⟨res,e,q⟩:=q0 (pU W h0 (dL.rfl' st) j0 g2);cases e;exact Az q;refine aD (if_neg (by simpa[nb] using g2)) ?_;refine Ao (Fm ?_);refine Ao (BG (Bn (I:=λx (c:Option (Array A9)×Nat×Nat×Array A9×Nat) st'=>G2 r a b st st' c.1 c.2.2.2.1 c.2.1 c.2.2.1/\c.2.1+c.2.2.1+x+1<=a.size+b.size)
  (Q:=λc st'=>Rs r a b st st' c.1) ?step ?q0 ⟨⟨rfl,dL.rfl' st,j0,by dsimp only[na];omega,by dsimp only[nb];omega,by dsimp only[na];omega,by dsimp only[nb];omega⟩,by dsimp only[na,nb];omega⟩) ?post)
 case post=>rintro ⟨c,_⟩ st' q;obtain⟨res,e,q'⟩:=q0 q;dsimp only at e ⊢;subst e;exact Az q'
 case q0=>rintro ⟨c,i,j,o,m⟩ st' ⟨⟨q1,q2,q3,q4,q5,q7,q8⟩,q6⟩;dsimp only[total] at q4 q5 q6;omega
 case step=>
  rintro x ⟨c,i,j,o,m⟩ w4 _ hx ⟨⟨q1,q2,q3,q4,q5,q7,q8⟩,q6⟩;dsimp only at q1 q2 q3 q4 q5 q6 q7 q8;subst q1;have z6:kindOf w4=κ:=q2.1.trans hk;have ht:total=a.size+b.size:=rfl;refine Ao (BG (Bn (I:=λx (c:Option (Array A9)×Nat×Nat×Array A9×Nat×Nat) st'=>st'=w4/\G2 r a b st st' c.1 c.2.2.2.1 c.2.1 c.2.2.1/\c.2.1+c.2.2.1+x<=i+j)
   (Q:=λc st'=>st'=w4/\(Rs r a b st st' c.1\/(G2 r a b st st' c.1 c.2.2.2.1 c.2.1 c.2.2.1/\c.2.1+c.2.2.1+1<=i+j))) ?step1 ?fin1 ⟨rfl,⟨rfl,q2,q3,q4,q5,q7,q8⟩,by dsimp only;omega⟩) ?post1)
  case fin1=>rintro ⟨c,i',j',o,ac,bc⟩ st' ⟨e,g,l⟩;exact⟨e,.inr ⟨g,by dsimp only at l ⊢;omega⟩⟩
  case step1=>
   rintro x' ⟨c,i',j',o,ac,bc⟩ st' _ z7 ⟨rfl,⟨c1,_,L,c4,c5,c6,c7⟩,l⟩;dsimp only at c1 L c4 c5 c6 c7 l;subst c1;obtain⟨i0,rfl⟩:∃n,i'=n+1:=⟨i'-1,by omega⟩
   obtain⟨G,rfl⟩:∃n,j'=n+1:=⟨j'-1,by omega⟩
   have ea:=bL (xs:=a) (i:=i0) (by omega);have eb:=bL (xs:=b) (i:=G) (by omega);refine Ao (aK eb ?_);refine Ao (aK ea ?_);refine Ao (C _ _ (w3 _ _ eb) (w1 _ _ ea) _ _ z6 ?_);by_cases g:r b[G]<r a[i0];rw[Aw g];dsimp only;rw[if_pos rfl];refine Ao (aK ea ?_);have j1:=L.a1 W ea (jZ sb (i:=G) (by omega) (by omega) (by rw[kr_at eb];omega));by_cases g3:i0=0;refine aD (if_pos (by simpa using g3)) ?_;exact Az ⟨rfl,.inl (pT sb q2 j1 g3)⟩;refine aD (if_neg (by simpa using g3)) ?_;by_cases g4:ac+1 ≥ m;refine aD (if_pos g4) ?_;exact Az ⟨rfl,.inr ⟨⟨rfl,q2,j1,by dsimp only;omega,c5,by dsimp only;omega,c7⟩,by dsimp only;omega⟩⟩;refine aD (if_neg g4) ?_;exact Az ⟨rfl,⟨rfl,q2,j1,by dsimp only;omega,c5,by dsimp only;omega,c7⟩,by dsimp only;omega⟩;rw[Ar g];dsimp only;rw[if_neg bN];refine Ao (aK eb ?_);have j1:=L.b1 sb eb (jZ W (i:=i0) (by omega) (by omega) (by rw[kr_at ea];omega));by_cases g3:G=1;refine aD (if_pos (by simpa using g3)) ?_;exact Az ⟨rfl,.inl (pU W h0 q2 j1 g3)⟩;refine aD (if_neg (by simpa using g3)) ?_;by_cases g4:bc+1 ≥ m;refine aD (if_pos g4) ?_;exact Az ⟨rfl,.inr ⟨⟨rfl,q2,j1,c4,by dsimp only;omega,c6,by dsimp only;omega⟩,by dsimp only;omega⟩⟩;refine aD (if_neg g4) ?_;exact Az ⟨rfl,⟨rfl,q2,j1,c4,by dsimp only;omega,c6,by dsimp only;omega⟩,by dsimp only;omega⟩
  case post1=>
   rintro ⟨c,i',j',o,ac,bc⟩ st' ⟨rfl,g⟩;rcases g with g|⟨⟨c1,_,L,c4,c5,c6,c7⟩,l⟩
   obtain⟨res,e,g'⟩:=g;dsimp only at e ⊢;subst e;exact Az ⟨res,rfl,g'⟩;dsimp only at c1 L c4 c5 c6 c7 l;subst c1;refine Ao (Gj (CF ⟨rfl,?_⟩));refine Ao (BG (Bn (I:=λx (c:Option (Array A9)×Nat×Nat×Array A9×Nat×Nat×Nat) st'=>G2 r a b st st' c.1 c.2.2.2.1 c.2.1 c.2.2.1/\c.2.1+c.2.2.1+1<=i+j)
    (Q:=λc st'=>Rs r a b st st' c.1\/(G2 r a b st st' c.1 c.2.2.2.1 c.2.1 c.2.2.1/\c.2.1+c.2.2.1+1<=i+j)) ?step2 ?fin2 ⟨⟨rfl,q2,L,c4,c5,c6,c7⟩,l⟩) ?post2)
   case fin2=>rintro ⟨c,i',j',o,ac,bc⟩ st' ⟨g,l⟩;exact .inr ⟨g,l⟩
   case post2=>
    rintro ⟨c,i',j',o,mg,ac,bc⟩ st' g;rcases g with g|⟨⟨c1,k2,L,c4,c5,c6,c7⟩,l⟩
    obtain⟨res,e,g'⟩:=g;dsimp only at e ⊢;subst e;exact Az ⟨res,rfl,g'⟩;dsimp only at c1 L c4 c5 c6 c7 l;subst c1;refine Ao (DL ?_);exact Az ⟨⟨rfl,k2,L,c4,c5,c6,c7⟩,by dsimp only;omega⟩
   case step2=>
    rintro x' ⟨c,i',j',o,mg,ac,bc⟩ st' _ z7 ⟨⟨c1,k2,L,c4,c5,c6,c7⟩,l⟩;dsimp only at c1 k2 L c4 c5 c6 c7 l;subst c1;obtain⟨i0,rfl⟩:∃n,i'=n+1:=⟨i'-1,by omega⟩
    obtain⟨G,rfl⟩:∃n,j'=n+1:=⟨j'-1,by omega⟩
    dsimp -zeta only
    extract_lets x1 x2 x3 x4 x5 x6 x7 x8 x9 x10 x11 x12 jp
    have z3:x12=G:=rfl;have e2:x2=i0+1:=rfl;have e4:x4=G+1:=rfl;have e6:x6=o:=rfl;have e8:x8=mg:=rfl;have v1:x11=bc:=rfl
    clear_value x12 x2 x4 x6 x8 x11
    subst z3 e2 e4 e6;have main:∀m',Jf M A E s (jp () m') (λr' st'=>match r' with
     | .done c=>Rs r a b st st' c.1\/(G2 r a b st st' c.1 c.2.2.2.1 c.2.1 c.2.2.1/\c.2.1+c.2.2.1+1<=i+j)|.yield c=>G2 r a b st st' c.1 c.2.2.2.1 c.2.1 c.2.2.1/\c.2.1+c.2.2.1+1<=i+j) st':=by
     intro m';dsimp -zeta only[jp];refine Ao (DL ?_);have eb:=bL (xs:=b) (i:=x12) (by omega);refine Ao (aK eb ?_);refine Ao (cT C (k2.1.trans hk) w1 (w3 _ _ eb) (by omega) (by omega) (λi1 i2 B h2=>iV W (by omega) (by omega)) λk v5 b1 b2=>?_);dsimp -zeta only
     extract_lets kk acount jp2
     have v4:kk=i0+1-k:=rfl
     clear_value kk
     have ek:i0+1=k+kk:=by omega
     have ja:=(ek▸L).a W (λz hz y hy=>by
      obtain⟨n1,n2,n3,n4⟩:=lO hz;have B:=b2 (k+n1) (by omega) (by omega);unfold Bp at B;rw[DV,kr_at n4] at B;simp only[bF,if_false,F2,Ax] at B;exact jZ sb (i:=x12) (by omega) (by omega) (by rw[kr_at eb];omega) y hy)
     have ka:∀y∈a.toList.take k,r y<=r b[x12]:=λy hy=>by obtain⟨n1,n2,n3,n4⟩:=hX hy;have B:=b1 n1 n2;unfold Bp at B;rw[DV,kr_at n4] at B;simp only[bF,if_false,Cd,Bq] at B;omega
     have q9:∀U i2 o',dL st U->J2 r a.toList b.toList i2 (x12+1) o'.toList->0<i2->i2<=a.size->i2+(x12+1)+1<=i+j->(∀y∈a.toList.take i2,r y<=r b[x12])->Jf M A E s (jp2 () i2 o') (λr' st'=>match r' with
      | .done c=>Rs r a b st st' c.1\/(G2 r a b st st' c.1 c.2.2.2.1 c.2.1 c.2.2.1/\c.2.1+c.2.2.1+1<=i+j)|.yield c=>G2 r a b st st' c.1 c.2.2.2.1 c.2.1 c.2.2.1/\c.2.1+c.2.2.1+1<=i+j) U:=by
      intro U i2 o' k3 jj v2 v3 v6 z5;dsimp -zeta only[jp2];refine Ao (aK eb ?_);have j1:=jj.b1 sb eb z5;by_cases g3:x12=1;refine aD (if_pos (by simpa using g3)) ?_;exact Az (.inl (pU W h0 k3 j1 g3));refine aD (if_neg (by simpa using g3)) ?_;obtain⟨i3,rfl⟩:∃n,i2=n+1:=⟨i2-1,by omega⟩
      have ea:=bL (xs:=a) (i:=i3) (by omega);refine Ao (aK ea ?_);refine Ao (cT C (k3.1.trans hk) w3 (w1 _ _ ea) (by omega) (by omega) (λi1 i2 B h2=>iV sb (by omega) (by omega)) λk' x0 z1 z2=>?_);dsimp -zeta only
      extract_lets kk' bcount x3a jp3
      have z4:i3=x3a:=rfl
      clear_value x3a
      subst z4;have z9:kk'=x12-k':=rfl
      clear_value kk'
      have w5:x12=k'+kk':=by omega
      have jb:=(show J2 r a.toList b.toList (i3+1) (k'+kk') (o'.push b[x12]).toList by rw[<-w5];exact j1).b sb (λz hz y hy=>by
       obtain⟨n1,n2,n3,n4⟩:=lO hz;have B:=z2 (k'+n1) (by omega) (by omega);unfold Bp at B;rw[DV,kr_at n4] at B;simp only[if_true,Bq] at B;exact jZ W (i:=i3) (by omega) (by omega) (by rw[kr_at ea];omega) y hy)
      have kb:∀y∈b.toList.take k',r y<=r a[i3]:=λy hy=>by obtain⟨n1,n2,n3,n4⟩:=hX hy;have B:=z1 n1 n2;unfold Bp at B;rw[DV,kr_at n4] at B;simp only[if_true,Ax] at B;omega
      have w0:∀j3 o3,J2 r a.toList b.toList (i3+1) j3 o3.toList->1<j3->j3<=b.size->i3+j3+1<=i+j->(∀y∈b.toList.take j3,r y<=r a[i3])->Jf M A E s (jp3 () j3 o3) (λr' st'=>match r' with
       | .done c=>Rs r a b st st' c.1\/(G2 r a b st st' c.1 c.2.2.2.1 c.2.1 c.2.2.1/\c.2.1+c.2.2.1+1<=i+j)|.yield c=>G2 r a b st st' c.1 c.2.2.2.1 c.2.1 c.2.2.1/\c.2.1+c.2.2.1+1<=i+j) U:=by intro j3 o3 z8 w9 z0 v0 w8;dsimp -zeta only[jp3];refine Ao (aK ea ?_);have j4:=z8.a1 W ea w8;by_cases g4:i3=0;refine aD (if_pos (by simpa using g4)) ?_;exact Az (.inl (pT sb k3 j4 g4));refine aD (if_neg (by simpa using g4)) ?_;by_cases g5:(decide (acount<7)&&decide (bcount<7))=true;refine aD (if_pos g5) ?_;exact Az (.inr ⟨⟨rfl,k3,j4,by dsimp only;omega,w9,by dsimp only;omega,z0⟩,by dsimp only;omega⟩);refine aD (if_neg g5) ?_;exact Az ⟨⟨rfl,k3,j4,by dsimp only;omega,w9,by dsimp only;omega,z0⟩,by dsimp only;omega⟩
      have w6:((b.toList.drop k').take kk').reverse=((b.extract k' x12).reverse).toList:=by rw[Da,w5,gJ]
      by_cases g6:kk'>0;refine aD (if_pos g6) ?_;rw[w6,<-AQ] at jb;by_cases g7:k'=1;refine aD (if_pos (by simpa using g7)) ?_;exact Az (.inl (pU W h0 k3 jb g7));refine aD (if_neg (by simpa using g7)) ?_;by_cases g8:k'=0;refine aD (if_pos (by simpa using g8)) ?_;exact Az (.inl (aFi W k3 jb g8));refine aD (if_neg (by simpa using g8)) ?_;exact w0 _ _ jb (by omega) (by omega) (by omega) kb;refine aD (if_neg g6) ?_;have e:k'=x12:=by omega
      exact w0 _ _ j1 (by omega) (by omega) (by omega) (e▸kb)
     have w7:((a.toList.drop k).take kk).reverse=((a.extract k (i0+1)).reverse).toList:=by rw[Da,ek,gJ]
     by_cases g6:kk>0;refine aD (if_pos g6) ?_;rw[w7,<-AQ] at ja;by_cases g7:k=0;refine aD (if_pos (by simpa using g7)) ?_;exact Az (.inl (pT sb k2 ja g7));refine aD (if_neg (by simpa using g7)) ?_;exact q9 _ _ _ k2 ja (by omega) (by omega) (by omega) ka;refine aD (if_neg g6) ?_;have e:k=i0+1:=by omega
     exact q9 _ _ _ k2 L (by omega) (by omega) (by omega) (e▸ka)
    by_cases g:x8>1;refine aD (if_pos g) ?_;exact BG (main _) λr' U h=>by cases r' <;> exact h
    refine aD (if_neg g) ?_;exact BG (main _) λr' U h=>by cases r' <;> exact h
noncomputable def Sg(r:A9->Nat)(xs:Array A9)(lo hi:Nat):Prop:=∀i j,lo<=i->i<=j->j<hi->kr r xs i<=kr r xs j
noncomputable def wr(base:Nat)(xs:Array A9)(m:List A9)(j:Nat):Array A9:=(m.zipIdx j).foldl (λa q=>a.setIfInBounds (base+q.2) q.1) xs
theorem aAT(base:Nat):∀(m:List A9) (j:Nat) (xs:Array A9) (k:Nat),base+j+m.length<=xs.size->(wr base xs m j)[k]? = if base+j<=k/\k<base+j+m.length then m[k-(base+j)]? else xs[k]?
 | [],j,xs,k,_=>by rw[if_neg (by rw[lN];omega)];rfl|p::m,j,xs,k,h=>by
  rw[lC] at h ⊢;show(wr base (xs.setIfInBounds (base+j) p) m (j+1))[k]? = _;rw[aAT base m (j+1) _ k (by rw[FY];omega)];by_cases g:k=base+j;subst g;rw[if_neg (by omega),if_pos (by omega),K3,Array.getElem?_setIfInBounds_self,if_pos (by omega)];rfl;by_cases q:base+j<=k/\k<base+j+(m.length+1)
  rw[if_pos (by omega),if_pos q];obtain⟨z,rfl⟩:∃z,k=base+(j+1)+z:=⟨k-(base+(j+1)),by omega⟩
  rw[Bf,show base+(j+1)+z-(base+j)=z+1 by omega,gS];rw[if_neg (by omega),if_neg q,Array.getElem?_setIfInBounds_ne (by omega)]
theorem aCL{base:Nat}{m:List A9}{xs:Array A9}(h:base+m.length<=xs.size):(wr base xs m 0).toList=xs.toList.take base++m++xs.toList.drop (base+m.length):=by
 apply Iy;intro k;rw[AT,aAT base m 0 xs k (by omega),Iz];have q:(xs.toList.take base).length=base:=by simp;omega
 by_cases g:base<=k/\k<base+m.length;rw[if_pos g,AG,AD (by omega),q,AE (by omega)];rw[if_neg g];by_cases B:k<base;rw[AG,AE (by omega),F4,if_pos B,AT];rw[AD (by rw[lA];omega),lA,q,Ej,show base+m.length+(k-(base+m.length))=k by omega,AT]
theorem Sg.srt{xs:Array A9}{lo hi:Nat}(h:Sg r xs lo hi)(L:hi<=xs.size):Srt r (xs.extract lo hi).toList:=by
 refine Br.mpr λi j B I G=>?_;have g:lo+j<hi:=by simp at I;omega
 have q:=h (lo+i) (lo+j) (by omega) (by omega) g;rw[kr_at (bL (show lo+i<xs.size by omega)),kr_at (bL (show lo+j<xs.size by omega))] at q;simpa using q
theorem wK{xs:Array A9}{lo hi:Nat}{p:A9}(h:p∈(xs.extract lo hi).toList):∃j,lo<=j/\j<hi/\j<xs.size/\xs[j]? = some p:=by
 obtain⟨j,q,e⟩:=ES.mp h;have g:lo+j<hi/\lo+j<xs.size:=by simp at q;omega
 exact⟨lo+j,by omega,g.1,g.2,by rw[bL g.2,<-e];simp⟩
theorem aCM{x st:Bk}{Q:PUnit->Bk->Prop}(h:Q ⟨⟩ x):Jf M A E s (set x:StateT Bk KH PUnit) Q st:=by unfold Jf;rw[StateT.run_set];exact Ab ⟨rfl,h⟩
structure Md (r:A9->Nat) (st st':Bk) (lo hi:Nat):Prop where
 kd:kindOf st'=kindOf st
 fl:DK st'=DK st
 pm:(arrOf st').toList.Perm (arrOf st).toList
 out:∀k,k<lo\/hi<=k->(arrOf st')[k]? = (arrOf st)[k]?
 sg:Sg r (arrOf st') lo hi
theorem sL(C:Cmp M A E s κ D r){st:Bk}{i s1 B n2 p1 p2:Nat}{Q:Bool->Bk->Prop}(hk:kindOf st=κ)(hf:DK st=none)(hD:∀(i:Nat) p,(arrOf st)[i]? = some p->D p)
 (h1:(AC st)[i]? = some (s1,B,p1)) (h2:(AC st)[i+1]? = some (s1+B,n2,p2)) (g1:Sg r (arrOf st) s1 (s1+B)) (g2:Sg r (arrOf st) (s1+B) (s1+B+n2)) (z1:0<B) (z2:0<n2) (hs:s1+B+n2<=(arrOf st).size)
 (h:∀st',Md r st st' s1 (s1+B+n2)->AC st'=((AC st).setIfInBounds i (s1,B+n2,p1)).eraseIdxIfInBounds (i+1)->Q true st'):Jf M A E s (mergeAt' i) Q st:=by
 refine Ao (Fm ?_);dsimp -zeta only;rw[h1,h2];dsimp -zeta only;refine Ao (aCM ?_);have eb:=bL (xs:=arrOf st) (i:=s1+B) (by omega);refine Ao (aK eb ?_);refine Ao (cT C (show kindOf _=κ from hk) hD (hD _ _ eb) (show s1+B<=(arrOf st).size by omega) z1 (λi1 i2 h1 h2=>g1 _ _ (by omega) (by omega) (by omega)) λk q9 b1 b2=>?_);dsimp -zeta only;have pa:∀G,s1<=G->G<s1+k->kr r (arrOf st) G<=kr r (arrOf st) (s1+B):=λG l1 l2=>by have q:=b1 (G-s1) (by omega);unfold Bp at q;rw[show s1+(G-s1)=G by omega] at q;simp only[bF,if_false,Cd,Bq] at q;rw[kr_at eb];exact Gf q
 have pb:∀G,s1+k<=G->G<s1+B->kr r (arrOf st) (s1+B)<=kr r (arrOf st) G:=λG l1 l2=>by have q:=b2 (G-s1) (by omega) (by omega);unfold Bp at q;rw[show s1+(G-s1)=G by omega] at q;simp only[bF,if_false,F2,Ax] at q;rw[kr_at eb];exact Ca q
 have q0:(∀G I,s1<=G->G<s1+B->s1+B<=I->I<s1+B+n2->kr r (arrOf st) G<=kr r (arrOf st) I)->Sg r (arrOf st) s1 (s1+B+n2):=λhx G I l1 l2 l3=>by by_cases c1:I<s1+B;exact g1 _ _ l1 l2 c1;by_cases c2:G<s1+B;exact hx _ _ l1 c2 (by omega) l3;exact g2 _ _ (by omega) l2 l3
 by_cases e1:B-k=0;refine aD (if_pos (by simpa using e1)) ?_;refine Az (h _ ⟨rfl,rfl,B5 _,λ_ _=>rfl,?_⟩ rfl);exact q0 λG I l1 l2 l3 l4=>A2 (pa G l1 (by omega)) (g2 _ _ (Ak _) l3 l4);refine aD (if_neg (by simpa using e1)) ?_;have ea:=bL (xs:=arrOf st) (i:=s1+k+(B-k)-1) (by omega);refine Ao (aK ea ?_);refine Ao (cT C (show kindOf _=κ from hk) hD (hD _ _ ea) (show s1+B+n2<=(arrOf st).size from hs) (by omega) (λi1 i2 h1 h2=>g2 _ _ (by omega) (by omega) (by omega)) λm w0 d1 d2=>?_);dsimp -zeta only;have el:s1+k+(B-k)-1=s1+B-1:=by omega
 have pc:∀I,s1+B<=I->I<s1+B+m->kr r (arrOf st) I<=kr r (arrOf st) (s1+B-1):=λI l1 l2=>by have q:=d1 (I-(s1+B)) (by omega);unfold Bp at q;rw[show s1+B+(I-(s1+B))=I by omega] at q;simp only[if_true,Ax] at q;rw[<-el,kr_at ea];exact Ca q
 have pd:∀I,s1+B+m<=I->I<s1+B+n2->kr r (arrOf st) (s1+B-1)<=kr r (arrOf st) I:=λI l1 l2=>by have q:=d2 (I-(s1+B)) (by omega) (by omega);unfold Bp at q;rw[show s1+B+(I-(s1+B))=I by omega] at q;simp only[if_true,Bq] at q;rw[<-el,kr_at ea];exact Gf q
 by_cases e2:m=0;refine aD (if_pos (by simpa using e2)) ?_;refine Az (h _ ⟨rfl,rfl,B5 _,λ_ _=>rfl,?_⟩ rfl);exact q0 λG I l1 l2 l3 l4=>A2 (g1 _ _ l1 (by omega) (by omega)) (pd I (by omega) l4);refine aD (if_neg (by simpa using e2)) ?_
 extract_lets x y jp
 have hx:x=(arrOf st).extract (s1+k) (s1+B):=rfl;have hy:y=(arrOf st).extract (s1+B) (s1+B+m):=rfl
 clear_value x y
 have lx:x.size=B-k:=by rw[hx,HK];omega
 have ly:y.size=m:=by rw[hy,HK];omega
 have mx:∀{p},p∈x.toList->∃j,s1+k<=j/\j<s1+B/\(arrOf st)[j]? = some p:=λ{p} U=>by rw[hx] at U;obtain⟨j,q1,q2,_,q4⟩:=wK U;exact⟨j,q1,q2,q4⟩
 have my:∀{p},p∈y.toList->∃j,s1+B<=j/\j<s1+B+m/\(arrOf st)[j]? = some p:=λ{p} U=>by rw[hy] at U;obtain⟨j,q1,q2,_,q4⟩:=wK U;exact⟨j,q1,q2,q4⟩
 have kx:∀j,j<B-k->kr r x j=kr r (arrOf st) (s1+k+j):=λj hj=>by rw[hx,kr,kr,G8,if_pos (by omega)]
 have ky:∀j,j<m->kr r y j=kr r (arrOf st) (s1+B+j):=λj hj=>by rw[hy,kr,kr,G8,if_pos (by omega)]
 have sx:Srt r x.toList:=by rw[hx];exact Sg.srt (λG I a1 a2 a3=>g1 _ _ (by omega) a2 a3) (by omega)
 have sy:Srt r y.toList:=by rw[hy];exact Sg.srt (λG I a1 a2 a3=>g2 _ _ (by omega) a2 (by omega)) (by omega)
 have main:∀g L,dL (JH (kindOf st) (arrOf st) (((AC st).setIfInBounds i (s1,B+n2,p1)).eraseIdxIfInBounds (i+1)) (gallopOf st) (DK st)) L->g.toList.Perm (x.toList++y.toList)->Srt r g.toList->Jf M A E s (jp g) Q L:=by
  intro g L kp pm so;dsimp -zeta only[jp];have ls:g.toList.length=B-k+m:=by rw[pm.length_eq,lA,<-lx,<-ly];simp
  have q3:arrOf L=arrOf st:=kp.2.1;refine Ao (DL (Ao (Fm (Az ?_))));have q8:DK L=none:=kp.2.2.2.trans hf;show Q (DK L).isNone _;rw[q8];have hw:s1+k+g.toList.length<=(arrOf st).size:=by omega
  have at':∀z,(wr (s1+k) (arrOf st) g.toList 0)[z]? = if s1+k<=z/\z<s1+k+(B-k+m) then g.toList[z-(s1+k)]? else (arrOf st)[z]? := λz=>by rw[aAT _ _ _ _ _ (by omega),ls,Iz]
  refine h _ ⟨kp.1,kp.2.2.2,?_,λz hz=>?_,?_⟩ kp.2.2.1;show(wr (s1+k) (arrOf L) g.toList 0).toList.Perm _;rw[q3,aCL hw,ls];have e3:(arrOf st).toList=(arrOf st).toList.take (s1+k)++(x.toList++y.toList)++(arrOf st).toList.drop (s1+k+(B-k+m)):=by rw[hx,hy,show s1+B=s1+k+(B-k) by omega,gJ,gJ,<-AG,<-eA,<-eA,show s1+k+(B-k)+m=s1+k+(B-k+m) by omega,AV]
  refine Jn ?_ (Jo e3.symm);exact(pm.append_left _).append_right _;show(wr (s1+k) (arrOf L) g.toList 0)[z]? = _;rw[q3,at',if_neg (by omega)];show Sg r (wr (s1+k) (arrOf L) g.toList 0) _ _;rw[q3];have q7:∀z,s1+k<=z->z<s1+k+(B-k+m)->∃p∈x.toList++y.toList,kr r (wr (s1+k) (arrOf st) g.toList 0) z=r p:=λz l1 l2=>by
   have hz:z-(s1+k)<g.toList.length:=by omega
   refine⟨g.toList[z-(s1+k)],pm.mem_iff.mp (BD hz),?_⟩;unfold kr;rw[at',if_pos ⟨l1,l2⟩,Ah hz]
  have ex:∀z,z<s1+k\/s1+k+(B-k+m)<=z->kr r (wr (s1+k) (arrOf st) g.toList 0) z=kr r (arrOf st) z:=λz hz=>by unfold kr;rw[at',if_neg (by omega)]
  intro G I l1 l2 l3;by_cases c1:G<s1+k;rw[ex G (.inl c1)];by_cases c2:I<s1+k;rw[ex I (.inl c2)];exact g1 _ _ l1 l2 (by omega);by_cases c3:I<s1+k+(B-k+m)
  obtain⟨p,U,e⟩:=q7 I (by omega) c3;rw[e];rcases AO.mp U with U|U;obtain⟨z,y1,y2,W⟩:=mx U;rw[<-kr_at (r:=r) W];exact g1 _ _ l1 (by omega) y2;obtain⟨z,y1,y2,W⟩:=my U;rw[<-kr_at (r:=r) W];exact A2 (pa G l1 c1) (g2 _ _ (Ak _) y1 (by omega));rw[ex I (.inr (by omega))];exact A2 (pa G l1 c1) (g2 _ _ (Ak _) (by omega) l3);by_cases c3:I<s1+k+(B-k+m)
  have h1:G-(s1+k)<g.toList.length:=by omega
  have h2:I-(s1+k)<g.toList.length:=by omega
  unfold kr;rw[at',at',if_pos (by omega),if_pos (by omega),Ah h1,Ah h2];rcases Ei l2 with c4|c4;exact Br.mp so _ _ h1 h2 (by omega);subst c4;exact Ak _;rw[ex I (.inr (by omega))];by_cases c4:G<s1+k+(B-k+m)
  obtain⟨p,U,e⟩:=q7 G (by omega) c4;rw[e];rcases AO.mp U with U|U;obtain⟨z,y1,y2,W⟩:=mx U;rw[<-kr_at (r:=r) W];exact A2 (g1 _ _ (by omega) (show z<=s1+B-1 by omega) (by omega)) (pd I (by omega) l3);obtain⟨z,y1,y2,W⟩:=my U;rw[<-kr_at (r:=r) W];exact g2 _ _ y1 (by omega) l3;rw[ex G (.inr (by omega))];exact g2 _ _ (by omega) l2 l3
 have q5:∀q∈x.toList,kr r y 0<=r q:=λq hq=>by obtain⟨z,y1,y2,W⟩:=mx hq;rw[ky 0 (by omega),<-kr_at (r:=r) W];exact pb z y1 y2
 have q6:∀q∈y.toList,r q<=kr r x (x.size-1):=λq hq=>by obtain⟨z,y1,y2,W⟩:=my hq;rw[lx,kx _ (by omega),<-kr_at (r:=r) W,show s1+k+(B-k-1)=s1+B-1 by omega];exact pc z y1 y2
 have dx:∀(i:Nat) p,x[i]? = some p->D p:=λG p U=>by obtain⟨z,_,_,W⟩:=mx (DM.mpr (D6 U));exact hD _ _ W
 have dy:∀(i:Nat) p,y[i]? = some p->D p:=λG p U=>by obtain⟨z,_,_,W⟩:=my (DM.mpr (D6 U));exact hD _ _ W
 by_cases e3:B-k<=m;refine aD (if_pos e3) ?_;exact Ao (sJ C (show kindOf _=κ from hk) dx dy sx sy (by omega) (by omega) q5 q6 λres L kp pm so=>main res L kp pm so);refine aD (if_neg e3) ?_;exact Ao (sK C (show kindOf _=κ from hk) dx dy sx sy (by omega) (by omega) q5 q6 λres L kp pm so=>main res L kp pm so)
theorem iW(C:Cmp M A E s κ D r){st:Bk}{i j:Nat}{Q:Option Bool->Bk->Prop}(B:kindOf st=κ)(q:∀(i:Nat) p,(arrOf st)[i]? = some p->D p)(hi:i<(arrOf st).size)(g:j<(arrOf st).size)
 (h:Q (some (decide (kr r (arrOf st) i<kr r (arrOf st) j))) st):Jf M A E s (ltAt' i j) Q st:=by rw[ltAt'_eq];refine Ao (Fm (Ao (aK (bL hi) (Ao (aK (bL g) ?_)))));rw[kr_at (bL hi),kr_at (bL g)] at h;exact C _ _ (q _ _ (bL hi)) (q _ _ (bL g)) st _ B h
noncomputable def Nd(r:A9->Nat)(xs:Array A9):Prop:=(xs.toList.map r).Nodup
theorem Nd.ne{xs:Array A9}(h:Nd r xs){i j:Nat}(g:i<j)(q:j<xs.size):kr r xs i≠kr r xs j:=by rw[kr_at (bL (show i<xs.size by omega)),kr_at (bL q)];have:=Br.mp h i j (by simp;omega) (by simp;omega) g;simpa using this
theorem Nd.perm{xs ys:Array A9}(h:Nd r xs)(p:ys.toList.Perm xs.toList):Nd r ys:=(p.map r).nodup_iff.mpr h
theorem pV(C:Cmp M A E s κ D r){st:Bk}{lo G:Nat}{Q:Option Nat->Bk->Prop}(hk:kindOf st=κ)(hD:∀(i:Nat) p,(arrOf st)[i]? = some p->D p)(nd:Nd r (arrOf st))(h1:1<=G)(hs:lo+G<=(arrOf st).size)
 (h:∀n st',1<=n->n<=G->Md r st st' lo (lo+n)->AC st'=AC st->Q (some n) st'):Jf M A E s (countRun' lo G) Q st:=by
 refine Ao (BG (Bn (I:=λx (c:Option (Option Nat)×Nat) st'=>st'=st/\c.1=none/\c.2=x/\Sg r (arrOf st) lo (lo+c.2))
  (Q:=λc st'=>st'=st/\c.1=none/\1<=c.2/\c.2<=G/\Sg r (arrOf st) lo (lo+c.2)/\(c.2=G\/kr r (arrOf st) (lo+c.2)<kr r (arrOf st) (lo+c.2-1))) ?step ?fin ⟨rfl,rfl,rfl,λi j a b c=>by have:i=j:=by { dsimp only at c;omega };subst this;exact Ak _⟩) ?post)
 case fin=>rintro ⟨c,n⟩ st' ⟨rfl,e1,e2,W⟩;dsimp only at e1 e2 W ⊢;exact⟨rfl,e1,by omega,by omega,W,.inl (by omega)⟩
 case step=>rintro x ⟨c,n⟩ st' q0 q1 ⟨rfl,e1,e2,W⟩;dsimp only at e1 e2 W;subst e1 e2;refine Ao (iW C hk hD (i:=lo+n) (j:=lo+n-1) (by omega) (by omega) ?_);by_cases g:kr r (arrOf st') (lo+n)<kr r (arrOf st') (lo+n-1);rw[Aw g];exact Az ⟨rfl,rfl,q0,by dsimp only;omega,W,.inr g⟩;rw[Ar g];refine Az ⟨rfl,rfl,rfl,λi j a b c=>?_⟩;dsimp only at c;by_cases c1:j<lo+n;exact W _ _ a b c1;by_cases c2:i=j;subst c2;exact Ak _;have:=W i (lo+n-1) a (by omega) (by omega);rw[show j=lo+n by omega];omega
 case post=>
  rintro ⟨c,n⟩ st' ⟨rfl,e1,e2,W,e4,e5⟩;dsimp only at e1 e2 W e4 e5;subst e1;dsimp -zeta only;by_cases g1:n=G;refine aD (if_pos (by simpa using g1)) ?_;exact Az (h n st' e2 W ⟨rfl,rfl,B5 _,λ_ _=>rfl,e4⟩ rfl);refine aD (if_neg (by simpa using g1)) ?_;have e5:=e5.resolve_left g1
  extract_lets y1 y2 jp
  by_cases g2:n>1;refine aD (if_pos g2) ?_;refine Ao (iW C hk hD (i:=lo) (j:=lo+n-1) (by omega) (by omega) ?_);have q:kr r (arrOf st') lo<kr r (arrOf st') (lo+n-1):=HL (e4 _ _ (Ak _) (by omega) (by omega)) (nd.ne (by omega) (by omega));rw[Aw q];exact Az (h n st' e2 W ⟨rfl,rfl,B5 _,λ_ _=>rfl,e4⟩ rfl);refine aD (if_neg g2) ?_;obtain rfl:n=1:=by omega
  dsimp -zeta only[jp];refine Ao (Gj (CF ⟨rfl,?_⟩));refine Ao (BG (Bn (I:=λx (c:Option (Option Nat)×Nat×Nat) B=>B=st'/\c.1=none/\c.2.1=x/\c.2.2=0/\∀i j,lo<=i->i<j->j<lo+c.2.1->kr r (arrOf st') j<=kr r (arrOf st') i)
   (Q:=λc B=>B=st'/\c.1=none/\2<=c.2.1/\c.2.1<=G/\c.2.2=0/\∀i j,lo<=i->i<j->j<lo+c.2.1->kr r (arrOf st') j<=kr r (arrOf st') i) ?stepd ?find ⟨rfl,rfl,rfl,rfl,λi j a b c=>?initd⟩) ?postd)
  case initd=>dsimp only at c;rw[show i=lo by omega,show j=lo+1 by omega];exact Ca e5
  case find=>rintro ⟨c,n,q⟩ B ⟨rfl,f1,f2,f3,f4⟩;dsimp only at f1 f2 f3 f4 ⊢;exact⟨rfl,f1,by omega,by omega,f3,f4⟩
  case stepd=>rintro x ⟨c,n,q⟩ B q0 q1 ⟨rfl,f1,f2,f3,f4⟩;dsimp only at f1 f2 f3 f4;subst f1 f2 f3;refine Ao (iW C hk hD (i:=lo+n) (j:=lo+n-1) (by omega) (by omega) ?_);by_cases g:kr r (arrOf B) (lo+n)<kr r (arrOf B) (lo+n-1);rw[Aw g];refine Az ⟨rfl,rfl,rfl,rfl,λi j a b c=>?_⟩;dsimp only at c;by_cases c1:j<lo+n;exact f4 _ _ a b c1;rw[show j=lo+n by omega];by_cases c2:i=lo+n-1;rw[c2];omega;have:=f4 i (lo+n-1) a (by omega) (by omega);omega;rw[Ar g];refine Ao (iW C hk hD (i:=lo+n-1) (j:=lo+n) (by omega) (by omega) ?_);have q:kr r (arrOf B) (lo+n-1)<kr r (arrOf B) (lo+n):=HL (by omega) (nd.ne (by omega) (by omega));rw[Aw q];exact Az ⟨rfl,rfl,by dsimp only;omega,by dsimp only;omega,rfl,f4⟩
  case postd=>
   rintro ⟨c,n,q⟩ B ⟨rfl,f1,f2,f3,f4,f5⟩;dsimp only at f1 f2 f3 f4 f5;subst f1 f4;refine aD (if_neg (AL 0)) ?_;refine Ao (DL ?_);have hm:lo+n<=(arrOf B).size:=by omega
   have am:∀k:Nat,(DN (arrOf B) lo (lo+n) ((lo+n-lo) / 2))[k]? = if lo<=k/\k<lo+n then (arrOf B)[lo+(lo+n)-1-k]? else (arrOf B)[k]? := λk=>getElem?_mirror_all hm k
   have km:∀k:Nat,kr r (DN (arrOf B) lo (lo+n) ((lo+n-lo) / 2)) k=if lo<=k/\k<lo+n then kr r (arrOf B) (lo+(lo+n)-1-k) else kr r (arrOf B) k:=λk=>by by_cases c:lo<=k/\k<lo+n;rw[if_pos c,kr,am,if_pos c];rfl;rw[if_neg c,kr,am,if_neg c];rfl
   have q3:(DN (arrOf B) lo (lo+n) ((lo+n-lo) / 2)).toList.Perm (arrOf B).toList:=(mirror_perm _ _ _ _).toList;have md:∀L,n<=L->Sg r (DN (arrOf B) lo (lo+n) ((lo+n-lo) / 2)) lo (lo+L)->Md r B (K4 B (DN (arrOf B) lo (lo+n) ((lo+n-lo) / 2))) lo (lo+L):=λL hn sg=>⟨rfl,rfl,q3,λk hk=>by
    show(DN (arrOf B) lo (lo+n) ((lo+n-lo) / 2))[k]? = _;rw[am,if_neg (by omega)],sg⟩
   have hz:(DN (arrOf B) lo (lo+n) ((lo+n-lo) / 2)).size=(arrOf B).size:=mirror_size _ _ _ _;have q2:∀(i:Nat) p,(DN (arrOf B) lo (lo+n) ((lo+n-lo) / 2))[i]? = some p->D p:=λi p hp=>by rw[am] at hp;split at hp;exact hD _ _ hp;exact hD _ _ hp
   refine Ao (BG (Bn (I:=λx (c:Option (Option Nat)×Nat) U=>U=K4 B (DN (arrOf B) lo (lo+n) ((lo+n-lo) / 2))/\c.1=none/\c.2=x/\Sg r (DN (arrOf B) lo (lo+n) ((lo+n-lo) / 2)) lo (lo+c.2))
    (Q:=λc U=>U=K4 B (DN (arrOf B) lo (lo+n) ((lo+n-lo) / 2))/\c.1=none/\n<=c.2/\c.2<=G/\Sg r (DN (arrOf B) lo (lo+n) ((lo+n-lo) / 2)) lo (lo+c.2)) ?stepe ?fine ⟨rfl,rfl,rfl,λi j a b c=>?inite⟩) ?poste)
   case inite=>dsimp only at c;rw[km,km,if_pos (by omega),if_pos (by omega)];rcases Ei b with b|b;exact f5 _ _ (by omega) (by omega) (by omega);subst b;exact Ak _
   case fine=>rintro ⟨c,L⟩ U ⟨rfl,a1,a2,a3⟩;dsimp only at a1 a2 a3 ⊢;exact⟨rfl,a1,by omega,by omega,a3⟩
   case poste=>rintro ⟨c,L⟩ U ⟨rfl,a1,a2,a3,a4⟩;dsimp only at a1 a2 a3 a4 ⊢;subst a1;exact Az (h L _ (by omega) a3 (md L a2 a4) rfl)
   case stepe=>rintro x ⟨c,L⟩ U q0 q1 ⟨rfl,a1,a2,a3⟩;dsimp only at a1 a2 a3;subst a1 a2;refine Ao (iW C (show kindOf _=κ from hk) q2 (i:=lo+L) (j:=lo+L-1) (show _<(DN (arrOf B) lo (lo+n) ((lo+n-lo) / 2)).size by omega) (show _<(DN (arrOf B) lo (lo+n) ((lo+n-lo) / 2)).size by omega) ?_);by_cases g:kr r (arrOf (K4 B (DN (arrOf B) lo (lo+n) ((lo+n-lo) / 2)))) (lo+L)<kr r (arrOf (K4 B (DN (arrOf B) lo (lo+n) ((lo+n-lo) / 2)))) (lo+L-1);rw[Aw g];exact Az ⟨rfl,rfl,q0,by dsimp only;omega,a3⟩;rw[Ar g];have g:¬ kr r (DN (arrOf B) lo (lo+n) ((lo+n-lo) / 2)) (lo+L)<kr r (DN (arrOf B) lo (lo+n) ((lo+n-lo) / 2)) (lo+L-1):=g;refine Az ⟨rfl,rfl,rfl,λi j a b c=>?_⟩;dsimp only at c;by_cases c1:j<lo+L;exact a3 _ _ a b c1;by_cases c2:i=j;subst c2;exact Ak _;have:=a3 i (lo+L-1) a (by omega) (by omega);rw[show j=lo+L by omega];omega
theorem wL{xs ys:Array A9}(p:ys.toList.Perm xs.toList)(B:∀(i:Nat) q,xs[i]? = some q->D q):∀(i:Nat) q,ys[i]? = some q->D q:=λi q h=>by have g:q∈xs.toList:=p.mem_iff.mp (DM.mpr (D6 h));obtain⟨j,G⟩:=EO g;exact B j q (by rw[<-AT];exact G)
theorem fT{xs ys:Array A9}(p:ys.toList.Perm xs.toList):ys.size=xs.size:=by simpa using p.length_eq
theorem lP(C:Cmp M A E s κ D r){st:Bk}{lo n ok:Nat}{Q:Bool->Bk->Prop}(hk:kindOf st=κ)(hD:∀(i:Nat) p,(arrOf st)[i]? = some p->D p)(h1:1<=ok)(h2:ok<=n)(hs:lo+n<=(arrOf st).size)(sg:Sg r (arrOf st) lo (lo+ok))
 (h:∀st',Md r st st' lo (lo+n)->AC st'=AC st->Q true st'):Jf M A E s (binarySort' lo n ok) Q st:=by
 refine Ao (BG (Bn (I:=λx (c:Option Bool×Unit) st'=>c.1=none/\Md r st st' lo (lo+x)/\AC st'=AC st)
  (Q:=λc st'=>c.1=none/\Md r st st' lo (lo+n)/\AC st'=AC st) ?step ?fin ⟨rfl,⟨rfl,rfl,B5 _,λ_ _=>rfl,by rw[Nat.max_eq_left h1];exact sg⟩,rfl⟩) ?post)
 case post=>rintro ⟨c,u⟩ st' ⟨U,G,e3⟩;dsimp only at U;subst U;exact Az (h st' G e3)
 case fin=>rintro ⟨c,u⟩ st' ⟨U,G,e3⟩;rw[show max (max ok 1) n=n by omega] at G;exact⟨U,G,e3⟩
 case step=>
  rintro k ⟨c,u⟩ st' q4 q5 ⟨U,G,e3⟩;dsimp only at U;subst U;have q3:kindOf st'=κ:=G.kd.trans hk;have q2:=wL G.pm hD;have hz:=fT G.pm;refine Ao (BG (Bn (I:=λx (c:Option Bool×Nat×Nat) B=>B=st'/\c.1=none/\c.2.1<=c.2.2/\c.2.2<=k/\c.2.2+x<=k+c.2.1/\(∀i,i<c.2.1->kr r (arrOf st') (lo+i)<=kr r (arrOf st') (lo+k))/\(∀i,c.2.2<=i->i<k->kr r (arrOf st') (lo+k)<=kr r (arrOf st') (lo+i)))
   (Q:=λc B=>B=st'/\c.1=none/\c.2.1<=k/\(∀i,i<c.2.1->kr r (arrOf st') (lo+i)<=kr r (arrOf st') (lo+k))/\(∀i,c.2.1<=i->i<k->kr r (arrOf st') (lo+k)<=kr r (arrOf st') (lo+i))) ?step1 ?fin1 ⟨rfl,rfl,AS _,Ak _,by dsimp only;omega,λi hi=>absurd hi (C5 _),λi a b=>by dsimp only at a;omega⟩) ?post1)
  case fin1=>rintro ⟨c,l,q⟩ B ⟨rfl,a1,a2,L,W,a5,a6⟩;dsimp only at a1 a2 L W a5 a6 ⊢;exact⟨rfl,a1,by omega,a5,λi b1 b2=>a6 i (by omega) b2⟩
  case step1=>rintro x ⟨c,l,q⟩ B _ hx ⟨rfl,a1,a2,L,W,a5,a6⟩;dsimp only at a1 a2 L W a5 a6;subst a1;by_cases g:l ≥ q;refine aD (if_pos g) ?_;exact Az ⟨rfl,rfl,by dsimp only;omega,a5,λi b1 b2=>a6 i (by dsimp only at b1;omega) b2⟩;refine aD (if_neg g) ?_;refine Ao (iW C q3 q2 (i:=lo+k) (j:=lo+(l+q) / 2) (by omega) (by omega) ?_);by_cases g2:kr r (arrOf B) (lo+k)<kr r (arrOf B) (lo+(l+q) / 2);rw[Aw g2];refine Az ⟨rfl,rfl,by dsimp only;omega,by dsimp only;omega,by dsimp only;omega,a5,λi b1 b2=>?_⟩;dsimp only at b1;exact A2 (Ca g2) (G.sg _ _ (by omega) (by omega) (by omega));rw[Ar g2];refine Az ⟨rfl,rfl,by dsimp only;omega,L,by dsimp only;omega,λi b1=>?_,a6⟩;dsimp only at b1;exact A2 (G.sg (lo+i) (lo+(l+q) / 2) (by omega) (by omega) (by omega)) (by omega)
  case post1=>
   rintro ⟨c,l,q⟩ B ⟨rfl,a1,a2,L,W⟩;dsimp only at a1 a2 L W;subst a1;refine Ao (DL (Az ⟨rfl,?_,e3⟩));have hb:∀z:Nat,(Lw (arrOf B) (lo+k) (lo+k-(lo+l)))[z]? = if z=lo+l then (arrOf B)[lo+k]? else if lo+l<z/\z<=lo+k then (arrOf B)[z-1]? else (arrOf B)[z]? := λz=>by have:=getElem?_bubble (xs:=arrOf B) (src:=lo+k) (by omega) (lo+k-(lo+l)) (by omega) z;rw[show lo+k-(lo+k-(lo+l))=lo+l by omega] at this;exact this
   have kb:∀z:Nat,kr r (Lw (arrOf B) (lo+k) (lo+k-(lo+l))) z=if z=lo+l then kr r (arrOf B) (lo+k) else if lo+l<z/\z<=lo+k then kr r (arrOf B) (z-1) else kr r (arrOf B) z:=λz=>by by_cases c1:z=lo+l;rw[if_pos c1,kr,hb,if_pos c1];rfl;by_cases c2:lo+l<z/\z<=lo+k;rw[if_neg c1,if_pos c2,kr,hb,if_neg c1,if_pos c2];rfl;rw[if_neg c1,if_neg c2,kr,hb,if_neg c1,if_neg c2];rfl
   refine⟨G.kd,G.fl,?_,λz q6=>?_,?_⟩;exact(bubble_perm _ _ _).toList.trans G.pm;show(Lw (arrOf B) (lo+k) (lo+k-(lo+l)))[z]? = _;rw[hb,if_neg (by omega),if_neg (by omega)];exact G.out z (by omega);show Sg r (Lw (arrOf B) (lo+k) (lo+k-(lo+l))) _ _;intro i j b1 b2 b3;have S:=G.sg;rw[kb,kb];by_cases ci:i=lo+l;rw[if_pos ci];by_cases cj:j=lo+l;rw[if_pos cj];exact Ak _;rw[if_neg cj,if_pos (by omega)];have:=W (j-1-lo) (by omega) (by omega);rwa [show lo+(j-1-lo)=j-1 by omega] at this;rw[if_neg ci];by_cases q0:lo+l<i/\i<=lo+k;rw[if_pos q0,if_neg (by omega),if_pos (by omega)];exact S _ _ (by omega) (by omega) (by omega);rw[if_neg q0];by_cases cj:j=lo+l;rw[if_pos cj];have:=L (i-lo) (by omega);rwa [show lo+(i-lo)=i by omega] at this;rw[if_neg cj];by_cases q1:lo+l<j/\j<=lo+k;rw[if_pos q1];exact S _ _ (by omega) (by omega) (by omega);rw[if_neg q1];exact S _ _ (by omega) (by omega) (by omega)
noncomputable def RO(r:A9->Nat)(xs:Array A9):Nat->List (Nat×Nat×Nat)->Nat->Prop
 | lo,[],hi=>lo=hi|lo,p::ps,hi=>p.1=lo/\1<=p.2.1/\Sg r xs lo (lo+p.2.1)/\RO r xs (lo+p.2.1) ps hi
theorem RO.le{xs:Array A9}:∀{ps:List (Nat×Nat×Nat)} {lo hi:Nat},RO r xs lo ps hi->lo+ps.length<=hi
 | [],lo,hi,h=>Io h|p::ps,lo,hi,h=>by obtain⟨_,q,_,g⟩:=h;have:=RO.le g;rw[lC];omega
theorem Sg.of{xs ys:Array A9}{lo hi:Nat}(h:Sg r xs lo hi)(e:∀k,lo<=k->k<hi->ys[k]? = xs[k]?):Sg r ys lo hi:=λi j a b c=>by have:=h i j a b c;rw[kr,kr] at this ⊢;rwa [e i a (by omega),e j (by omega) c]
theorem RO.of{xs ys:Array A9}:∀{ps:List (Nat×Nat×Nat)} {lo hi:Nat},RO r xs lo ps hi->(∀k,lo<=k->k<hi->ys[k]? = xs[k]?)->RO r ys lo ps hi
 | [],_,_,h,_=>h|p::ps,lo,hi,h,e=>by obtain⟨q,B,G,g⟩:=h;have:=RO.le g;exact⟨q,B,G.of λk a b=>e k a (by omega),RO.of g λk a b=>e k (by omega) b⟩
theorem RO.push{xs:Array A9}{n p:Nat}:∀{ps:List (Nat×Nat×Nat)} {lo hi:Nat},RO r xs lo ps hi->1<=n->Sg r xs hi (hi+n)->RO r xs lo (ps++[(hi,n,p)]) (hi+n)
 | [],lo,hi,h,h1,h2=>by cases(show lo=hi from h);exact⟨rfl,h1,h2,rfl⟩|q::ps,lo,hi,h,h1,h2=>by obtain⟨g,B,G,I⟩:=h;exact⟨g,B,G,RO.push I h1 h2⟩
theorem RO.mod{xs:Array A9}{f:Nat×Nat×Nat->Nat×Nat×Nat}(L:∀p,(f p).1=p.1/\(f p).2.1=p.2.1):∀{ps:List (Nat×Nat×Nat)} {lo hi k:Nat},RO r xs lo ps hi->RO r xs lo (ps.modify k f) hi
 | [],_,_,k,h=>by cases k <;> exact h|p::ps,lo,hi,0,h=>by obtain⟨q,B,G,I⟩:=h;obtain⟨U,g⟩:=L p;show RO r xs lo (f p::ps) hi;refine⟨by rw[U];exact q,by rw[g];exact B,by rw[g];exact G,by rw[g];exact I⟩|p::ps,lo,hi,k+1,h=>by obtain⟨q,B,G,I⟩:=h;exact⟨q,B,G,RO.mod L I⟩
theorem RO.merge{xs:Array A9}{s1 g W s2 B p2:Nat}:∀{ps:List (Nat×Nat×Nat)} {lo hi i:Nat},RO r xs lo ps hi->ps[i]? = some (s1,g,W)->ps[i+1]? = some (s2,B,p2) ->
 (s2=s1+g/\1<=g/\1<=B/\Sg r xs s1 (s1+g)/\Sg r xs (s1+g) (s1+g+B)/\s1+g+B<=hi/\lo<=s1) /\
 ∀ys:Array A9,(∀k,k<s1\/s1+g+B<=k->ys[k]? = xs[k]?)->Sg r ys s1 (s1+g+B)->RO r ys lo ((ps.set i (s1,g+B,W)).eraseIdx (i+1)) hi
 | [],_,_,_,_,e,_=>by simp at e|p::ps,lo,hi,0,h,e1,e2=>by
  obtain⟨G,I,L,h4⟩:=h;simp at e1;subst e1;cases ps with
  | nil=>simp at e2|cons q qs=>simp at e2;subst e2;obtain⟨g1,g2,g3,g4⟩:=h4;dsimp only at G I L g1 g2 g3 g4;subst G;have:=RO.le g4;refine⟨⟨g1,I,g2,L,g3,by omega,Ak _⟩,λys U sg=>?_⟩;show RO r ys s1 ((s1,g+B,W)::qs) hi;refine⟨rfl,by dsimp only;omega,by rw[<-EK];exact sg,?_⟩;dsimp only;rw[<-EK];exact g4.of λk a b=>U k (.inr (by omega))
 | p::ps,lo,hi,i+1,h,e1,e2=>by obtain⟨G,I,L,h4⟩:=h;rw[gS] at e1 e2;obtain⟨⟨a1,a2,a3,a4,a5,a6,a7⟩,f⟩:=RO.merge h4 e1 e2;refine⟨⟨a1,a2,a3,a4,a5,a6,by omega⟩,λys U sg=>?_⟩;show RO r ys lo (p::(ps.set i (s1,g+B,W)).eraseIdx (i+1)) hi;exact⟨G,I,L.of λk a b=>U k (.inl (by omega)),f ys U sg⟩
structure SI (r:A9->Nat) (κ:D2) (a₀:Array A9) (st:Bk) (lo:Nat):Prop where
 kd:kindOf st=κ
 fl:DK st=none
 pm:(arrOf st).toList.Perm a₀.toList
 ro:RO r (arrOf st) 0 (AC st).toList lo
theorem SI.merge(C:Cmp M A E s κ D r){a₀:Array A9}{st:Bk}{lo hi i:Nat}{Q:Bool->Bk->Prop}(W:∀(i:Nat) p,a₀[i]? = some p->D p)(S:SI r κ a₀ st lo)(q0:lo<=a₀.size)(sg:Sg r (arrOf st) lo hi)(g:i+1<(AC st).size)
 (h:∀st',SI r κ a₀ st' lo->Sg r (arrOf st') lo hi->(AC st').size+1=(AC st).size->Q true st'):Jf M A E s (mergeAt' i) Q st:=by
 obtain⟨⟨s1,n1,p1⟩,q⟩:∃x,(AC st)[i]? = some x:=⟨_,AN (by omega)⟩
 obtain⟨⟨s2,n2,p2⟩,B⟩:∃x,(AC st)[i+1]? = some x:=⟨_,AN g⟩
 obtain⟨⟨a1,G,I,L,U,a6,_⟩,f⟩:=S.ro.merge (i:=i) (by rw[AT];exact q) (by rw[AT];exact B);subst a1;refine sL C S.kd S.fl (wL S.pm W) q B L U G I (by rw[fT S.pm];omega) λst' md ep=>h st' ⟨md.kd.trans S.kd,md.fl.trans S.fl,md.pm.trans S.pm,?_⟩ (sg.of λk b1 b2=>md.out k (.inr (by omega))) ?_;rw[ep,E7,F5];exact f _ md.out md.sg;have e:(AC st').toList.length+1=(AC st).toList.length:=by
  rw[ep,E7,F5,List.length_eraseIdx,if_pos (by simpa using g),AW];have:(AC st).toList.length=(AC st).size:=by simp
  omega
 simpa using e
theorem wpS_sortRuns(C:Cmp M A E s κ D r){st:Bk}{Q:Unit->Bk->Prop}(hk:kindOf st=κ)(hf:DK st=none)(hp:AC st=#[])(hD:∀(i:Nat) p,(arrOf st)[i]? = some p->D p)(nd:Nd r (arrOf st))
 (h:∀st',(arrOf st').toList.Perm (arrOf st).toList->DK st'=none->Sg r (arrOf st') 0 (arrOf st).size->Q () st'):Jf M A E s sortRuns' Q st:=by
 refine Ao (Fm ?_);have S0:SI r κ (arrOf st) st 0:=⟨hk,hf,B5 _,by rw[hp];exact rfl⟩
 refine Ao (BG (Bn (I:=λx (c:Option Unit×Nat) st'=>c.1=none/\SI r κ (arrOf st) st' c.2/\c.2<=(arrOf st).size/\min x (arrOf st).size<=c.2)
  (Q:=λc st'=>c.1=none/\SI r κ (arrOf st) st' (arrOf st).size) ?step ?fin ⟨rfl,S0,AS _,by dsimp only;omega⟩) ?post)
 case fin=>rintro ⟨c,lo⟩ st' ⟨e1,W,e3,e4⟩;dsimp only at e1 W e3 e4 ⊢;refine⟨e1,?_⟩;have e4:min (max 0 (arrOf st).size) (arrOf st).size<=lo:=e4;rw[show(arrOf st).size=lo by omega];exact W
 case post=>
  rintro ⟨c,lo⟩ st' ⟨e1,W⟩;dsimp only at e1;subst e1;have hl:=W.ro.le;have hl:(AC st').size<=(arrOf st).size:=by simpa using hl
  refine Ao (BG (Bn (I:=λx (c:Option Unit×Unit) G=>c.1=none/\SI r κ (arrOf st) G (arrOf st).size/\(AC G).size+x<=(arrOf st).size+1)
   (Q:=λc G=>c.1=none/\SI r κ (arrOf st) G (arrOf st).size/\(AC G).size<=1) ?step1 ?fin1 ⟨rfl,W,by omega⟩) ?post1)
  case fin1=>rintro ⟨c,u⟩ G ⟨a1,U,a3⟩;have a3:(AC G).size+max 0 (arrOf st).size<=(arrOf st).size+1:=a3;exact⟨a1,U,by omega⟩
  case post1=>
   rintro ⟨c,u⟩ G ⟨a1,U,a3⟩;dsimp only at a1;subst a1;refine Az (h G U.pm U.fl ?_);have ro:=U.ro;have a3:(AC G).toList.length<=1:=by simpa using a3
   match hq:(AC G).toList,ro,a3 with
   | [],ro,_=>have ro:0=(arrOf st).size:=ro;intro i j b1 b2 b3;omega|[p],ro,_=>obtain⟨_,_,q3,q4⟩:=ro;have q4:0+p.2.1=(arrOf st).size:=q4;rw[q4] at q3;exact q3|_::_::_,_,a3=>simp at a3
  case step1=>
   rintro x ⟨c,u⟩ G _ hx ⟨a1,U,a3⟩;dsimp only at a1;subst a1;refine Ao (Fm ?_);by_cases g:(AC G).size<=1;refine aD (if_pos g) ?_;exact Az ⟨rfl,U,g⟩;refine aD (if_neg g) ?_
   extract_lets i0 before i
   have hi:i+1<(AC G).size:=by dsimp only[i];have:i0=(AC G).size-2:=rfl;split <;> omega
   refine Ao (U.merge C hD (Ak _) (hi:=(arrOf st).size) (λi j b1 b2 b3=>by omega) hi λL S3 _ hsz=>?_);exact Az ⟨rfl,S3,by omega⟩
 case step=>
  rintro x ⟨c,lo⟩ q8 _ hx ⟨e1,W,e3,e4⟩;dsimp only at e1 W e3 e4;subst e1;have hx:x<(arrOf st).size:=hx;by_cases g:lo ≥ (arrOf st).size;refine aD (if_pos g) ?_;refine Az ⟨rfl,?_⟩;rw[show(arrOf st).size=lo by omega];exact W;refine aD (if_neg g) ?_;have z1:=fT W.pm;refine Ao (pV C W.kd (wL W.pm hD) (nd.perm W.pm) (show 1<=(arrOf st).size-lo by omega) (show lo+((arrOf st).size-lo)<=(arrOf q8).size by omega) λn G n1 n2 md ep=>?_);dsimp -zeta only
  extract_lets nn jp
  have n2:n<=(arrOf st).size-lo:=n2;have S2:SI r κ (arrOf st) G lo:=⟨md.kd.trans W.kd,md.fl.trans W.fl,md.pm.trans W.pm,by rw[ep];exact W.ro.of λk a b=>md.out k (.inl b)⟩
  have main:∀n' L,1<=n'->lo+n'<=(arrOf st).size->SI r κ (arrOf st) L lo->Sg r (arrOf L) lo (lo+n')->Jf M A E s (jp () n') (λr' st'=>match r' with
   | .done c=>c.1=none/\SI r κ (arrOf st) st' (arrOf st).size|.yield c=>c.1=none/\SI r κ (arrOf st) st' c.2/\c.2<=(arrOf st).size/\min (x+1) (arrOf st).size<=c.2) L:=by
   intro n' L m1 m2 S3 q2;dsimp -zeta only[jp];refine Ao (Fm ?_)
   extract_lets lo' jp2
   have push:∀B,SI r κ (arrOf st) B lo->Sg r (arrOf B) lo (lo+n')->Jf M A E s (jp2 ()) (λr' st'=>match r' with
    | .done c=>c.1=none/\SI r κ (arrOf st) st' (arrOf st).size|.yield c=>c.1=none/\SI r κ (arrOf st) st' c.2/\c.2<=(arrOf st).size/\min (x+1) (arrOf st).size<=c.2) B:=by intro B S4 q6;dsimp -zeta only[jp2];refine Ao (DL (Az ⟨rfl,⟨S4.kd,S4.fl,S4.pm,?_⟩,m2,?_⟩));show RO r (arrOf B) 0 ((AC B).push (lo,n',0)).toList (lo+n');rw[CZ];exact S4.ro.push m1 q6;show min (x+1) (arrOf st).size<=lo+n';omega
   cases hb:(AC L).back? with
   | none=>exact push L S3 q2|some p=>
    obtain⟨s1,q9,w0⟩:=p;dsimp -zeta only
    extract_lets pw
    refine Ao (BG (Bn (I:=λx (c:Option Unit×Unit) B=>c.1=none/\SI r κ (arrOf st) B lo/\Sg r (arrOf B) lo (lo+n'))
     (Q:=λc B=>c.1=none/\SI r κ (arrOf st) B lo/\Sg r (arrOf B) lo (lo+n')) ?step2 ?fin2 ⟨rfl,S3,q2⟩) ?post2)
    case fin2=>exact λc B q=>q
    case post2=>rintro ⟨c,u⟩ B ⟨a1,U,a3⟩;dsimp only at a1;subst a1;refine Ao (DL ?_);refine push _ ⟨U.kd,U.fl,U.pm,?_⟩ a3;show RO r (arrOf B) 0 ((AC B).modify ((AC B).size-1) _).toList lo;rw[Array.toList_modify];exact U.ro.mod (f:=λx=>(x.1,x.2.1,pw)) λp=>⟨rfl,rfl⟩
    case step2=>
     rintro y ⟨c,u⟩ B _ hy ⟨a1,U,a3⟩;dsimp only at a1;subst a1;refine Ao (Fm ?_);dsimp only;by_cases g3:(AC B).size>1;obtain⟨⟨f1,f2,q1⟩,e⟩:∃x,(AC B)[(AC B).size-2]? = some x:=⟨_,AN (by omega)⟩
     have e':(if (AC B).size>1 then (AC B)[(AC B).size-2]? else none)=some (f1,f2,q1):=by rw[if_pos g3];exact e
     rw[e'];by_cases g4:q1<=pw;refine aD (if_pos g4) ?_;exact Az ⟨rfl,U,a3⟩;refine aD (if_neg g4) ?_;refine Ao (U.merge C hD e3 a3 (show(AC B).size-2+1<(AC B).size by omega) λw1 S5 q7 _=>?_);exact Az ⟨rfl,S5,q7⟩;have e':(if (AC B).size>1 then (AC B)[(AC B).size-2]? else none)=none:=if_neg g3;rw[e'];exact Az ⟨rfl,U,a3⟩
  by_cases g2:n<K5 (arrOf st).size (arrOf st).size 0;refine aD (if_pos g2) ?_;refine Ao (Gj (CF ⟨rfl,?_⟩));have hm:n<=min ((arrOf st).size-lo) (K5 (arrOf st).size (arrOf st).size 0):=by omega
  refine Ao (lP C S2.kd (wL S2.pm hD) n1 hm (show lo+min ((arrOf st).size-lo) (K5 (arrOf st).size (arrOf st).size 0)<=(arrOf G).size by rw[fT S2.pm];omega) md.sg λL q0 q5=>?_);refine aD (if_neg (by decide)) ?_;refine BG (main (min ((arrOf st).size-lo) (K5 (arrOf st).size (arrOf st).size 0)) L (by omega) (by omega) ⟨q0.kd.trans S2.kd,q0.fl.trans S2.fl,q0.pm.trans S2.pm,by rw[q5];exact S2.ro.of λk a b=>q0.out k (.inl b)⟩ q0.sg) λr' B q=>by cases r' <;> exact q
  refine aD (if_neg g2) ?_;exact BG (main _ G n1 (by omega) S2 md.sg) λr' B q=>by cases r' <;> exact q
end
end Ts
namespace L2
open PySem PySem.Spec PyProof.Rows SetTable
set_option maxRecDepth 100000
noncomputable def tmd(m:Nat)(ps ds:List Nat)(mv:Nat)(led:Bool):SetTable:={ mask:=m,place:=ps.toArray,dummies:=ds.toArray,finger:=0,led:=led,moves:=mv,plain:=true }
abbrev tm(m:Nat)(ps:List Nat)(mv:Nat)(led:Bool):SetTable:=tmd m ps [] mv led
abbrev eL(ps:List Nat):Prop:=ps.Pairwise (· < ·)
theorem eL.lt{ps:List Nat}(h:eL ps){i k v u:Nat}(g:i<k)(hi:ps[i]? = some v)(q:ps[k]? = some u):v<u:=by obtain⟨a,rfl⟩:=Au.mp hi;obtain⟨b,rfl⟩:=Au.mp q;exact Br.mp h i k a b g
theorem lQ{ps:List Nat}{j:Nat}(I:eL ps):∀(g lo hi:Nat),lo<=hi->hi<=ps.length->hi-lo<=g->(∀i v,i<lo->ps[i]? = some v->v<j)->(∀i v,hi<=i->ps[i]? = some v->j<=v) ->
 ∃r,below.go ps.toArray j g lo hi=r/\r<=ps.length/\(∀i v,i<r->ps[i]? = some v->v<j)/\(∀i v,r<=i->ps[i]? = some v->j<=v)
 | 0,lo,hi,h1,h2,h3,a,b=>⟨lo,rfl,by omega,a,λi v q=>b i v (by omega)⟩
 | f+1,lo,hi,h1,h2,h3,a,b=>by
  rw[below.go];by_cases c:lo<hi;rw[if_pos c];have M:(lo+hi) / 2<ps.length:=by omega
  have e:ps.toArray.getD ((lo+hi) / 2) j=ps[(lo+hi) / 2]:=by simp[Array.getD,M]
  have G:ps[(lo+hi) / 2]? = some ps[(lo+hi) / 2]:=Ah M;dsimp only;rw[e];by_cases d:ps[(lo+hi) / 2]<j;rw[if_pos d];refine lQ I f _ _ (by omega) h2 (by omega) (λi v L B=>?_) b;rcases BN i ((lo+hi) / 2) with q|q;exact Ex (I.lt q B G) d;obtain rfl:i=(lo+hi) / 2:=by omega
  rw[G] at B;cases B;exact d;rw[if_neg d];refine lQ I f _ _ (by omega) (by omega) (by omega) a λi v L B=>?_;rcases BN ((lo+hi) / 2) i with q|q;exact Ca (HM (by omega) (I.lt q G B));obtain rfl:i=(lo+hi) / 2:=by omega
  rw[G] at B;cases B;omega;rw[if_neg c];exact⟨lo,rfl,by omega,a,λi v q=>b i v (by omega)⟩
theorem bel{ps:List Nat}(g:eL ps)(j:Nat):below ps.toArray j<=ps.length/\(∀i v,i<below ps.toArray j->ps[i]? = some v->v<j)/\(∀i v,below ps.toArray j<=i->ps[i]? = some v->j<=v):=by obtain⟨r,e,h⟩:=lQ (j:=j) g ps.length 0 ps.length (AS _) (Ak _) (by omega) (λi v h=>absurd h (C5 _)) (λi v h q=>by rw[EB h] at q;cases q);rw[show below ps.toArray j=r from by unfold below;rw[Aj];exact e];exact h
theorem iX{ps:List Nat}(g:eL ps){i j:Nat}(h:ps[i]? = some j):below ps.toArray j=i:=by obtain⟨I,B,G⟩:=bel g j;rcases FN (below ps.toArray j) i with q|q|q;have L:=(Au.mp h).1;have:=G _ _ (Ak _) (Ah (by omega));have:=g.lt q (Ah (by omega)) h;omega;exact q;exact absurd (B i j q h) (AL _)
section
variable {m mv:Nat} {ps ds:List Nat} {led:Bool} {h:Int}
theorem eB(g:eL ps){i j:Nat}(h:ps[i]? = some j):(tmd m ps ds mv led).slot j=.live i:=by unfold Hv;show(if ((ps.toArray)[below ps.toArray j]?==some j)=true then Slot.live (below ps.toArray j) else _)=_;rw[iX g h,B0,h,if_pos (by simp)]
theorem uW{ps:List Nat}{j:Nat}(h:j∉ps):¬ ((ps.toArray[below ps.toArray j]?==some j)=true):=
 λq=>h (mG (by rw[B0] at q;exact of_decide_eq_true (by simpa using q)))
theorem uX{j:Nat}(h:j∉ps)(h':j∉ds):(tmd m ps ds mv led).slot j=.empty:=by unfold Hv;show(if ((ps.toArray)[below ps.toArray j]?==some j)=true then Slot.live (below ps.toArray j) else if has ds.toArray j=true then Slot.dummy else Slot.empty)=_;rw[if_neg (uW h),if_neg (show ¬ has ds.toArray j=true from uW h')]
theorem aFj{j:Nat}(hd:eL ds)(h':j∈ds):has ds.toArray j=true:=by obtain⟨i,hi⟩:=Bm.mp h';unfold has;rw[iX hd hi,B0,hi];simp
theorem uY{j:Nat}(h:j∉ps)(hd:eL ds)(h':j∈ds):(tmd m ps ds mv led).slot j=.dummy:=by unfold Hv;show(if ((ps.toArray)[below ps.toArray j]?==some j)=true then Slot.live (below ps.toArray j) else if has ds.toArray j=true then Slot.dummy else Slot.empty)=_;rw[if_neg (uW h),if_pos (aFj hd h')]
noncomputable def stp(m:Nat)(p:Probe):Probe:=(tm m [] 0 true).advance p
noncomputable def pth(m:Nat)(h:Int):Nat->Probe
 | 0=>(tm m [] 0 true).probeStart h|n+1=>stp m (pth m h n)
noncomputable def pd(m:Nat)(h:Int)(n:Nat)(d:Option Nat):Probe:={ pth m h n with dummy:=d }
theorem uZ{n:Nat}{d:Option Nat}:(tmd m ps ds mv led).advance (pd m h n d)=pd m h (n+1) d:=by
 show DW _ _={ stp m (pth m h n) with dummy:=d }
 unfold stp DW;by_cases c:(pth m h n).more>0;rw[if_pos (show(pd m h n d).more>0 from c),if_pos c];rfl;rw[if_neg (show ¬ (pd m h n d).more>0 from c),if_neg c];rfl
theorem sM(hr:eL ps)(hd:eL ds)(g:Nat->Int){N:Nat}(hN:(pth m h N).j∉ps++ds)(hl:∀n,n<N->(pth m h n).j∈ps++ds):∀M n d,n<=N->N-n<M->∃d',(ds=[]->d'=d) /\
 (((∀G,(∀i,i<ps.length->G i=g i)->probe.go (tmd m ps ds mv led) G h M (pd m h n d)=some (.empty (pth m h N).j d'))/\∀I i,n<=I->I<N->ps[i]? = some (pth m h I).j->g i≠h) \/
 ∃I i,n<=I/\I<N/\ps[i]? = some (pth m h I).j/\g i=h/\(∀G,(∀i,i<ps.length->G i=g i)->probe.go (tmd m ps ds mv led) G h M (pd m h n d)=some (.candidate (pth m h I).j i (pd m h (I+1) d')))/\∀B i,n<=B->B<I->ps[i]? = some (pth m h B).j->g i≠h)
 | 0,n,_,_,h2=>absurd h2 (C5 _)|f+1,n,d,h1,h2=>by
  rcases BN n N with q|q;have on:(∃i,ps[i]? = some (pth m h n).j/\g i=h)\/∃d2,(ds=[]->d2=d)/\(∀W,ps[W]? = some (pth m h n).j->g W≠h)/\∀G,(∀i,i<ps.length->G i=g i)->probe.go (tmd m ps ds mv led) G h (f+1) (pd m h n d)=probe.go (tmd m ps ds mv led) G h f (pd m h (n+1) d2):=by by_cases hp:(pth m h n).j∈ps;obtain⟨i,hi⟩:=Bm.mp hp;by_cases c:g i=h;exact .inl ⟨i,hi,c⟩;refine .inr ⟨d,λ_=>rfl,λW L=>?_,λG U=>?_⟩;have:=eB (m:=m) (ds:=ds) (mv:=mv) (led:=led) hr L;rw[eB hr hi] at this;cases this;exact c;rw[probe.go,show(pd m h n d).j=(pth m h n).j from rfl,eB hr hi];dsimp only;rw[if_neg (by rw[U i (Au.mp hi).1];simpa using c),uZ];have q0:=(AO.mp (hl n q)).resolve_left hp;refine .inr ⟨some (pth m h n).j,λz=>(by rw[z] at q0;cases q0),λW L=>absurd (mG L) hp,λG U=>?_⟩;rw[probe.go,show(pd m h n d).j=(pth m h n).j from rfl,uY hp hd q0];dsimp only;rw[<-uZ (mv:=mv) (led:=led) (ps:=ps) (ds:=ds)];rfl
  rcases on with⟨i,hi,c⟩|⟨d2,e2,q1,one⟩
  refine⟨d,λ_=>rfl,.inr ⟨n,i,Ak _,q,hi,c,λG U=>?_,λB i a b=>absurd a (by omega)⟩⟩;rw[probe.go,show(pd m h n d).j=(pth m h n).j from rfl,eB hr hi];dsimp only;rw[if_pos (by rw[U i (Au.mp hi).1,c];simp),uZ];have step:∀{I B:Nat} {W:Nat},(∀B i,n+1<=B->B<I->ps[i]? = some (pth m h B).j->g i≠h)->n<=B->B<I->ps[W]? = some (pth m h B).j->g W≠h:=λH a b L=>by rcases BN n _ with z|z;exact H _ _ z b L;have:_=n:=Jm z a;rw[this] at L;exact q1 _ L
  obtain⟨d',e',⟨e,H⟩|⟨I,W,a1,a2,a3,a4,a5,a6⟩⟩:=sM hr hd g hN hl f (n+1) d2 (by omega) (by omega);exact⟨d',λz=>(e' z).trans (e2 z),.inl ⟨λG U=>(one G U).trans (e G U),λI W a b c=>step H a b c⟩⟩;exact⟨d',λz=>(e' z).trans (e2 z),.inr ⟨I,W,by omega,a2,a3,a4,λG U=>(one G U).trans (a5 G U),λB q2 a b c=>step a6 a b c⟩⟩;obtain rfl:n=N:=by omega
  refine⟨d,λ_=>rfl,.inl ⟨λG U=>?_,λI i a b=>absurd a (by omega)⟩⟩;rw[probe.go,show(pd m h n d).j=(pth m h n).j from rfl,uX (λz=>hN (AB _ z)) (λz=>hN (As _ z))];rfl
noncomputable def lps(m:Nat)(h:Int):Nat->Nat×Nat
 | 0=>(bits h % (m+1),bits h)
 | c+1=>leap m (lps m h c).1 (lps m h c).2
noncomputable def rn(m:Nat)(x:Nat×Nat)(k:Nat):Probe:={ j:=x.1+k,more:=runEnd m x.1-x.1-k,i:=x.1,perturb:=x.2,dummy:=none }
noncomputable def off(m:Nat)(h:Int):Nat->Nat
 | 0=>0|c+1=>off m h c+(runEnd m (lps m h c).1-(lps m h c).1)+1
theorem aAU(i:Nat):i<=runEnd m i/\runEnd m i<=i+9:=by unfold runEnd;split <;> omega
theorem kB:∀c,(∀k,k<=runEnd m (lps m h c).1-(lps m h c).1->pth m h (off m h c+k)=rn m (lps m h c) k):=by
 have more:∀{c},pth m h (off m h c)=rn m (lps m h c) 0->∀k,k<=runEnd m (lps m h c).1-(lps m h c).1->pth m h (off m h c+k)=rn m (lps m h c) k:=by
  intro c e k
  induction k with
  | zero=>intro _;exact e|succ k g=>intro q;show stp m (pth m h (off m h c+k))=_;rw[g (by omega)];unfold stp DW;rw[if_pos (show(rn m (lps m h c) k).more>0 by show runEnd m (lps m h c).1-(lps m h c).1-k>0;omega)];rfl
 intro c
 induction c with
 | zero=>exact more rfl|succ c g=>refine more ?_;show stp m (pth m h (off m h c+(runEnd m (lps m h c).1-(lps m h c).1)))=_;rw[g _ (Ak _)];unfold stp DW;rw[if_neg (show ¬ (rn m (lps m h c) _).more>0 by show ¬ (runEnd m (lps m h c).1-(lps m h c).1-(runEnd m (lps m h c).1-(lps m h c).1)>0);omega)];rfl
theorem vA:∀c,off m h c<=10*c
 | 0=>Ak _|c+1=>by have:=vA c;have:=aAU (m:=m) (lps m h c).1;show off m h c+(runEnd m (lps m h c).1-(lps m h c).1)+1<=_;omega
theorem wM:∀c,(lps m h c).2=bits h / 32 ^ c
 | 0=>by rw[Nat.pow_zero,Nat.div_one];rfl|c+1=>by show(lps m h c).2 / 32=_;rw[wM c,Nat.div_div_eq_div_mul,K6]
theorem aCN:∀c,(lps m h c).1<m+1
 | 0=>G9 _ (Fl _)|c+1=>G9 _ (Fl _)
theorem aFk(n:Nat):(pth m h n).j<m+1:=by
 have run:∀i,i<m+1->i+(runEnd m i-i)<m+1:=λi hi=>by unfold runEnd;split <;> omega
 have:∀n,(pth m h n).j+(pth m h n).more<m+1:=by
  intro n
  induction n with
  | zero=>exact run _ (G9 _ (Fl _))|succ n g=>show(stp m (pth m h n)).j+(stp m (pth m h n)).more<m+1;unfold stp DW;split;rename_i q;show(pth m h n).j+1+((pth m h n).more-1)<m+1;omega;exact run _ (G9 _ (Fl _))
 exact HM (EF _ _) (this n)
noncomputable def itr(m:Nat):Nat->Nat->Nat
 | 0,i=>i|d+1,i=>(itr m d i*5+1) % (m+1)
theorem wN:∀d,lps m h (13+d)=(itr m d (lps m h 13).1,0):=by
 have z:(lps m h 13).2=0:=by
  rw[wM];refine Nat.div_eq_of_lt ?_;have:bits h<2 ^ 64:=by unfold bits;have:=BR h (b:=2 ^ 64) (by decide);have:=C6 h (b:=2 ^ 64) (by decide);omega
  exact AF this (by decide)
 intro d
 induction d with
 | zero=>exact KM rfl z|succ d g=>show leap m (lps m h (13+d)).1 (lps m h (13+d)).2=_;rw[g];unfold leap;simp[itr]
abbrev M2(m:Nat):Prop:=∃k,k<10/\m+1=2 ^ (k+3)
noncomputable def orb(m:Nat):Nat->Nat->Nat->Nat
 | 0,_,acc=>acc|d+1,i,acc=>orb m d ((i*5+1) % (m+1)) (acc ||| 2 ^ i)
theorem orb_bit(m:Nat){j:Nat}:∀(d e i acc:Nat),i=itr m e 0->(orb m d i acc).testBit j=true->acc.testBit j=true\/∃d',d'<e+d/\itr m d' 0=j
 | 0,_,_,_,_,h=>.inl h|d+1,e,i,acc,hi,h=>by
  rcases orb_bit m d (e+1) _ _ (by rw[hi];rfl) h with h|⟨d',a,b⟩
  rw[Nat.testBit_or,B8] at h;rcases h with h|h;exact .inl h;rw[Nat.testBit_two_pow,Ax] at h;exact .inr ⟨e,by omega,by rw[<-hi];exact h⟩;exact .inr ⟨d',by omega,b⟩
theorem hZ(m:Nat)(i:Nat):∀d e,itr m (d+e) i=itr m d (itr m e i)
 | 0,e=>by rw[DV];rfl|d+1,e=>by rw[show d+1+e=(d+e)+1 by omega];show(itr m (d+e) i*5+1) % (m+1)=(itr m d (itr m e i)*5+1) % (m+1);rw[hZ m i d e]
noncomputable def aHB(m:Nat):Bool:=orb m (m+1) 0 0==2 ^ (m+1)-1
noncomputable def itN(m:Nat):Nat->Nat->Nat
 | 0,i=>i|d+1,i=>itN m d ((i*5+1) % (m+1))
theorem wP(m:Nat):∀d i,itN m d i=itr m d i
 | 0,_=>rfl|d+1,i=>by show itN m d ((i*5+1) % (m+1))=_;rw[wP m d,show((i*5+1) % (m+1))=itr m 1 i from rfl,<-hZ]
theorem aCO:∀k∈AA 10,aHB (2 ^ (k+3)-1)=true/\itN (2 ^ (k+3)-1) (2 ^ (k+3)) 0=0:=by decide +kernel
theorem aDQ(W:M2 m){j:Nat}(G:j<m+1):∃c,c<m+14/\(lps m h c).1=j:=by
 obtain⟨k,U,e⟩:=W;obtain⟨M,I⟩:=aCO k (Bb.mpr U);rw[show 2 ^ (k+3)-1=m by omega] at M I;rw[<-e,wP] at I;have fr:∀j,j<m+1->∃d,d<m+1/\itr m d 0=j:=λj G=>by
  have b:(orb m (m+1) 0 0).testBit j=true:=by rw[eq_of_beq (show(orb m (m+1) 0 0==2 ^ (m+1)-1)=true from M),Nat.testBit_two_pow_sub_one];exact Aw G
  rcases orb_bit m (m+1) 0 0 0 rfl b with z|⟨d,a,b⟩
  rw[Nat.zero_testBit] at z;cases z;exact⟨d,by omega,b⟩
 obtain⟨g,a1,b1⟩:=fr _ (aCN (m:=m) (h:=h) 13);obtain⟨B,a2,L⟩:=fr j G;rcases BN B g with q|q;refine⟨13+(B+(m+1)-g),by omega,?_⟩;rw[wN];show itr m _ _=j;rw[<-b1,<-hZ,show B+(m+1)-g+g=B+(m+1) by omega,hZ,I];exact L;refine⟨13+(B-g),by omega,?_⟩;rw[wN];show itr m _ _=j;rw[<-b1,<-hZ,show B-g+g=B by omega];exact L
theorem nT(B:ps.length<=m):∃j,j<m+1/\j∉ps:=by refine CO λq=>?_;have:=IS.length_le_of_subset (l₁:=AA (m+1)) (l₂:=ps) λj g=>CO λz=>q ⟨j,Bb.mp g,z⟩;rw[B3] at this;omega
theorem aFl{P:Nat->Prop}:∀n,P n->∃k,k<=n/\P k/\∀i,i<k->¬ P i:=by
 intro n
 induction n using Nat.strongRecOn with
 | _ n g=>intro h;by_cases q:∃i,i<n/\P i;obtain⟨i,a,b⟩:=q;obtain⟨k,c,d⟩:=g i a b;exact⟨k,by omega,d⟩;exact⟨n,Ak _,h,λi hi z=>q ⟨i,hi,z⟩⟩
theorem lR(I:M2 m)(G:ps.length<=m)(h:Int):∃N,N<10*(m+15)/\(pth m h N).j∉ps/\∀n,n<N->(pth m h n).j∈ps:=by
 obtain⟨j,a,b⟩:=nT G;obtain⟨c,d,e⟩:=aDQ (h:=h) I a;have z:(pth m h (off m h c)).j=j:=by have:=kB (m:=m) (h:=h) c 0 (AS _);rw[Iz] at this;rw[this];exact e
 obtain⟨N,a1,g,B⟩:=aFl (P:=λn=>(pth m h n).j∉ps) (off m h c) (by rw[z];exact b);have:=vA (m:=m) (h:=h) c;exact⟨N,by omega,g,λn L=>CO λq=>B n L q⟩
end
noncomputable def Rod(m:Nat)(P:Nat->Prop)(h:Int)(j:Nat):Prop:=∃n,n<10*(m+15)/\(pth m h n).j=j/\∀n',n'<n->P (pth m h n').j
theorem Rod.mono{m:Nat}{P g:Nat->Prop}{h:Int}{j:Nat}(B:∀x,P x->g x):Rod m P h j->Rod m g h j:=λ⟨n,a,b,c⟩=>⟨n,a,b,λG q=>B _ (c G q)⟩
theorem wQ{m:Nat}{h:Int}(ow:Array (Option Nat)):∀G c,(∃I,c<=I/\I<c+G/\ow.getD (lps m h I).1 (some 0)=none) ->
 ∃n j,layClean.free m ow G (lps m h c).1 (lps m h c).2=some j/\n<10*(c+G)/\(pth m h n).j=j/\ow.getD j (some 0)=none/\∀g,off m h c<=g->g<n->ow.getD (pth m h g).j (some 0)≠none
 | 0,c,⟨I,a,b,_⟩=>absurd b (by omega)|f+1,c,⟨I,a,b,e⟩=>by
  rw[layClean.free];have hr:=aAU (m:=m) (lps m h c).1;have ho:=vA (m:=m) (h:=h) c;cases q:(AA (runEnd m (lps m h c).1+1-(lps m h c).1)).find? λk=>(ow.getD ((lps m h c).1+k) (some 0)).isNone with
  | some k=>
   obtain⟨k1,k2,L⟩:=List.find?_range_eq_some.mp q;have q1:=Bb.mp k2;have at_:∀B,B<=k->(pth m h (off m h c+B)).j=(lps m h c).1+B:=λB U=>by rw[kB c B (by omega)];rfl
   refine⟨off m h c+k,(lps m h c).1+k,rfl,by omega,at_ k (Ak _),by simpa using k1,λg W M=>?_⟩;have:=at_ (g-off m h c) (by omega);rw[show off m h c+(g-off m h c)=g by omega] at this;rw[this];have:=L (g-off m h c) (by omega);intro z;rw[z] at this;simp at this
  | none=>
   have L:=List.find?_range_eq_none.mp q;have at_:∀B,B<=runEnd m (lps m h c).1-(lps m h c).1->ow.getD (pth m h (off m h c+B)).j (some 0)≠none:=λB U=>by rw[kB c B U];intro z;have:=L B (by omega);rw[show ow.getD ((lps m h c).1+B) (some 0)=none from z] at this;simp at this
   have q0:c≠I:=λz=>by subst z;have:=at_ 0 (AS _);rw[kB c 0 (AS _)] at this;exact this e
   obtain⟨n,j,r1,r2,r3,r4,r5⟩:=wQ ow f (c+1) ⟨I,by omega,by omega,e⟩;refine⟨n,j,r1,by omega,r3,r4,λg W M=>?_⟩;rcases BN g (off m h (c+1)) with z|z;have z':g<off m h c+(runEnd m (lps m h c).1-(lps m h c).1)+1:=z;have:=at_ (g-off m h c) (by omega);rw[show off m h c+(g-off m h c)=g by omega] at this;exact this;exact r5 g z M
structure Ow (m:Nat) (hs:List Int) (ow:Array (Option Nat)) (ps:List Nat):Prop where
 sz:ow.size=m+1
 len:ps.length=hs.length
 at_:∀j x:Nat,ow[j]? = some (some x)↔ps[x]? = some j
 rod:∀(x:Nat) h j,hs[x]? = some h->ps[x]? = some j->Rod m (·∈ps) h j
theorem Ow.step{m:Nat}(hm:M2 m){hs:List Int}{ow:Array (Option Nat)}{ps:List Nat}(o:Ow m hs ow ps)(hl:hs.length<=m)(h:Int):∃j,layClean.free m ow (turns m) (bits h % (m+1)) (bits h)=some j/\Ow m (hs++[h]) (ow.setIfInBounds j (some hs.length)) (ps++[j]):=by
 have g:∀j,ow.getD j (some 0)≠none->j<m+1->j∈ps:=λj B q0=>by
  cases q:ow[j]? with
  | none=>rw[F6,o.sz] at q;omega|some y=>
   cases y with
   | none=>exact absurd (by simp[CA,q]) B|some x=>exact mG ((o.at_ j x).mp q)
 obtain⟨j0,a,b⟩:=nT (m:=m) (ps:=ps) (by rw[o.len];exact hl);obtain⟨c,d,e⟩:=aDQ (h:=h) hm a;obtain⟨n,j,r1,r2,r3,I,r5⟩:=wQ (m:=m) (h:=h) ow (m+15) 0 ⟨c,AS _,by omega,by
  rw[e];exact CO λq=>b (g j0 q a)⟩
 have B:ow[j]? = some none:=by
  rw[CA] at I;cases q:ow[j]? with
  | none=>rw[q] at I;cases I|some y=>rw[q] at I;exact congrArg some I
 have G:j<m+1:=by rw[<-o.sz];exact(Cf.mp B).1
 refine⟨j,r1,by rw[FY];exact o.sz,by rw[lA,lA,o.len];rfl,λU x=>?_,λx h' U L M=>?_⟩;rw[Array.getElem?_setIfInBounds];by_cases q:j=U;subst q;rw[if_pos rfl,if_pos (by rw[o.sz];exact G)];constructor;intro z;cases z;rw[<-o.len];simp;intro z;rcases BN x ps.length with k|k;rw[AE k] at z;rw[(o.at_ j x).mpr z] at B;cases B;rw[AD k] at z;have:x-ps.length=0:=by have:=(Au.mp z).1;simp at this;omega
 rw[show x=hs.length by have:=o.len;omega];rw[if_neg q,o.at_ U x];constructor;intro z;rw[AE (Au.mp z).1];exact z;intro z;rcases BN x ps.length with k|k;rw[AE k] at z;exact z;rw[AD k] at z;have:=mG z;exact absurd (A3.mp this).symm q;rcases BN x hs.length with k|k;rw[AE k] at L;rw[AE (by rw[o.len];exact k)] at M;exact(o.rod x h' U L M).mono λy hy=>AB _ hy;rw[AD k] at L;rw[AD (by rw[o.len];exact k)] at M;obtain rfl:=(A3.mp (mG L))
 obtain rfl:=(A3.mp (mG M))
 exact⟨n,by omega,r3,λW hn=>AB _ (g _ (r5 W (AS _) hn) (aFk W))⟩
set_option maxRecDepth 100000
theorem Ow.nil{m:Nat}:Ow m [] (EZ (m+1) none) [] where
 sz:=by simp
 len:=rfl
 at_:=λj x=>by rw[Array.getElem?_replicate];constructor;intro z;split at z <;> cases z;intro z;simp at z
 rod:=λx h j g=>by simp at g
noncomputable def aFm(m:Nat)(acc:Option (Array (Option Nat)×Nat))(h:Int):Option (Array (Option Nat)×Nat):=do
 let (owner,k)<-acc
 let j<-layClean.free m owner (turns m) (bits h % (m+1)) (bits h)
 pure (owner.setIfInBounds j (some k),k+1)
theorem sN{m:Nat}(B:M2 m):∀(rest hs:List Int) (ow:Array (Option Nat)) (ps:List Nat),Ow m hs ow ps->hs.length+rest.length<=m->∃g q,rest.foldl (aFm m) (some (ow,hs.length))=some (g,(hs++rest).length)/\Ow m (hs++rest) g q
 | [],hs,ow,ps,o,_=>⟨ow,ps,by rw[Bg];rfl,by rw[Bg];exact o⟩
 | h::rest,hs,ow,ps,o,hl=>by
  rw[lC] at hl;obtain⟨j,e,o'⟩:=o.step B (by omega) h;have:=sN B rest (hs++[h]) _ _ o' (by rw[lA];show hs.length+1+rest.length<=m;omega);rw[AG,lA] at this;have G:aFm m (some (ow,hs.length)) h=some (ow.setIfInBounds j (some hs.length),hs.length+1):=by show(do let j<-layClean.free m ow (turns m) (bits h % (m+1)) (bits h);pure (ow.setIfInBounds j (some hs.length),hs.length+1))=_;rw[e];rfl
  rw[C3,G];exact this
theorem wR{m:Nat}(hm:M2 m)(hs:List Int)(hl:hs.length<=m)(f mv:Nat)(led pl:Bool):∃g:List (Nat×Nat),
 laid m f mv led pl hs.toArray=some ({ mask:=m,place:=(g.map (·.1)).toArray,dummies:=#[],finger:=f,led:=led,moves:=mv,plain:=pl },(g.map (·.2)).toArray) /\
 eL (g.map (·.1))/\(g.map (·.2)).Perm (AA hs.length)/\∀p∈g,∀h,hs[p.2]? = some h->Rod m (·∈g.map (·.1)) h p.1:=by
 obtain⟨ow,ps,e,o⟩:=sN hm hs [] _ _ Ow.nil (by simpa using hl);rw[Dz] at e o;refine⟨(AA (m+1)).filterMap λj=>(ow.getD j none).map (j,·),?_,?_,?_,?_⟩
 . unfold laid;have:layClean m hs.toArray=some ow:=by unfold layClean;rw[<-HJ];show(hs.foldl (aFm m) (some (EZ (m+1) none,0))).map (·.1)=some ow;rw[show(some (EZ (m+1) none,0):Option (Array (Option Nat)×Nat))=some (EZ (m+1) none,([]:List Int).length) from rfl,e];rfl
   rw[this];rfl
 all_goals
  have mem:∀j x,(ow.getD j none).map (j,·)=some x->x.1=j/\ps[x.2]? = some j:=λj x B=>by
   rw[CA] at B;cases q:ow[j]? with
   | none=>rw[q] at B;cases B|some y=>
    rw[q] at B;cases y with
    | none=>cases B|some z=>cases B;exact⟨rfl,(o.at_ j z).mp q⟩
 . rw[eL,C2];exact Gk _ (λa a' h b L b' I=>by rw[(mem _ _ L).1,(mem _ _ I).1];exact h) E2
 all_goals
  have G:∀x j,ps[x]? = some j->(j,x)∈(AA (m+1)).filterMap λj=>(ow.getD j none).map (j,·):=λx j B=>by have q:=(o.at_ j x).mpr B;refine BP.mpr ⟨j,Bb.mpr (by rw[<-o.sz];exact(Cf.mp q).1),?_⟩;rw[CA,q];rfl
 refine(List.perm_ext_iff_of_nodup ?_ IS).mpr λx=>?_;rw[List.Nodup,C2];exact Gk _ (λa a' h b L b' I z=>by
  have W:=(mem _ _ L).2;have h2:=(mem _ _ I).2;rw[z,h2] at W;cases W;exact AL _ h) E2
 rw[Bb,<-o.len];constructor;intro q;obtain⟨p,U,rfl⟩:=Ag.mp q;obtain⟨j,_,M⟩:=BP.mp U;exact(Au.mp (mem _ _ M).2).1;intro q;exact Ag.mpr ⟨(ps[x],x),G _ _ (Ah q),rfl⟩;intro p U h hh;obtain⟨j,_,M⟩:=BP.mp U;obtain⟨e1,e2⟩:=mem _ _ M;rw[e1];refine(o.rod p.2 h j hh e2).mono λy hy=>?_;obtain⟨x,B⟩:=Bm.mp hy;exact Ag.mpr ⟨(y,x),G _ _ B,rfl⟩
set_option maxRecDepth 100000
structure SK (prog:A0) (w:AR) (K:Type) [DecidableEq K] extends KR prog w K where
 noCl:∀{A:AJ} {E:Ad->Ac->Prop} {s:Ac} {k:K} {a:Addr} {Q:Bool->Ac->Prop},is s.heap k a->Q false s->Am (A4 prog w) A (Cg 8 (.ref a)) Q E s
 byV:∀{A:AJ} {E:Ad->Ac->Prop} {s:Ac} {k:K} {a:Addr} {Q:Bool->Ac->Prop},is s.heap k a->Q true s->Am (A4 prog w) A (Em 8 (.ref a)) Q E s
 keepT:∀{h h':Heap} {k:K} {a:Addr},is h k a->(∀b o,h.get? b=some o->h'.get? b=some o)->is h' k a
noncomputable def byTt(w:AR):Bool:=w.params.followText "set-order"
section
variable {prog:A0} {w:AR} {K:Type} [DecidableEq K] (knd:SK prog w K)
noncomputable def sen(xs:List (K×Addr)):Array (Int×Ad):=(xs.map λx=>(knd.hash x.1,Ay x.2)).toArray
theorem aM(xs:List (K×Addr)):(sen knd xs).size=xs.length:=by unfold sen;rw[Aj,lM]
theorem lT(xs:List (K×Addr))(i:Nat):(sen knd xs)[i]? = (xs[i]?).map λx=>(knd.hash x.1,Ay x.2):=by unfold sen;rw[B0,A5]
structure Tb (xs:List (K×Addr)) (m:Nat) (ps:List Nat):Prop where
 m2:M2 m
 rise:eL ps
 len:ps.length=xs.length
 nd:(xs.map (·.1)).Nodup
 few:xs.length*5<m*3
 rod:∀(i:Nat) x j,xs[i]? = some x->ps[i]? = some j->Rod m (·∈ps) (knd.hash x.1) j
structure TD (xs:List (K×Addr)) (m:Nat) (ps ds:List Nat):Prop where
 m2:M2 m
 rise:eL ps
 rd:eL ds
 dj:∀j∈ps,j∉ds
 len:ps.length=xs.length
 nd:(xs.map (·.1)).Nodup
 few:(xs.length+ds.length)*5<m*3
 rod:∀(i:Nat) x j,xs[i]? = some x->ps[i]? = some j->Rod m (·∈ps++ds) (knd.hash x.1) j
theorem M2.le{m:Nat}(h:M2 m):7<=m/\m<=4095:=by obtain⟨k,B,e⟩:=h;have g:2 ^ 3<=2 ^ (k+3):=EQ (by decide) (by omega);have q:2 ^ (k+3)<=2 ^ 12:=EQ (by decide) (by omega);omega
variable {knd}
theorem Tb.lt{xs:List (K×Addr)}{m:Nat}{ps:List Nat}(T:Tb knd xs m ps):ps.length<m:=by have g:=T.len;have q:=T.few;omega
theorem Tb.toD{xs:List (K×Addr)}{m:Nat}{ps:List Nat}(T:Tb knd xs m ps):TD knd xs m ps []:=⟨T.m2,T.rise,Cc,λ_ _ z=>(by cases z),T.len,T.nd,T.few,λi x j a b=>(T.rod i x j a b).mono λ_ z=>AB _ z⟩
theorem TD.lt{xs:List (K×Addr)}{m:Nat}{ps ds:List Nat}(T:TD knd xs m ps ds):ps.length+ds.length<m:=by have g:=T.len;have q:=T.few;omega
variable (knd)
noncomputable def dR(xs:List (K×Addr))(ep m:Nat)(ps ds:List Nat)(mv:Nat):Obj:={ cls:=.type "set",dict:=none,data:=.set (sen knd xs) ep (tmd m ps ds mv (!byTt w)),slots:=#[] }
abbrev setT(xs:List (K×Addr))(ep m:Nat)(ps:List Nat)(mv:Nat):Obj:=dR knd xs ep m ps [] mv
variable {knd}
theorem TD.fits{xs:List (K×Addr)}{m:Nat}{ps ds:List Nat}(T:TD knd xs m ps ds){mv:Nat}{led:Bool}:(tmd m ps ds mv led).fits (sen knd xs).size=true:=by have g:=T.len;have q:=T.lt;unfold Kg D5 tmd;rw[aM];simp;omega
theorem Tb.fits{xs:List (K×Addr)}{m:Nat}{ps:List Nat}(T:Tb knd xs m ps){mv:Nat}{led:Bool}:(tm m ps mv led).fits (sen knd xs).size=true:=T.toD.fits
end
section
variable {prog:A0} {w:AR} {K:Type} [DecidableEq K] {knd:SK prog w K} {A:AJ} {E:Ad->Ac->Prop} {s:Ac} {S a:Addr} {k:K} {xs:List (K×Addr)} {m mv ep:Nat} {ps ds:List Nat}
theorem aFn{Q:Bool->Ac->Prop}(L:knd.is s.heap k a):∀(ys:List (K×Addr)),(∀y∈ys,knd.is s.heap y.1 y.2)->Q false s->Am (A4 prog w) A (IA (.ref a) (ys.map λy=>Ay y.2)) Q E s:=by
 intro ys I h;unfold IA;refine Aa (Bv _ (λrest r B=>r.1=none/\B=s/\∃q:List (K×Addr),rest=q.map (λy=>Ay y.2)/\∀y∈q,knd.is s.heap y.1 y.2) _ ?_ ?_ _ _ ⟨rfl,rfl,ys,rfl,I⟩);rintro v rest r B ⟨G,rfl,q,M,g⟩;cases q with
 | nil=>cases M|cons z q=>cases M;dsimp only;have U:∀y∈q,knd.is B.heap y.1 y.2:=λy I=>g y (Af _ I);by_cases c:((a==z.2)||(DH (.ref a)&&DH (.ref z.2)))=true;rw[if_pos c];exact Ab ⟨rfl,rfl,q,rfl,U⟩;rw[if_neg c];refine Aa (knd.quiet L ?_);rw[if_neg (by decide)];refine Aa (knd.quiet (g z Ai) ?_);rw[if_neg (by decide)];refine Aa (knd.noCl L ?_);rw[if_neg (by decide)];refine Aa (knd.noCl (g z Ai) ?_);rw[if_neg (by decide)];exact Ab ⟨rfl,rfl,q,rfl,U⟩
 rintro ⟨W,r2⟩ B ⟨G,rfl,_⟩;simp only at G;subst G;exact Ab h
theorem aJI(T:TD knd xs m ps ds){led:Bool}:(tmd m ps ds mv led).gaveWay=false:=by
 have:m % 2=1:=by obtain⟨k,_,e⟩:=T.m2;rw[show k+3=k+2+1 by omega,K6] at e;omega
 simp[LJ,tmd,this]
theorem prb{led:Bool}{h:Int}{p:Probe}{met:Met}(e:∀g,(∀i,i<ps.length->g i=((xs[i]?).map λx=>knd.hash x.1).getD 0)->probe.go (tmd m ps ds mv led) g h (10*turns m) p=some met)(g:Nat->Int)(q:∀i,g i=(((sen knd xs)[i]?).map (·.1)).getD 0):(tmd m ps ds mv led).probe g h p=some met:=
 e g λi _=>by rw[q,lT,Option.map_map];rfl
theorem yO(k:K):((sen knd xs).filter λx=>x.1==knd.hash k).toList.map (·.2)=(xs.filter λx=>knd.hash x.1==knd.hash k).map λy=>Ay y.2:=by unfold sen;rw[Array.toList_filter,List.filter_map,AM];rfl
theorem iY(hu:knd.room A)(T:TD knd xs m ps ds)(ho:s.heap.get? S=some (dR knd xs ep m ps ds mv))(hk:∀x∈xs,knd.is s.heap x.1 x.2)(ha:knd.is s.heap k a){N:Nat}(hN:(pth m (knd.hash k) N).j∉ps++ds)(hl:∀n,n<N->(pth m (knd.hash k) n).j∈ps++ds)(hb:N<10*(m+15)){Q:SetFound->Ac->Prop}
 {ad:Bool} (W:ad=true->ds=[]) (h1:k∈xs.map (·.1)->∀r:Option Nat,(ad=true->r=none)->(ad=false->∃i a,r=some i/\xs[i]? = some (k,a))->Q (.there r) s) (h2:k∉xs.map (·.1)->∀j b,(ds=[]->j=(pth m (knd.hash k) N).j/\b=false)->Q (.free j b) s):∀B n d g,(ds=[]->d=none)->n<=N->N-n<B->(∀M (i:Nat) x,M<n->ps[i]? = some (pth m (knd.hash k) M).j->xs[i]? = some x->x.1≠k)->g.getD (pth m (knd.hash k) 0)=pd m (knd.hash k) n d ->
 Am (A4 prog w) A (Hw S (.ref a) (knd.hash k) ad B g) Q E s
 | 0,n,_,_,_,_,hf,_,_=>absurd hf (C5 _)|f+1,n,d,g,hd0,hn,hf,hno,hst=>by
  rw[Hw];refine Aa (AH ho rfl T.fits ?_);dsimp only;rw[if_neg (by rw[aJI T];decide)];rw[show(tmd m ps ds mv (!byTt w)).probeStart (knd.hash k)=pth m (knd.hash k) 0 from rfl,hst];have q8:=T.len;obtain⟨d',ed,⟨e,H⟩|⟨M,i,a1,a2,a3,a4,e,H⟩⟩:=sM (mv:=mv) (led:=!byTt w) T.rise T.rd (λi=>((xs[i]?).map λx=>knd.hash x.1).getD 0) hN hl (10*turns m) n d hn (by unfold turns;omega)
  all_goals
   rw[prb e]
   rotate_left
   exact λ_=>rfl
  dsimp only;have key:k∉xs.map (·.1):=λhm=>?key;cases d' with
  | none=>exact Ab (h2 key _ _ λ_=>⟨rfl,rfl⟩)|some y=>
   have nz:ds≠[]:=λz=>by have:=(ed z).trans (hd0 z);cases this
   dsimp only;rw[if_neg (by
    cases ad with
    | true=>exact absurd (W rfl) nz|false=>simp)]
   exact Ab (h2 key _ _ λz=>absurd z nz)
  obtain⟨x,I,rfl⟩:=Ag.mp hm;obtain⟨i,hi⟩:=Bm.mp I;have q5:=(Au.mp hi).1;obtain⟨U,b1,b2,b3⟩:=T.rod i x _ hi (Ah (by omega));have b4:ps[i]? = some (pth m (knd.hash x.1) U).j:=by rw[b2];exact Ah _
  have q6:U<N:=by rcases FN U N with z|z|z;exact z;exact absurd (AB _ (mG b4)) (by rw[z];exact hN);exact absurd (b3 N z) hN
  rcases BN U n with z|z;exact hno U i x z b4 hi rfl;exact H U i z q6 b4 (by rw[hi];rfl)
  . have q5:=(Au.mp a3).1;obtain⟨x,I⟩:∃x,xs[i]? = some x:=⟨_,Ah (by omega)⟩
    have L:=mG I;have q4:x.1≠k->Am (A4 prog w) A (Hw S (.ref a) (knd.hash k) ad f (some (pd m (knd.hash k) (M+1) d'))) Q E s:=λc=>
     iY hu T ho hk ha hN hl hb W h1 h2 f (M+1) d' _ (λz=>(ed z).trans (hd0 z)) (by omega) (by omega) (λq q0 q7 q1 q2 q3=>by
      rcases BN q n with z|z;exact hno q q0 q7 z q2 q3;rcases BN q M with z'|z';intro z3;exact H q q0 z z' q2 (by rw[q3];exact congrArg knd.hash z3);obtain rfl:q=M:=by omega
      have:=(iX T.rise a3).symm.trans (iX T.rise q2);subst this;rw[I] at q3;cases q3;exact c) rfl
    dsimp only;split
    case' isTrue=>refine Aa ?_;rw[yO];refine aFn ha _ (λy hy=>hk y (B6.mp hy).1) ?_;rw[if_neg (by decide)]
    all_goals
     rw[lT,I];dsimp only[EY];refine Aa (AI (knd.eqBool hu (hk x L) ha ?_));refine Aa (AH ho rfl T.fits ?_);dsimp only;by_cases G:(ad&&decide (x.1=k))=true;rw[if_pos G];rw[bA,Ax] at G;exact Ab (h1 (Ag.mpr ⟨x,L,G.2⟩) none (λ_=>rfl) λz=>by rw[G.1] at z;cases z);rw[if_neg G,show(tmd m ps ds mv (!byTt w)).sameMemory (tmd m ps ds mv (!byTt w)).moves (tmd m ps ds mv (!byTt w)).mask=some true by unfold Ln;rw[if_pos (beq_self_eq_true _)]];dsimp only;rw[if_pos rfl,eB T.rise a3];dsimp only;rw[lT,I];dsimp only[EY];refine Aa ?_;unfold isSame;dsimp only;rw[if_pos (beq_self_eq_true _)];refine Ab (Aa (Ab ?_));rw[if_pos rfl];dsimp only;by_cases c:x.1=k;rw[if_pos (by simp[c])];refine Ab (h1 (Ag.mpr ⟨x,L,c⟩) _ (λz=>?_) λ_=>⟨i,x.2,rfl,c▸I⟩);rw[z,c] at G;simp at G;rw[if_neg (by simp[c])];exact q4 c
end
set_option maxRecDepth 100000
noncomputable def cJ{α:Type}(l:List α)(p:Nat)(x:α):List α:=l.take p++x::l.drop p
theorem eM{α:Type}(l:List α)(p:Nat)(x:α):IB l.toArray p x=(cJ l p x).toArray:=by unfold IB cJ;apply Lx;simp[FC];rw[Ce (by rw[BC];omega)]
theorem eC{α:Type}{l:List α}{p:Nat}{x:α}:(cJ l p x).length=l.length+1:=by unfold cJ;rw[lA,lC,Bo,BC];omega
theorem dE{α:Type}{l:List α}{p:Nat}{x:α}:(cJ l p x).Perm (x::l):=by unfold cJ;refine List.perm_middle.trans ?_;rw[AV]
theorem wU{α:Type}{l:List α}{p:Nat}{x:α}(q:p<=l.length)(i:Nat):(cJ l p x)[i]? = if i<p then l[i]? else if i=p then some x else l[i-1]? := by unfold cJ;by_cases h:i<p;rw[if_pos h,AE (by rw[Bo];omega),F4,if_pos h];rw[if_neg h,AD (by rw[Bo];omega),Bo,Nat.min_eq_left q];by_cases g:i=p;rw[if_pos g,g,K3];rfl;rw[if_neg g,show i-p=(i-1-p)+1 by omega,gS,Ej,show p+(i-1-p)=i-1 by omega]
theorem sO{α g:Type}(f:α->g)(l:List α)(p:Nat)(x:α):(cJ l p x).map f=cJ (l.map f) p (f x):=by unfold cJ;rw[BM,mC,Hx,Hy]
theorem sP{ps:List Nat}(B:eL ps){j:Nat}(W:j∉ps):eL (cJ ps (below ps.toArray j) j):=by
 obtain⟨h1,M,U⟩:=bel B j;have L:∀i v,below ps.toArray j<=i->ps[i]? = some v->j<v:=λi v a b=>by have:=U i v a b;have:j≠v:=λz=>W (z▸mG b);omega
 unfold cJ eL;rw[Bc];refine⟨B.sublist (Ic _ _),Cm.mpr ⟨λv I=>?_,B.sublist (List.drop_sublist _ _)⟩,λv I u G=>?_⟩;obtain⟨i,hi⟩:=Bm.mp I;rw[Ej] at hi;exact L _ _ (EF _ _) hi;obtain⟨i,hi⟩:=Bm.mp I;rw[F4] at hi;split at hi;have q:=M i v ‹_› hi;rcases Al.mp G with rfl|G;exact q;obtain⟨i',g⟩:=Bm.mp G;rw[Ej] at g;exact Ex q (L _ _ (EF _ _) g);cases hi
theorem aFo{prog:A0}{w:AR}{K:Type}[DecidableEq K]{knd:SK prog w K}{xs:List (K×Addr)}{m:Nat}{ps:List Nat}(T:Tb knd xs m ps){k:K}{a:Addr}(I:k∉xs.map (·.1)){N:Nat}(G:N<10*(m+15))(W:(pth m (knd.hash k) N).j∉ps)(L:∀n,n<N->(pth m (knd.hash k) n).j∈ps) :
 let p:=below ps.toArray (pth m (knd.hash k) N).j
 (∀(i:Nat) x j,(cJ xs p (k,a))[i]? = some x->(cJ ps p (pth m (knd.hash k) N).j)[i]? = some j->Rod m (·∈cJ ps p (pth m (knd.hash k) N).j) (knd.hash x.1) j)/\((cJ xs p (k,a)).map (·.1)).Nodup:=by intro p;have B:p<=ps.length:=(bel T.rise _).1;have sub:∀y,y∈ps->y∈cJ ps p (pth m (knd.hash k) N).j:=λy U=>dE.mem_iff.mpr (Af _ U);refine⟨λi x j q g=>?_,?_⟩;rw[wU (by rw[<-T.len];exact B)] at q;rw[wU B] at g;split at q;rw[if_pos ‹_›] at g;exact(T.rod i x j q g).mono sub;rw[if_neg ‹_›] at g;split at q;rw[if_pos ‹_›] at g;cases q;cases g;exact⟨N,G,rfl,λn M=>sub _ (L n M)⟩;rw[if_neg ‹_›] at g;exact(T.rod _ x j q g).mono sub;rw[sO];exact(dE.nodup_iff).mpr (Bu.mpr ⟨I,T.nd⟩)
theorem pW{α:Type}{xs:List α}:∀(l:List Nat),(∀x∈l,x<xs.length)->(l.filterMap λi=>xs[i]?).length=l.length/\∀i:Nat,(l.filterMap λi=>xs[i]?)[i]? = (l[i]?).bind λi=>xs[i]?
 | [],_=>⟨rfl,λi=>by simp⟩
 | y::l,h=>by
  obtain⟨q,B⟩:=pW (xs:=xs) l λx G=>h x (Af _ G);have g:=h y Ai;rw[Dk,Ah g];dsimp only;refine⟨by rw[lC,lC,q],λi=>?_⟩;cases i with
  | zero=>simp[g]|succ i=>rw[gS,gS,B]
section
variable {prog:A0} {w:AR} {K:Type} [DecidableEq K] {knd:SK prog w K} {A:AJ} {E:Ad->Ac->Prop} {s:Ac} {S a:Addr} {k:K} {xs:List (K×Addr)} {m mv ep:Nat} {ps:List Nat}
theorem fG{h:Heap}{ds ds':List Nat}(I:h.get? S=some (dR knd xs ep m ps ds mv))(B:List (K×Addr))(G:Nat)(q:List Nat)(g:Nat):(h.update S (Ly (sen knd B) (tmd G q ds' g (!byTt w)))).get? S=some (dR knd B (ep+1) G q ds' g):=by have:=GN (Ly (sen knd B) (tmd G q ds' g (!byTt w))) I rfl;exact this
theorem aHC{led:Bool}{j:Nat}:(tm m ps mv led).put j=(tm m (cJ ps (below ps.toArray j) j) mv led,below ps.toArray j):=by unfold SetTable.put tm tmd;dsimp only;rw[eM,if_neg (by simp[has])]
theorem aCP(p:Nat):insertAt (sen knd xs) p (knd.hash k,Ay a)=sen knd (cJ xs p (k,a)):=by unfold sen;rw[eM,sO]
noncomputable def okS(n:Nat):Bool:=((AA 10).any λk=>sizeAbove n==2 ^ (k+3))&&decide (n<sizeAbove n)&&decide (sizeAbove n<=4096)
theorem aCQ:∀n∈AA 3000,okS n=true:=by decide +kernel
theorem pX(n:Nat)(h:n<3000):M2 (sizeAbove n-1)/\n<sizeAbove n/\sizeAbove n<=4096:=by have q:=aCQ n (Bb.mpr h);unfold okS at q;simp only[bA,Ax,EE,beq_iff_eq] at q;obtain⟨⟨⟨k,g,e⟩,B⟩,G⟩:=q;exact⟨⟨k,Bb.mp g,by omega⟩,B,G⟩
theorem pY{M wn:Nat}{ds:List Nat}(hM:M2 M)(hw:sizeAbove wn-1=M)(q7:¬ sizeAbove wn>sizeLine)(ho:s.heap.get? S=some (dR knd xs ep m ps ds mv))(hf:(tmd m ps ds mv (!byTt w)).fits (sen knd xs).size=true)(hl:xs.length*5<M*3)(q6:(xs.map (·.1)).Nodup){Q:Unit->Ac->Prop}
 (h:∀h' G q0 B q3,BA S s.heap h'->Tb knd G M q0->h'.get? S=some (setT knd G q3 M q0 B)->G.Perm xs->Q () { s with heap:=h' }):Am (A4 prog w) A (setRelay S wn) Q E s:=by
 unfold setRelay;refine Aa (AH ho rfl hf ?_);dsimp only;rw[if_neg q7];obtain⟨g,e,h1,I,h3⟩:=wR hM (xs.map λx=>knd.hash x.1) (by rw[lM];omega) 0 ((tmd m ps ds mv (!byTt w)).movedTo M) (!byTt w) true;have U:(tmd m ps ds mv (!byTt w)).relaid ((sen knd xs).map (·.1)) wn=some (tm M (g.map (·.1)) ((tmd m ps ds mv (!byTt w)).movedTo M) (!byTt w),(g.map (·.2)).toArray):=by
  have:(sen knd xs).map (·.1)=(xs.map λx=>knd.hash x.1).toArray:=by unfold sen;rw[IT,AM];rfl
  rw[this];unfold LQ;rw[hw];exact e
 rw[U];generalize (tmd m ps ds mv (!byTt w)).movedTo M=B;rw[lM] at I;have q5:∀x∈g.map (·.2),x<xs.length:=λx W=>Bb.mp (I.mem_iff.mp W);obtain⟨q1,q2⟩:=pW (xs:=xs) (g.map (·.2)) q5;have q:(g.map (·.2)).length=xs.length:=by rw[I.length_eq,B3]
 have q4:((g.map (·.2)).toArray.filterMap λi=>(sen knd xs)[i]?)=sen knd ((g.map (·.2)).filterMap λi=>xs[i]?):=by
  apply Dp.mp;rw[GA];unfold sen;show(g.map (·.2)).filterMap (λi=>(xs.map λx=>(knd.hash x.1,Ay x.2)).toArray[i]?)=((g.map (·.2)).filterMap λi=>xs[i]?).map λx=>(knd.hash x.1,Ay x.2)
  rw[HN];refine congrArg (λf=>JI f _) (funext λi=>?_);rw[B0,A5]
 refine Aa ?_;show Am _ _ (if (((g.map (·.2)).toArray.filterMap λi=>(sen knd xs)[i]?).size != (sen knd xs).size)=true then _ else _) _ _ _;rw[q4,if_neg (by rw[aM,aM,q1,q];simp)];refine Ab ?_;refine D8 ho rfl ?_ (by rw[aM,q1,q];have:=hM.le;exact A2 (show xs.length<=5000 by omega) (by decide));refine h _ ((g.map (·.2)).filterMap λi=>xs[i]?) (g.map (·.1)) B (ep+1) (BI s.heap S _) ?_ ?_ ?_;have pm:((g.map (·.2)).filterMap λi=>xs[i]?).Perm xs:=by have:=I.filterMap λi=>xs[i]?;rw[C7] at this;exact this
 refine⟨hM,h1,by rw[q1,lM,lM],((pm.map _).nodup_iff).mpr q6,by rw[q1,q];omega,λi x j W L=>?_⟩;rw[q2,A5] at W;rw[A5] at L;cases hp:g[i]? with
 | none=>rw[hp] at L;cases L|some p=>rw[hp] at W L;cases L;refine h3 p (mG hp) _ ?_;rw[A5,show xs[p.2]? = some x from W];rfl
 exact fG ho _ _ _ _;have:=I.filterMap λi=>xs[i]?;rw[C7] at this;exact this
theorem wV(hu:knd.room A)(T:Tb knd xs m ps)(U:s.heap.get? S=some (setT knd xs ep m ps mv))(hk:∀x∈xs,knd.is s.heap x.1 x.2)(ha:knd.is s.heap k a)(W:k∉xs.map (·.1)->xs.length<=700){Q:Bool->Ac->Prop}
 (h:∀h' b g m' B L G,BA S s.heap h'->Tb knd g m' B->h'.get? S=some (setT knd g G m' B L)->(if k∈xs.map (·.1) then g=xs else g.Perm ((k,a)::xs))->Q b { s with heap:=h' }):Am (A4 prog w) A (IC S (.ref a) (knd.hash k)) Q E s:=by
 obtain⟨N,hb,hN,hl⟩:=lR T.m2 (Ca T.lt) (knd.hash k);have nl:ps++[]=ps:=Bg ps;unfold IC setAddHashedIn;refine AI (Aa (AH U rfl T.fits ?_));dsimp only;rw[if_neg (by unfold byScan;simp[Jp])];unfold setSearch;have q2:=T.m2.le;refine Aa (iY (ad:=true) hu T.toD U hk ha (by rw[nl];exact hN) (by rw[nl];exact hl) hb (λ_=>rfl) (λM r hr _=>?_) (λM j b jb=>?_) 100000 0 none none (λ_=>rfl) (AS _) (by omega) (λn' i x z=>absurd z (C5 _)) rfl);rw[hr rfl];dsimp only;refine Ab ?_;exact h s.heap false xs m ps mv ep (D9 S s.heap) T U (by rw[if_pos M]);obtain⟨rfl,rfl⟩:=jb rfl;dsimp only;refine Aa (AH U rfl T.fits ?_);dsimp only;rw[aHC];dsimp only;rw[if_pos (show(tm m _ mv (!byTt w)).plain=true from rfl)];refine Aa (knd.byV ha ?_);rw[if_pos rfl,aCP];obtain⟨g1,g2⟩:=aFo (a:=a) T M hb hN hl;have g3:=sP T.rise hN;generalize below ps.toArray (pth m (knd.hash k) N).j=p at g1 g2 g3 ⊢;generalize hj:(pth m (knd.hash k) N).j=j at g1 g3 ⊢;have q0:(cJ ps p j).length=(cJ xs p (k,a)).length:=by rw[eC,eC,T.len]
 have q:(cJ xs p (k,a)).length=xs.length+1:=eC;have q3:=W M;refine Aa (D8 U rfl ?_ (by rw[aM,q];exact A2 (show xs.length+1<=701 by omega) (by decide)));have q1:=fG (ds':=[]) U (cJ xs p (k,a)) m (cJ ps p j) mv;have I:(tm m (cJ ps p j) mv (!byTt w)).tooFull=decide ((xs.length+1)*5 ≥ m*3):=by unfold LK D5 tm tmd;simp[eC,T.len]
 have pm:(cJ xs p (k,a)).Perm ((k,a)::xs):=dE;rw[I,aM];by_cases c:(xs.length+1)*5 ≥ m*3;obtain⟨z1,z2,z3⟩:=pX ((xs.length+1)*4) (by omega);rw[if_pos (by simpa using c),show grown (xs.length+1)=(xs.length+1)*4 by unfold grown;rw[if_neg (by omega)]];refine Aa (pY (s:={ s with heap:=_ }) z1 rfl (by rw[show sizeLine=16777216 by decide];omega) q1 ?_ (by rw[q];omega) g2 λh' g B L G b1 b2 b3 b4=>?_);unfold Kg D5 tmd;rw[aM,q];have:=T.len;have:=T.lt;simp[eC];omega;exact Ab (h h' true g _ B L G ((BI s.heap S _).trans b1) b2 b3 (by rw[if_neg M];exact b4.trans pm));rw[if_neg (by simpa using c)];exact Ab (h _ true _ m _ mv (ep+1) (BI s.heap S _) ⟨T.m2,g3,q0,g2,by rw[q];omega,g1⟩ q1 (by rw[if_neg M];exact pm))
end
set_option maxRecDepth 100000
noncomputable def bP{prog:A0}{w:AR}{K:Type}[DecidableEq K](knd:SK prog w K)(h:Heap)(S:Addr)(us:List (K×Addr)):Prop:=∃xs m ps mv ep,Tb knd xs m ps/\h.get? S=some (setT knd xs ep m ps mv)/\(∀x∈xs,x∈us)/\∀y∈us,y.1∈xs.map (·.1)
noncomputable def aAV{prog:A0}{w:AR}{K:Type}[DecidableEq K](knd:SK prog w K)(h:Heap)(S:Addr)(us:List (K×Addr)):Prop:=∃xs m ps ds mv ep,TD knd xs m ps ds/\h.get? S=some (dR knd xs ep m ps ds mv)/\(∀x∈xs,x∈us)/\∀y∈us,y.1∈xs.map (·.1)
section
variable {prog:A0} {w:AR} {K:Type} [DecidableEq K] {knd:SK prog w K} {A:AJ} {R:GU->Ac->Prop} {I:Addr} {fp wr:List Addr} {G:Array GT->Array GT->Prop} {n:Nat} {P:Nat->Ad->Prop} {St:Nat->Ac->Prop}
theorem bP.toD{h:Heap}{S:Addr}{us:List (K×Addr)}(x:bP knd h S us):aAV knd h S us:=by obtain⟨xs,m,ps,mv,ep,T,r⟩:=x;exact⟨xs,m,ps,[],mv,ep,T.toD,r⟩
theorem bP.keep{h h':Heap}{S:Addr}{us:List (K×Addr)}(x:bP knd h S us)(e:∀o,h.get? S=some o->h'.get? S=some o):bP knd h' S us:=by obtain⟨xs,m,ps,mv,ep,T,g,r⟩:=x;exact⟨xs,m,ps,mv,ep,T,e _ g,r⟩
theorem yP(W0:WalksS prog w A.in1 I fp wr G n P St)(hu:knd.room A.in1)(S:Addr)(q2:S∉fp)(us:List (K×Addr))(q8:∀i v,P i v->∃x,us[i]? = some x/\v=Ay x.2)(hn:us.length=n)(h0:Heap)(w0:∀x∈us,knd.is h0 x.1 x.2)(hB:∀b o,h0.get? b=some o->b∉S::wr)(ks:List K)(z2:ks.length<=700)(q3:∀x∈us,x.1∈ks) :
 ∀(m i:Nat) (s:Ac),n-i=m->i<=n->St i s->bP knd s.heap S (us.take i)->(∀b o,h0.get? b=some o->s.heap.get? b=some o) ->
  (∀g,Moved (S::wr) G s g->bP knd g.heap S us->R (.ok (.ret .none)) g) ->
  EJ (A4 prog w) A (.builtin "set.update.loop" ⟨[.ref S,.ref I],[]⟩) R s:=by
 have nw:S∉wr:=λh=>q2 (W0.sub _ h);have sb:∀b∈wr,b∈S::wr:=λb hb=>Af _ hb;intro m
 induction m with
 | zero=>
  intro i s hk hi U hS hK hR;obtain rfl:i=n:=by omega
  refine D3 Eb ?_;rw[Db C8 _];show Am _ A.in1 (FT (.ref I) >>= _) _ _ s;refine Aa (W0.done s _ _ U λg hm=>?_);show Am _ A.in1 (ret Cj) _ _ g;rw[Ce (by omega)] at hS;exact Ab (hR g (hm.mono sb) (hS.keep λo e=>hm.heap S o nw e))
 | succ m ih=>
  intro i s hk hi U hS hK hR;have q5:i<n:=by omega
  refine D3 Eb ?_;rw[Db C8 _];show Am _ A.in1 (FT (.ref I) >>= _) _ _ s;refine Aa (W0.item i s _ _ q5 U λv g hP q7 hm=>?_);obtain⟨x,q4,rfl⟩:=q8 i v hP;have W:=mG q4;obtain⟨xs,m',ps,mv,ep,T,ho,r1,r2⟩:bP knd g.heap S (us.take i):=hS.keep λo e=>hm.heap S o nw e;have q0:∀b o,h0.get? b=some o->g.heap.get? b=some o:=λb o e=>hm.heap b o (λz=>hB b o e (Af _ z)) (hK b o e);have L:∀x∈us,knd.is g.heap x.1 x.2:=λx hx=>knd.keepT (w0 x hx) q0;have w6:us.take (i+1)=us.take i++[x]:=by rw[List.take_succ,q4];rfl
  show Am _ A.in1 (FJ [Ay x.2] (setAdd S (Ay x.2)) >>= _) _ _ g;refine Aa (AI ?_);unfold setAdd;refine AI ?_;refine Aa (knd.pyHash (k:=x.1) hu (L x W) ?_);refine wV (k:=x.1) (s:={ g with toks:=g.toks+knd.draws x.1 }) hu T ho (λy B=>L y (BX (r1 y B))) (L x W) (λw4=>?_) λh' b z1 w7 w9 w8 q9 M T' w5 hp=>?_;have:=(Bu.mpr ⟨w4,T.nd⟩).length_le_of_subset (l₂:=ks) λy B=>by rcases Al.mp B with rfl|B;exact q3 x W;obtain⟨z,hz,rfl⟩:=Ag.mp B;exact q3 z (BX (r1 z hz))
  rw[lC,lM] at this;omega;have w3:bP knd h' S (us.take (i+1)):=by rw[w6];refine⟨z1,w7,w9,w8,q9,T',w5,?_,?_⟩;intro y B;split at hp;rw[hp] at B;exact AB _ (r1 y B);rcases Al.mp (hp.mem_iff.mp B) with rfl|q;exact As _ (A3.mpr rfl);exact AB _ (r1 y q);intro y B;split at hp;rw[hp];rcases AO.mp B with q|q;exact r2 y q;rw[A3.mp q];assumption;refine(hp.map _).mem_iff.mpr ?_;rcases AO.mp B with q|q;exact Af _ (r2 y q);rw[A3.mp q];exact Ai
  have w1:∀b o,h0.get? b=some o->h'.get? b=some o:=λb o e=>by rw[M.2 b λz=>hB b o e (by rw[z];exact Ai)];exact q0 b o e
  refine Ab ⟨EL C8 _,ih (i+1) _ (by omega) q5 (W0.frame _ g _ _ q7 (by show g.toks<=g.toks+_;omega) λb hb o e=>?_) w3 w1 λz0 q6 q1=>?_⟩;rw[M.2 b λh:b=S=>q2 (by rw[<-h];exact hb)];exact e;refine hR z0 (Moved.trans W0.gtrans ((hm.mono sb).then_heap (by show g.toks<=g.toks+_;omega) λb o hb e=>?_) q6) q1;rw[M.2 b λh:b=S=>hb (by rw[h];exact Ai)];exact e
end
section
variable {prog:A0} {w:AR} {K:Type} [DecidableEq K] {knd:SK prog w K} {A:AJ} {E:Ad->Ac->Prop} {s:Ac}
theorem aAW(a:Ad){Q₁:Ad->Ac->Prop}(h:Q₁ (.ref s.heap.objs.size) { s with heap:=s.heap.push { cls:=.type "set",dict:=none,data:=.set #[] 0 (.fresh 0 0 (!byTt w)) } }) :
 EJ (A4 prog w) A (.call (.builtin "set.__new__") ⟨[.type "set",a],[]⟩) (wants Q₁ E) s:=by
 refine Jq ?_;show Am _ A.in1 (do checkBuiltinCall "set.__new__" ⟨[.type "set",a],[]⟩;again (.builtin "set.__new__" ⟨[.type "set",a],[]⟩)) _ _ s;refine Aa (Dr (F.newCall_set_1 a) (Ab ⟨EL Jr _,D3 F.entry_set_new ?_⟩));rw[Db Jr _];unfold BL.«set.__new__» JJ;have q:=sub_set_self;obtain⟨B,g,d,tk,os⟩:=s;dsimp only
 wp_walk
 refine BY (Ab ?_);dsimp only;simp only[newObj];refine Aa (La (Ab ?_));exact Ab h
set_option maxHeartbeats 3200000 in
theorem yQ{l:Addr}{items:Array Ad}{us:List (K×Addr)}{Q:Ad->Ac->Prop}(hh:A.handled=none)(hu:∀A':AJ,A'.units<=A.units+20->knd.room A')(hl:s.heap.IsList l items)(hi:items.toList=us.map λx=>Ay x.2)(hK:∀x∈us,knd.is s.heap x.1 x.2)(ks:List K)(w1:ks.length<=700)(q9:∀x∈us,x.1∈ks)
 (h:∀(h':Heap) (tk:Nat),bP knd h' s.heap.objs.size us->(∀b o,b<s.heap.objs.size->s.heap.get? b=some o->h'.get? b=some o)->Q (.ref s.heap.objs.size) { s with heap:=h',toks:=tk }) :
 Am (A4 prog w) A (call (.type "set") [.ref l]) Q E s:=by
 have hn:us.length=items.size:=by rw[<-AK,hi,lM]
 obtain⟨c,tl,w7⟩:=BS.mro;have w3:=BS.made;have z0:=BS.sub;refine wpAny_call (Jq ?_);show Am _ _ (callAny (.type "set") _) _ _ _;refine Ab ⟨Code.quiet_builtin _ (by decide +kernel),D3 F.entry_type_call ?_⟩;rw[Around.under_plain (weight_type_call_type "set" [.ref l] []) rfl];have h1:=BS.notType;have h2:=BS.canCreate;have z3:=PySem.F.typeCall_set_1 (.ref l)
 repeat (any_goals (first|assumption|wp_step))
 refine Fj (aAW (.ref l) (E:=E) (Q₁:=λobj I=>obj=.ref s.heap.objs.size/\I={ s with heap:=s.heap.push { cls:=.type "set",dict:=none,data:=.set #[] 0 (.fresh 0 0 (!byTt w)) } }) ⟨rfl,rfl⟩) λr I hr=>?_;cases r with
 | error e=>exact hr|ok fl=>
  cases fl with
  | ret obj=>
   obtain⟨rfl,rfl⟩:=hr;generalize q3:(!byTt w)=led at *;have hS:(s.heap.push { cls:=.type "set",dict:=none,data:=.set #[] 0 (.fresh 0 0 led) }).get? s.heap.objs.size=some { cls:=.type "set",dict:=none,data:=.set #[] 0 (.fresh 0 0 led) }:=A7 _ rfl;have hT:EM { s with heap:=s.heap.push { cls:=.type "set",dict:=none,data:=.set #[] 0 (.fresh 0 0 led) } } (.ref s.heap.objs.size) "set" := ⟨_,hS,rfl⟩
   have z4:=BS.init.lookup;have z2:=BS.init.bind (.ref s.heap.objs.size)
   repeat (any_goals (first|assumption|wp_step))
   refine Fj (codeAny_call_builtin (R:=wants (λr L=>r=.none/\∃h' tk,L={ s with heap:=h',toks:=tk }/\bP knd h' s.heap.objs.size us /\
    (∀b o,b<s.heap.objs.size->s.heap.get? b=some o->h'.get? b=some o)) E) BS.init.plain F.entry_set_init (check_set_init_1 hT ?_)) λq6 L g=>?_
   . obtain⟨ol,q4,q0,nl,hdl⟩:=hl;obtain⟨z1,W,w4,G⟩:=ol;simp only at q0 hdl;subst q0;subst hdl;have q5:(s.heap.push { cls:=.type "set",dict:=none,data:=.set #[] 0 (.fresh 0 0 led) }).get? l=some { cls:=.type "list",dict:=W,data:=.seq items nl,slots:=G }:=Ae _ q4;have w9:=PySem.F.sub_list_set;have w8:=PySem.F.sub_list_frozenset;have z5:(Fq "list" == Fq "dict")=false:=by decide
     have q1:(s.heap.push { cls:=.type "set",dict:=none,data:=.set #[] 0 (.fresh 0 0 led) }).IsList l items:=⟨_,q5,rfl,nl,rfl⟩
     unfold BL.«set.__init__» noKeywords Fa;generalize q7:II=PI
     wp_walk
     subst q7;refine Iw q1 ?_;refine Aa (JK ?_);have q2:l<s.heap.objs.size:=Ap q4;have q8:A.in1.in1.in1.handled=none:=by simp[hh]
     have hsz:(s.heap.push { cls:=.type "set",dict:=none,data:=.set #[] 0 (.fresh 0 0 led) }).objs.size=s.heap.objs.size+1:=Fz _ _;refine yP ((Walks.list q8 _ l (by rw[hsz];exact A8 (B2 q2)) items).toS) (hu _ (by show A.units+1+1+1<=A.units+20;omega)) s.heap.objs.size
      (by
       rw[hsz];intro z;rcases Al.mp z with q|q;exact absurd q (A8 (Ck _));exact absurd (A3.mp q) (DS q2)) us
      (λi v hv=>by
       have B:items.toList[i]? = some v:=by rw[AT];exact hv
       rw[hi,A5] at B;cases q:us[i]? with
       | none=>rw[q] at B;cases B|some x=>rw[q] at B;cases B;exact⟨x,rfl,rfl⟩) hn
      s.heap hK (λb o e z=>by
       have:=Ap e;rw[hsz] at z;rcases Al.mp z with q|q;exact absurd q (A8 this);exact absurd (A3.mp q) (A8 (B2 this))) ks w1 q9 (items.size-0) 0 _ (by omega) (AS _)
      ⟨⟨_,A7 _ rfl,rfl,rfl⟩,(q1.push _)⟩ ?hS0 ?hK0 ?hR
     case hS0=>refine⟨[],7,[],0,0,⟨⟨0,by decide,rfl⟩,Cc,rfl,Fx,(show 0*5<7*3 by decide),λi x j hx=>by simp at hx⟩,?_,λx hx=>by simp at hx,λy hy=>by simp at hy⟩;unfold setT dR;rw[q3];exact Ae _ hS
     case hK0=>exact λb o e=>Ae _ (Ae _ e)
     case hR=>intro s' hm U;obtain⟨h',g',d',w6,w5⟩:=s';have eg:g'=s.gens:=hm.gens;have ed:d'=s.drawn:=hm.drawn;have eo:w5=s.os:=hm.os;subst eg;subst ed;subst eo;show Am _ _ _ _ _ _;refine Ab ?_;show Am _ _ (ret Cj) _ _ _;refine Ab ⟨rfl,h',w6,rfl,U,λb o hb e=>?_⟩;refine hm.heap b o ?_ (Ae _ (Ae _ e));rw[hsz];intro z;rcases Al.mp z with q|q;exact absurd q (A8 hb);exact absurd (A3.mp q) (A8 (B2 hb))
   . cases q6 with
     | error e=>exact g|ok M=>
      cases M with
      | ret r=>
       obtain⟨rfl,h',tk,rfl,U,w0⟩:=g
       repeat (any_goals (first|assumption|wp_step))
       exact h _ _ U w0
      | _=>exact g.elim
  | _=>exact hr.elim
end
end L2
namespace L2
open PySem PySem.Spec PyProof.Rows
set_option maxRecDepth 100000
theorem bI:Slot "set_iterator" "__next__" "set_iterator.__next__" :=
 .of (owner:= "set_iterator") (n:= "__next__") (by rw[Js,GO];kernel_rfl) (by decide +kernel) (by decide +kernel) (by decide +kernel)
  (by first|exact .inl (by decide +kernel)|exact .inr (by decide +kernel)) (by rw[CG];kernel_rfl)
theorem eV:Gg JD "set_iterator.__next__" = some BL.«set_iterator.__next__»:=IR (by kernel_rfl)
theorem fH(a:Ad):L0 "set_iterator.__next__" ⟨[a],[]⟩:=by unfold L0;kernel_rfl
theorem lU:Gg JD "set.__iter__" = some BL.«frozenset.__iter__»:=
 E3 (id':= "frozenset.__iter__") (by kernel_rfl) rfl (by decide +kernel) (by kernel_rfl)
theorem fI:Slot "set_iterator" "__iter__" "set_iterator.__iter__" :=
 .of (owner:= "set_iterator") (n:= "__iter__") (by rw[Js,GO];kernel_rfl) (by decide +kernel) (by decide +kernel) (by decide +kernel)
  (by first|exact .inl (by decide +kernel)|exact .inr (by decide +kernel)) (by rw[CG];kernel_rfl)
theorem jS:Gg JD "set_iterator.__iter__" = some BL.«dict_keyiterator.__iter__»:=
 E3 (id':= "dict_keyiterator.__iter__") (by kernel_rfl) rfl (by decide +kernel) (by kernel_rfl)
theorem lV(a:Ad):L0 "set_iterator.__iter__" ⟨[a],[]⟩:=by unfold L0;kernel_rfl
theorem lW{α:Type}:∀(l:List α) (j:Nat) (h:j<l.length),(l[j]::l.eraseIdx j).Perm l
 | [],_,h=>absurd h (C5 _)|a::l,0,_=>B5 _|a::l,j+1,h=>(JL a (l[j]'(by simpa using h)) _).trans ((lW l j (by simpa using h)).cons a)
theorem nU{α:Type}(next:Nat->Nat):∀(q k:Nat) (g:List α) (out:Array α),g.length=q->(ID next q k g out).toList.Perm (out.toList++g)
 | 0,_,g,out,h=>by have:g=[]:=List.eq_nil_of_length_eq_zero h;subst this;rw[ID,Bg]|q+1,k,g,out,h=>by
  have B:next k % g.length<g.length:=G9 _ (by omega)
  rw[ID,Ah B];dsimp only;refine(nU next q (k+1) _ _ (by rw[DO B];omega)).trans ?_;rw[CZ,AG];exact BK _ (lW _ _ B)
noncomputable def eY(w:AR)(S:Addr)(ep:Nat)(es:Array (Int×Ad)):Array (Int×Ad):=if byTt w then pickOrder (w.params.setOrder S ep) es else es
theorem eD(w:AR)(S:Addr)(ep:Nat)(es:Array (Int×Ad)):(eY w S ep es).toList.Perm es.toList:=by unfold eY;split;unfold pickOrder;refine(nU _ _ _ _ _ (by rw[AK])).trans ?_;simp;exact B5 _
theorem iA(w:AR)(S:Addr)(ep:Nat)(es:Array (Int×Ad)):(eY w S ep es).size=es.size:=by rw[<-AK,(eD w S ep es).length_eq,AK]
noncomputable def vB(ps:List Nat):Nat->Nat
 | 0=>0|i+1=>ps.getD i 0+1
noncomputable def slotV(w:AR)(ps:List Nat)(i:Nat):Nat:=if byTt w then 0 else vB ps i
theorem yR{ps:List Nat}(B:eL ps):∀i,i<=ps.length->DP ps.toArray (vB ps i)=i
 | 0,_=>by obtain⟨L,g,G⟩:=bel B 0;rcases Nat.eq_zero_or_pos (DP ps.toArray 0) with z|z;exact z;exact absurd (g 0 _ z (Ah (by omega))) (C5 _)
 | i+1,hi=>by
  show DP ps.toArray (ps.getD i 0+1)=i+1;obtain⟨L,g,G⟩:=bel B (ps.getD i 0+1);have I:ps[i]? = some (ps.getD i 0):=by rw[CH,Ah (by omega)];rfl
  rcases FN (DP ps.toArray (ps.getD i 0+1)) (i+1) with z|z|z;have:=G i _ (by omega) I;omega;exact z;have q:=Ah (l:=ps) (i:=i+1) (by omega);have:=g (i+1) _ z q;have:=B.lt (Ck i) I q;omega
section
variable {prog:A0} {w:AR} {K:Type} [DecidableEq K] {knd:SK prog w K} {A:AJ} {E:Ad->Ac->Prop} {s:Ac}
noncomputable def iZ(w:AR)(S:Addr)(ep:Nat)(ps:List Nat)(i:Nat):Obj:={ cls:=.type "set_iterator",dict:=none,data:=.fields #[CL (slotV w ps i),CL i,.ref S,CL ps.length,CL ep],slots:=#[] }
variable {S I:Addr} {ep i m mv:Nat} {ps ds:List Nat} {xs:List (K×Addr)}
theorem aDR{Q:Option (Ad×Nat)->Ac->Prop}(T:TD knd xs m ps ds)(M:s.heap.get? S=some (dR knd xs ep m ps ds mv))(hi:i<=ps.length)
 (h:Q (((eY w S ep (sen knd xs))[i]?).map λe=>(e.2,slotV w ps (i+1))) s):Am (A4 prog w) A (K7 S (slotV w ps i) i ep) Q E s:=by
 have L:(tmd m ps ds mv (!byTt w)).fits (sen knd xs).size=true:=T.fits;unfold K7;refine Aa (AH M rfl L ?_);dsimp only;unfold F7;refine Aa (Aa (BY (Ab ?_)));show Am _ _ (if byTt w=true then _ else _) _ _ s;unfold eY slotV at h;unfold slotV;cases q:byTt w with
 | true=>rw[q,if_pos rfl,if_pos rfl] at h;rw[if_pos rfl,if_pos rfl];rw[if_neg (by simp)];unfold setWalk;refine Aa (Aa (AH M rfl L ?_));dsimp only;unfold F7;refine Aa (Aa (BY (Ab ?_)));show Am _ _ (if byTt w=true then _ else _) _ _ s;rw[q,if_pos rfl];refine Aa (BY (Ab ?_));exact Ab h|false=>
  rw[q,if_neg bN,if_neg bN] at h;rw[if_neg bN,if_neg bN];show Am _ _ (if (!true&&decide ((sen knd xs).size>1))=true then _ else _) _ _ s;rw[if_neg (by simp)];refine Aa ?_;show Am _ _ (if (!(!false)&&!(sen knd xs).isEmpty)=true then _ else _) _ _ s;rw[if_neg (by simp)];refine Ab ?_;have B:=yR T.rise i hi;show Am _ _ (pure (match (sen knd xs)[DP ps.toArray (vB ps i)]?,ps.toArray[DP ps.toArray (vB ps i)]? with
   | some (_,x),some j=>some (x,j+1)|_,_=>none)) _ _ s
  rw[B];refine Ab ?_;have e:(match (sen knd xs)[i]?,ps.toArray[i]? with|some (_,x),some j=>some (x,j+1)|_,_=>none)=((sen knd xs)[i]?).map λe=>(e.2,vB ps (i+1)):=by
   by_cases g:i<ps.length;have G:i<xs.length:=by have:=T.len;omega
   rw[lT,Ah G,B0,Ah g];simp[vB,g];have G:xs.length<=i:=by have:=T.len;omega
   rw[lT,EB G];rfl
  rw[e];exact h
theorem aHD{e:Int×Ad}{Q:Option Ad->Ac->Prop}(T:TD knd xs m ps ds)(G:s.heap.get? S=some (dR knd xs ep m ps ds mv))(g:s.heap.get? I=some (iZ w S ep ps i))(q1:S≠I)(B:(eY w S ep (sen knd xs))[i]? = some e)
 (hQ:∀h',h'.get? I=some (iZ w S ep ps (i+1))->BA I s.heap h'->Q (some e.2) { s with heap:=h' }):Am (A4 prog w) A (FT (.ref I)) Q E s:=by
 have hf:(tmd m ps ds mv (!byTt w)).fits (sen knd xs).size=true:=T.fits;have q:s.TypeIs (.ref I) "set_iterator" := ⟨_,g,rfl⟩
 have q0:i<ps.length:=by have:=(Cf.mp B).1;rw[iA,aM] at this;have:=T.len;omega
 unfold FT;refine Aa (FZ (Cy (name:=Fk "__next__") q bI (AZ bI q eV ?_ (fH _))));unfold BL.«set_iterator.__next__» Lb;simp only[EG,B7,bF,↓reduceIte,bind_assoc,lN,bne_self_eq_false];refine Aa (Ab ?_)
 try dsimp only
 refine Aa (Hd g rfl ?_);show Am _ _ (HP S >>= _) _ _ s;refine Aa (Fb G rfl hf ?_);rw[if_neg (by rw[aM,T.len];simp)];show Am _ _ (K7 S ((slotV w ps i:Int).toNat) ((i:Int).toNat) ((ep:Int).toNat) >>= _) _ _ s;rw[Ch,Ch,Ch];refine Aa (aDR T G (by omega) ?_);rw[B];dsimp only[EY];refine Aa (F8 g (by simp) λW M b1=>?_);refine Aa (F8 (s:={ s with heap:=W }) M (by simp) λh2 U L=>?_);refine Ab ⟨e.2,rfl,Ab (hQ h2 ?_ (b1.trans L))⟩;rw[U];simp[iZ,CL]
theorem aJJ{Q:Option Ad->Ac->Prop}(B:A.handled=none)(T:TD knd xs m ps ds)(G:s.heap.get? S=some (dR knd xs ep m ps ds mv))(g:s.heap.get? I=some (iZ w S ep ps ps.length))
 (L:∀h',Lc I s.heap h'->Q none { s with heap:=h' }):Am (A4 prog w) A (FT (.ref I)) Q E s:=by
 have U:(tmd m ps ds mv (!byTt w)).fits (sen knd xs).size=true:=T.fits;have q:s.TypeIs (.ref I) "set_iterator" := ⟨_,g,rfl⟩
 have M:(eY w S ep (sen knd xs))[ps.length]? = none:=by rw[F6,iA,aM,T.len];exact Ak _
 unfold FT;refine Aa (FZ (Cy (name:=Fk "__next__") q bI (AZ bI q eV ?_ (fH _))));unfold BL.«set_iterator.__next__» Lb;simp only[EG,B7,bF,↓reduceIte,bind_assoc,lN,bne_self_eq_false];refine Aa (Ab ?_)
 try dsimp only
 refine Aa (Hd g rfl ?_);show Am _ _ (HP S >>= _) _ _ s;refine Aa (Fb G rfl U ?_);rw[if_neg (by rw[aM,T.len];simp)];show Am _ _ (K7 S ((slotV w ps ps.length:Int).toNat) ((ps.length:Int).toNat) ((ep:Int).toNat) >>= _) _ _ s;rw[Ch,Ch,Ch];refine Aa (aDR T G (Ak _) ?_);rw[M];dsimp only[Option.map_none];refine Aa (F8 g (by simp) λh1 W b1=>?_);show Am _ _ (L1 (.type "StopIteration") [] >>= _) _ _ _;refine Aa ?_;simp only[L1,newTuple];refine Aa (Bj ?_ (by size_fits));refine Aa (m:=F9 _ _) (Dr (a:=Cj) (by first|rfl|(simp only[F9];rfl)) ?_);refine Bj ?_ (by size_fits);simp only[raiseNew];refine Aa (Kh ?_)
 first|rw[show A.in1.handled=none from B]|rw[B]
 refine Aa (Ab (Ld ?_));refine Aa (Bw (T:= "StopIteration") (b:=true) ⟨_,A7 _ rfl,rfl⟩ JM ?_);exact Ab (L _ ((b1.extBut.push _).push _))
theorem aFp(W:A.handled=none)(T:TD knd xs m ps ds)(G:S≠I):Walks prog w A I [I,S] [I] ps.length (λi v=>∃e,(eY w S ep (sen knd xs))[i]? = some e/\v=e.2) (λi h=>h.get? I=some (iZ w S ep ps i)/\h.get? S=some (dR knd xs ep m ps ds mv)) where
 sub:=λb U=>by rw[A3.mp U];exact Ai
 frame:=λi h h' st k=>⟨k I Ai _ st.1,k S (Af _ (A3.mpr rfl)) _ st.2⟩
 item:=λi s Q E hi st q=>by
  have B:i<(eY w S ep (sen knd xs)).size:=by rw[iA,aM,<-T.len];exact hi
  refine aHD T st.2 st.1 G (AN B) λh' g b=>q _ h' s.toks ⟨_,AN B,rfl⟩ ⟨g,?_⟩ λc o M e=>?_;rw[b.2 S G];exact st.2;rw[b.2 c λz=>M (by rw[z];exact A3.mpr rfl)];exact e
 done:=λs Q E st q=>aJJ W T st.2 st.1 λh' b=>q h' s.toks λc o M e=>b c o (λz=>M (by rw[z];exact A3.mpr rfl)) e
 self:=λi s Q E st q=>by
  have L:s.TypeIs (.ref I) "set_iterator" := ⟨_,st.1,rfl⟩
  refine FO L fI (AZ fI L jS ?_ (lV _));show Am _ _ (ret (.ref I)) _ _ s;exact Ab ⟨_,rfl, "set_iterator",_,L,bI.lookup,q⟩
theorem aHE{Q:Ad->Ac->Prop}(T:TD knd xs m ps ds)(g:s.heap.get? S=some (dR knd xs ep m ps ds mv))(h:Q (.ref s.heap.objs.size) { s with heap:=s.heap.push (iZ w S ep ps 0) }):Am (A4 prog w) A (II (.ref S)) Q E s:=by
 have q:(tmd m ps ds mv (!byTt w)).fits (sen knd xs).size=true:=T.fits;have B:s.TypeIs (.ref S) "set" := ⟨_,g,rfl⟩
 refine FO B GP (AZ GP B lU ?_ (PySem.F.args_set_iter_1 _));unfold BL.«frozenset.__iter__» Kt Lb;simp only[EG,B7,bF,↓reduceIte,bind_assoc,lN,bne_self_eq_false];unfold Ki Cp;refine Aa (Ab ?_)
 try dsimp only
 refine Aa (Ab ?_);refine Aa (Aa (Fb g rfl q (Ab ?_)));unfold setDrawn F7;refine Aa (Aa (AH g rfl q ?_));dsimp only;refine Aa (Aa (BY (Ab ?_)));refine Ab ?_;show Am _ _ (if (!byTt w&&(!true&&decide ((sen knd xs).size>1)))=true then _ else _) _ _ s;rw[if_neg (by simp)];refine Aa (Ab ?_);refine Aa (wpAny_setEpoch_of g rfl q ?_);refine Aa (Bj ?_);have e:(#[CL 0,CL 0,Ay S,CL ((sen knd xs).size:Int),CL (ep:Int)]:Array Ad)=#[CL (slotV w ps 0),CL ((0:Nat):Int),.ref S,CL ps.length,CL ep]:=by
  rw[aM,T.len];have:slotV w ps 0=0:=by unfold slotV vB;split <;> rfl
  rw[this];rfl
 refine Ab ⟨_,rfl, "set_iterator",_,⟨_,A7 _ rfl,rfl⟩,bI.lookup,?_⟩;show Q (.ref s.heap.objs.size) { s with heap:=s.heap.push { cls:=.type "set_iterator",data:=.fields #[CL 0,CL 0,Ay S,CL ((sen knd xs).size:Int),CL (ep:Int)] } };rw[e];exact h
theorem nV{P:Nat->Ad->Prop}{acc:Array Ad}{m:Nat}{od:List (Int×Ad)}(q:∀i v,P i v->∃e,od[i]? = some e/\v=e.2)(h:ItemsOf P acc m)(M:od.length=m):acc.toList=od.map (·.2):=by refine Iy λj=>?_;rw[AT,A5];by_cases g:j<acc.size;obtain⟨e,B,G⟩:=q j acc[j] (h.2 j _ (AN g));rw[AN g,B,G];rfl;have L:=h.1;rw[GB (by omega),EB (by omega)];rfl
theorem aAX{Q:List Ad->Ac->Prop}(hh:A.handled=none)(T:TD knd xs m ps ds)(ho:s.heap.get? S=some (dR knd xs ep m ps ds mv))
 (hQ:∀q acc,(∀b o,s.heap.get? b=some o->q.heap.get? b=some o)->(s.heap.objs.size<q.heap.objs.size/\∃tk h',q={ s with heap:=h',toks:=tk })->acc=(eY w S ep (sen knd xs)).toList.map (·.2)->Q acc q):Am (A4 prog w) A (collect (.ref S)) Q E s:=by
 have hT:s.TypeIs (.ref S) "set" := ⟨_,ho,rfl⟩
 have g:S<s.heap.objs.size:=Ap ho;unfold collect;refine Aa (JK (D3 F.entry_proto_collect ?_));rw[Db F.plain_proto_collect _];show Am _ A.in1 (L8 [] >>= λl=>again (.builtin "list.__iadd__" ⟨[l,.ref S],[]⟩)) _ _ s;refine Aa (Bj ?_);refine Ab ⟨EL IE _,D3 F.entry_list_iadd ?_⟩;rw[Db IE _];have G:(s.heap.push { cls:=.type "list",data:=.seq ([]:List Ad).toArray }).get? S=some (dR knd xs ep m ps ds mv):=Ae _ ho;have w3:EM { s with heap:=s.heap.push { cls:=.type "list",data:=.seq ([]:List Ad).toArray } } (.ref S) "set" := ⟨_,G,rfl⟩
 have q8:(s.heap.push { cls:=.type "list",data:=.seq ([]:List Ad).toArray }).get? s.heap.objs.size=some { cls:=.type "list",data:=.seq ([]:List Ad).toArray }:=A7 _ rfl;have h1:Dg (.ref s.heap.objs.size) (.ref S)=false:=by simp only[Dg,beq_eq_false_iff_ne];exact DS g
 show Am _ A.in1 (CB (.ref s.heap.objs.size) (.ref S) (.ref s.heap.objs.size)) _ _ _;unfold CB;refine Aa (CU w3 ?_);rw[if_neg (by rw[h1];decide)];refine Aa (aHE T G ?_);refine Aa (AI ?_);have q7:((s.heap.push { cls:=.type "list",data:=.seq ([]:List Ad).toArray }).push (iZ w S ep ps 0)).get? S=some (dR knd xs ep m ps ds mv):=Ae _ G;have B:EM { s with heap:=(s.heap.push { cls:=.type "list",data:=.seq ([]:List Ad).toArray }).push (iZ w S ep ps 0) } (.ref S) "set" := ⟨_,q7,rfl⟩
 unfold Fo;refine Aa (C4 B PySem.F.slot_set_len.lookup ?_);generalize q5:("set.__len__" : String)=id0
 wp_delta
 rw[show splitId id0=some ("set", "__len__") from by subst q5;decide +kernel];subst q5;refine Aa (Bw (b:=true) B (by rw[CG];kernel_rfl) ?_);rw[if_neg (by decide)];dsimp only;rw[if_pos (by decide +kernel)];refine Aa (CU B ?_);refine Ab ?_;rw[if_pos (by decide +kernel)];refine Aa (CF ?_);unfold GC;have q1:((s.heap.push { cls:=.type "list",data:=.seq ([]:List Ad).toArray }).push (iZ w S ep ps 0)).get? s.heap.objs.size=some { cls:=.type "list",data:=.seq ([]:List Ad).toArray }:=Ae _ q8;refine Aa (Aa (Dh (f:=λx=>x.push Cj) q1 rfl ?_));have q2:=D4 (c:= "list") (xs:=#[]) (n:=0) q1 (λx=>x.push Cj);refine Dh (f:=λx=>x.pop) q2 rfl ?_;have q9:=D4 q2 (λx=>x.pop);have q0:(s.heap.push { cls:=.type "list",data:=.seq ([]:List Ad).toArray }).objs.size=s.heap.objs.size+1:=HQ _ _;have W:((s.heap.push { cls:=.type "list",data:=.seq ([]:List Ad).toArray }).push (iZ w S ep ps 0)).get? (s.heap.push { cls:=.type "list",data:=.seq ([]:List Ad).toArray }).objs.size=some (iZ w S ep ps 0):=A7 _ rfl;rw[q0] at W ⊢;have keep:∀b o,b≠s.heap.objs.size->((s.heap.push { cls:=.type "list",data:=.seq ([]:List Ad).toArray }).push (iZ w S ep ps 0)).get? b=some o->((((s.heap.push { cls:=.type "list",data:=.seq ([]:List Ad).toArray }).push (iZ w S ep ps 0)).update s.heap.objs.size (Cb λx=>x.push Cj)).update s.heap.objs.size (Cb λx=>x.pop)).get? b=some o:=λb o L e=>by rw[Ci _ _ _ _ L,Ci _ _ _ _ L];exact e
 have w0:S≠s.heap.objs.size+1:=λz=>G3.mpr (FL _) (z▸g);have w1:s.heap.objs.size∉[s.heap.objs.size+1,S]:=λM=>by rcases Al.mp M with z|z;exact absurd z (by omega);rw[<-A3.mp z] at g;exact AL _ g
 have q6:ps.length<=5000:=by have:=T.lt;have:=T.m2.le;omega
 refine Ab ⟨EL Hm _,He (aFp (A:=A.in1) (ep:=ep) (I:=s.heap.objs.size+1) hh T w0).toS (A2 q6 (by decide)) _ w1 _ ps.length 0 _ #[] 2 (G6 _) (AS _) ⟨keep _ _ (by omega) W,keep _ _ (A8 g) q7⟩ q9 (Le _) λq U c' M q3 q4=>?_⟩;show Am _ A (load s.heap.objs.size >>= _) _ _ q;refine Aa (wpAny_load q3 ?_);refine Ab (hQ q U.toList (λb o e=>?_) ?_ ?_);have L:b<s.heap.objs.size:=Ap e;refine M.heap b o (λz=>?_) (keep b o (A8 L) (Ae _ (Ae _ e)));rcases Al.mp z with z|z;exact A8 L z;exact G3.mpr (FL _) (A3.mp z▸L);obtain⟨h',g',d',w5,w4⟩:=q;have eg:g'=s.gens:=M.gens;have ed:d'=s.drawn:=M.drawn;have eo:w4=s.os:=M.os;subst eg;subst ed;subst eo;exact⟨Ap q3,w5,h',rfl⟩;exact nV (P:=λi v=>∃e,(eY w S ep (sen knd xs))[i]? = some e/\v=e.2) (λi v ⟨e,he,hv⟩=>⟨e,by rw[AT];exact he,hv⟩) q4 (by rw[AK,iA,aM,T.len])
end
end L2
namespace L2
open PySem PySem.Spec PyProof.Rows SetTable
set_option maxRecDepth 100000
section
variable {prog:A0} {w:AR} {K:Type} [DecidableEq K] {knd:SK prog w K} {A:AJ} {E:Ad->Ac->Prop} {s:Ac} {S O:Addr} {xs ys:List (K×Addr)} {m mv ep m' mv' ep':Nat} {ps ps':List Nat}
theorem cH{α L:Type}{f:α->L}{l ys:List L}(h:l.Perm ys):∀{xs:List α},ys=xs.map f->∃us:List α,us.Perm xs/\l=us.map f:=by
 induction h with
 | nil=>
  intro xs e;cases xs with
  | nil=>exact⟨[],B5 _,rfl⟩|cons _ _=>cases e
 | cons x _ W=>
  intro xs e;cases xs with
  | nil=>cases e|cons y ys=>obtain⟨g,B⟩:=Ga e;obtain⟨us,p,q⟩:=W B;exact⟨y::us,p.cons y,by rw[mC,<-q,g]⟩
 | swap x y l=>
  intro xs e
  match xs,e with
  | a::b::r,e=>obtain⟨g,B⟩:=Ga e;obtain⟨M,U⟩:=Ga B;exact⟨b::a::r,JL _ _ _,by rw[mC,mC,g,M,U]⟩|[_],e=>cases(Ga e).2|[],e=>cases e
 | trans _ _ G I=>intro xs e;obtain⟨us,p,q⟩:=I e;obtain⟨vs,p',q'⟩:=G q;exact⟨vs,p'.trans p,q'⟩
theorem wW{g:List Addr}{f:Option Addr}{Q:Array (Int×Ad)->Ac->Prop}(T:Tb knd xs m ps)(B:s.heap.get? S=some (setT knd xs ep m ps mv))(h:Q (eY w S ep (sen knd xs)) s):Am (A4 prog w) A (Hz S g f) Q E s:=by
 unfold Hz;refine Aa (AH B rfl T.fits ?_);dsimp only;unfold F7;refine Aa (Aa (BY (Ab ?_)));have G:(byTt w||(tm m ps mv (!byTt w)).led&&(tm m ps mv (!byTt w)).plain||decide ((sen knd xs).size<=1))=true:=by unfold tm tmd;cases byTt w <;> simp
 show Am _ _ (if (byTt w||(tm m ps mv (!byTt w)).led&&(tm m ps mv (!byTt w)).plain||decide ((sen knd xs).size<=1))=true then _ else _) _ _ s;rw[if_pos G];unfold setWalk;refine Aa (AH B rfl T.fits ?_);dsimp only;unfold F7;refine Aa (Aa (BY (Ab ?_)));show Am _ _ (if byTt w=true then _ else _) _ _ s;unfold eY at h;cases q:byTt w with
 | true=>rw[q,if_pos rfl] at h;rw[if_pos rfl];exact Aa (BY (Ab h))|false=>rw[q,if_neg bN] at h;rw[if_neg bN];show Am _ _ (if (!true&&decide ((sen knd xs).size>1))=true then _ else _) _ _ s;rw[if_neg (by simp)];refine Aa ?_;show Am _ _ (if (!(!false)&&decide ((sen knd xs).size>1))=true then _ else _) _ _ s;rw[if_neg (by simp)];exact Ab (Ab h)
theorem aFq(T:Tb knd xs m ps)(G:s.heap.get? S=some (setT knd xs ep m ps mv)){n:Nat}(hn:xs.length+n<=1400){Q:Unit->Ac->Prop}
 (h:∀h' g m1 q I B,BA S s.heap h'->Tb knd g m1 q->h'.get? S=some (setT knd g B m1 q I)->g.Perm xs->(xs.length+n)*5<m1*3->Q () { s with heap:=h' }):Am (A4 prog w) A (setRoomFor S n) Q E s:=by
 unfold setRoomFor;refine Aa (AH G rfl T.fits ?_);dsimp only;have hr:(tm m ps mv (!byTt w)).roomFor n=if (xs.length+n)*5 ≥ m*3 then some ((xs.length+n)*2) else none:=by unfold LL D5 tm tmd;simp[T.len]
 rw[hr];by_cases c:(xs.length+n)*5 ≥ m*3;rw[if_pos c];dsimp only;obtain⟨L,z2,z3⟩:=pX ((xs.length+n)*2) (by omega);have z4:=L.le;exact pY L rfl (by rw[show sizeLine=16777216 by decide];omega) G T.fits (by omega) T.nd λh' g ps' mv' ep' b1 M U W=>h h' g _ ps' mv' ep' b1 M U W (by omega);rw[if_neg c];exact Ab (h s.heap xs m ps mv ep (D9 S s.heap) T G (B5 _) (by omega))
theorem pZ(L:Array (Int×Ad))(B:List (K×Addr))(M:L.toList=B.map λx=>(knd.hash x.1,Ay x.2))
 (f:(Int×Ad)->PUnit->KH (ForInStep PUnit)) (I:List (K×Addr)->Ac->Prop) {Q:PUnit->Ac->Prop}
 (U:∀(z:K×Addr) (rest:List (K×Addr)) s,I (z::rest) s->Am (A4 prog w) A (f (knd.hash z.1,Ay z.2) ⟨⟩) (λr G=>match r with|.done b=>Q b G|.yield b=>I rest G) E s) (g:∀s,I [] s->Q ⟨⟩ s) (h:I B s) :
 Am (A4 prog w) A (forIn L JN f) Q E s:=by
 rw[<-BQ,M];clear M
 induction B generalizing s with
 | nil=>rw[mN,GZ];exact Ab (g _ h)|cons z B W=>
  rw[mC,GJ];refine Aa (BO (U z B s h) (λr G q=>?_) λ_ _ e=>e);cases r with
  | done b=>exact Ab q|yield b=>exact W q
theorem aHF{M:Nat}(hM:M2 M)(hl:ys.length*5<M*3)(q4:(ys.map (·.1)).Nodup):∃G W,Tb knd G M W/\G.Perm ys/\∀mv led,∃B,laid M 0 mv led true ((sen knd ys).map (·.1))=some (tm M W mv led,B)/\(B.filterMap λi=>(sen knd ys)[i]?)=sen knd G:=by
 obtain⟨g,e,h1,h2,h3⟩:=wR hM (ys.map λx=>knd.hash x.1) (by rw[lM];omega) 0 0 true true;have L:(sen knd ys).map (·.1)=(ys.map λx=>knd.hash x.1).toArray:=by unfold sen;rw[IT,AM];rfl
 rw[lM] at h2;have q3:∀x∈g.map (·.2),x<ys.length:=λx U=>Bb.mp (h2.mem_iff.mp U);obtain⟨q1,q2⟩:=pW (xs:=ys) (g.map (·.2)) q3;have q0:(g.map (·.2)).length=ys.length:=by rw[h2.length_eq,B3]
 have pm:((g.map (·.2)).filterMap λi=>ys[i]?).Perm ys:=by have:=h2.filterMap λi=>ys[i]?;rw[C7] at this;exact this
 refine⟨(g.map (·.2)).filterMap λi=>ys[i]?,g.map (·.1),⟨hM,h1,by rw[q1,lM,lM],((pm.map _).nodup_iff).mpr q4,by rw[q1,q0];omega,λi x j U I=>?_⟩,pm,λmv led=>⟨(g.map (·.2)).toArray,?_,?_⟩⟩;rw[q2,A5] at U;rw[A5] at I;cases hp:g[i]? with
 | none=>rw[hp] at I;cases I|some p=>rw[hp] at U I;cases I;refine h3 p (mG hp) _ ?_;rw[A5,show ys[p.2]? = some x from U];rfl
 rw[L];unfold laid at e ⊢;cases q:layClean M (ys.map λx=>knd.hash x.1).toArray with
 | none=>rw[q] at e;cases e|some ow=>rw[q] at e;have e:=Av e;have e1:=congrArg (λz=>z.1.place) e;have e2:=congrArg (λz=>z.2) e;dsimp only at e1 e2;show some (_,_)=some (_,_);rw[e2];unfold tm tmd;rw[<-e1]
 apply Dp.mp;rw[GA];unfold sen;show(g.map (·.2)).filterMap (λi=>(ys.map λx=>(knd.hash x.1,Ay x.2)).toArray[i]?)=((g.map (·.2)).filterMap λi=>ys[i]?).map λx=>(knd.hash x.1,Ay x.2)
 rw[HN];refine congrArg (λf=>JI f _) (funext λi=>?_);rw[B0,A5]
theorem qB{h0:Heap}(hu:knd.room A)(T:Tb knd xs m ps)(ho:s.heap.get? S=some (setT knd xs ep m ps mv))(T':Tb knd ys m' ps')(w1:s.heap.get? O=some (setT knd ys ep' m' ps' mv'))(q4:S≠O)(hx:∀x∈xs,knd.is h0 x.1 x.2)(B:∀x∈ys,knd.is h0 x.1 x.2)(hg:∀b o,h0.get? b=some o->b≠S/\s.heap.get? b=some o)(ks:List K)(z7:ks.length<=700)(w5:∀x∈xs,x.1∈ks)(w6:∀x∈ys,x.1∈ks)
 {each:KH Unit} (he:∀s':Ac,s'.heap.get? O=some (setT knd ys ep' m' ps' mv')->∀Q:Unit->Ac->Prop,Q () s'->Am (A4 prog w) A each Q E s') {Q:Unit->Ac->Prop}
 (h:∀h' q8 m1 M g U,BA S s.heap h'->Tb knd q8 m1 M->h'.get? S=some (setT knd q8 U m1 M g)->(∀x∈q8,x∈xs\/x∈ys)->(∀y,y∈xs\/y∈ys->y.1∈q8.map (·.1))->Q () { s with heap:=h' }) :
 Am (A4 prog w) A (setMerge S O each) Q E s:=by
 have len:∀zs:List (K×Addr),(zs.map (·.1)).Nodup->(∀x∈zs,x.1∈ks)->zs.length<=700:=λzs nd q=>by
  have:=nd.length_le_of_subset (l₂:=ks) λy B=>by obtain⟨z,hz,rfl⟩:=Ag.mp B;exact q z hz
  rw[lM] at this;omega
 have lx:=len xs T.nd w5;have ly:=len ys T'.nd w6;unfold setMerge;rw[if_neg (by simpa using q4)];refine Aa (AH w1 rfl T'.fits ?_);dsimp only;by_cases e0:ys=[]
 rw[if_pos (by rw[e0];rfl)];subst e0;exact Ab (h s.heap xs m ps mv ep (D9 S s.heap) T ho (λx hx=>.inl hx) λy B=>by
  rcases B with B|B;exact Ag.mpr ⟨y,B,rfl⟩;cases B)
 have hsz:(sen knd ys).size=ys.length:=aM knd ys;rw[if_neg (by rw[Array.isEmpty_iff_size_eq_zero,hsz];intro z;exact e0 (BW.mp z)),hsz];refine Aa (aFq T ho (n:=ys.length) (by omega) λh1 w9 m1 M g U b1 T1 o1 q6 hr=>?_);have g1:∀b o,h0.get? b=some o->h1.get? b=some o:=λb o e=>(b1.2 b (hg b o e).1).trans (hg b o e).2;have oO:h1.get? O=some (setT knd ys ep' m' ps' mv'):=(b1.2 O q4.symm).trans w1;refine Aa (AH (s:={ s with heap:=h1 }) o1 rfl T1.fits ?_);dsimp only;have l1:=q6.length_eq;by_cases e1:xs=[]
 . -- a new JD
   subst e1;have x1:w9=[]:=LM q6;subst x1;have p1:M=[]:=BW.mp T1.len;subst p1;have w0:((!byTt w)&&(!byTt w))=(!byTt w):=Hu _;by_cases e2:m1=m';subst e2;rw[show(tm m1 [] g (!byTt w)).road (tm m1 ps' mv' (!byTt w))=.slotForSlot by unfold road D5 tm tmd;simp];dsimp only;refine D8 (s:={ s with heap:=h1 }) o1 rfl ?_ (by rw[hsz];exact A2 (show ys.length<=700 by omega) (by decide));have:=fG (ds':=[]) o1 ys m1 ps' g;refine h _ ys m1 ps' g (U+1) (b1.trans (BI h1 S _)) T' ?_ (λx hx=>.inr hx) λy B=>?_;rw[<-this];unfold tmd;dsimp only;rw[w0];rfl;rcases B with B|B;cases B;exact Ag.mpr ⟨y,B,rfl⟩;rw[show(tm m1 [] g (!byTt w)).road (tm m' ps' mv' (!byTt w))=.clean by unfold road D5 tm tmd;simp[e2]];dsimp only;obtain⟨z6,I,T2,q7,w4⟩:=aHF (knd:=knd) T1.m2 (ys:=ys) (by rw[lN] at hr;omega) T'.nd;obtain⟨W,q1,q2⟩:=w4 g (!byTt w);have z4:laid (tm m1 [] g (!byTt w)).mask (tm m1 [] g (!byTt w)).finger (tm m1 [] g (!byTt w)).moves ((tm m1 [] g (!byTt w)).led&&(tm m' ps' mv' (!byTt w)).led) ((tm m1 [] g (!byTt w)).plain&&(tm m' ps' mv' (!byTt w)).plain) ((sen knd ys).map (·.1))=some (tm m1 I g (!byTt w),W):=by show laid m1 0 g ((!byTt w)&&(!byTt w)) true _=_;rw[w0];exact q1
   rw[z4];refine Aa ?_;show Am _ _ (if ((W.filterMap λi=>(sen knd ys)[i]?).size != (sen knd ys).size)=true then _ else _) _ _ _;rw[q2,if_neg (by rw[aM,aM,q7.length_eq];simp)];refine Ab ?_;refine D8 (s:={ s with heap:=h1 }) o1 rfl ?_ (by rw[aM,q7.length_eq];exact A2 (show ys.length<=700 by omega) (by decide));refine h _ z6 m1 I g (U+1) (b1.trans (BI h1 S _)) T2 (fG o1 _ _ _ _) (λx hx=>.inr (q7.mem_iff.mp hx)) λy B=>?_;rcases B with B|B;cases B;exact(q7.map _).mem_iff.mpr (Ag.mpr ⟨y,B,rfl⟩)
 have q9:M.length≠0:=by rw[T1.len,l1];exact λz=>e1 (BW.mp z)
 rw[show(tm m1 M g (!byTt w)).road (tm m' ps' mv' (!byTt w))=.oneByOne by unfold road D5 tm tmd;simp;intro z;rw[z] at q9;exact absurd rfl q9];dsimp only;refine Aa (wW (s:={ s with heap:=h1 }) T' oO ?_);obtain⟨zs,w7,z1⟩:∃zs:List (K×Addr),zs.Perm ys/\(eY w O ep' (sen knd ys)).toList=zs.map λx=>(knd.hash x.1,Ay x.2):=by have:=eD w O ep' (sen knd ys);obtain⟨zs,a,b⟩:=cH this (xs:=ys) (f:=λx=>(knd.hash x.1,Ay x.2)) rfl;exact⟨zs,a,b⟩
 refine Aa (pZ (eY w O ep' (sen knd ys)) zs z1 _ (λrest s'=>∃h2 G m2 I q5 q0,s'={ s with heap:=h2 }/\BA S s.heap h2/\Tb knd G m2 I/\h2.get? S=some (setT knd G q0 m2 I q5)/\(∀x∈G,x∈xs\/x∈ys)/\(∀y,y∈xs\/(y∈ys/\y∉rest)->y.1∈G.map (·.1))/\∀z∈rest,z∈ys) ?_ ?_ ⟨h1,w9,m1,M,g,U,rfl,b1,T1,o1,λx hx=>.inl (q6.mem_iff.mp hx),λy B=>?_,λz hz=>w7.mem_iff.mp hz⟩);rintro z rest s' ⟨h2,G,m2,I,q5,q0,rfl,c1,c2,c3,c4,c5,c7⟩;have g2:∀b o,h0.get? b=some o->h2.get? b=some o:=λb o e=>(c1.2 b (hg b o e).1).trans (hg b o e).2;have kz:∀x,x∈xs\/x∈ys->knd.is h2 x.1 x.2:=λx L=>knd.keepT (L.elim (hx x) (B x)) g2;refine Aa (AI (wV (k:=z.1) (a:=z.2) (s:={ s with heap:=h2 }) hu c2 c3 (λx L=>kz x (c4 x L)) (kz z (.inr (c7 z Ai))) (λ_=>len G c2.nd λx q=>(c4 x q).elim (w5 x) (w6 x)) λh3 b z5 m3 z3 z2 z0 d1 d2 d3 d4=>?_));have w8:h3.get? O=some (setT knd ys ep' m' ps' mv'):=(d1.2 O q4.symm).trans ((c1.2 O q4.symm).trans w1);refine Aa (he { s with heap:=h3 } w8 _ ?_);refine Aa (AH (s:={ s with heap:=h3 }) w8 rfl T'.fits ?_);dsimp only;rw[if_neg (by simp)];refine Ab ⟨h3,z5,m3,z3,z2,z0,rfl,c1.trans d1,d2,d3,λx L=>?_,λy w3=>?_,λq hq=>c7 q (Af _ hq)⟩;split at d4;rw[d4] at L;exact c4 x L;rcases Al.mp (d4.mem_iff.mp L) with rfl|q;exact .inr (c7 _ Ai);exact c4 x q;have key:y.1∈G.map (·.1)\/y=z:=by
  rcases w3 with q|⟨q1,q2⟩
  exact .inl (c5 y (.inl q));by_cases e:y=z;exact .inr e;exact .inl (c5 y (.inr ⟨q1,λq3=>(Al.mp q3).elim e q2⟩))
 split at d4;rename_i hm;rw[d4];rcases key with q|q;exact q;rw[q];exact hm;refine(d4.map _).mem_iff.mpr ?_;rcases key with q|q;exact Af _ q;rw[q];exact Ai;rintro s' ⟨h2,G,m2,I,q5,q0,rfl,c1,c2,c3,c4,c5,c7⟩;exact Ab (h h2 G m2 I q5 q0 c1 c2 c3 c4 λy w3=>c5 y (w3.elim .inl λq=>.inr ⟨q,λz=>by cases z⟩));rcases B with q|⟨q,q2⟩
 exact(q6.map _).mem_iff.mpr (Ag.mpr ⟨y,q,rfl⟩);exact absurd (w7.mem_iff.mpr q) q2
end
set_option maxRecDepth 100000
theorem qC:Gg JD "set.__or__" = some BL.«frozenset.__or__»:=E3 (id':= "frozenset.__or__") (by kernel_rfl) rfl (by decide +kernel) (by kernel_rfl)
theorem nE:Gg JD "set.__and__" = some BL.«frozenset.__and__»:=E3 (id':= "frozenset.__and__") (by kernel_rfl) rfl (by decide +kernel) (by kernel_rfl)
section
variable {prog:A0} {w:AR} {K:Type} [DecidableEq K] {knd:SK prog w K} {A:AJ} {E:Ad->Ac->Prop} {s:Ac} {S O a:Addr} {k:K} {xs ys:List (K×Addr)} {m mv ep m' mv' ep':Nat} {ps ps':List Nat}
theorem vC{ds:List Nat}(hu:knd.room A)(T:TD knd xs m ps ds)(B:s.heap.get? S=some (dR knd xs ep m ps ds mv))(M:∀x∈xs,knd.is s.heap x.1 x.2)(I:knd.is s.heap k a){Q:Option Nat->Ac->Prop}
 (h:∀r:Option Nat,r.isSome=decide (k∈xs.map (·.1))->(∀i,r=some i->∃b,xs[i]? = some (k,b))->Q r s):Am (A4 prog w) A (L9 S (.ref a) (knd.hash k)) Q E s:=by obtain⟨N,L,G,U⟩:=lR (ps:=ps++ds) T.m2 (by rw[lA];exact Ca T.lt) (knd.hash k);unfold L9 setFindIn;refine Aa (AH B rfl T.fits ?_);dsimp only;rw[if_neg (by unfold byScan;simp[Jp])];unfold setSearch;have q:=T.m2.le;refine Aa (iY (ad:=false) hu T B M I G U L (λz=>by cases z) (λg r _ W=>?_) (λg _ _ _=>?_) 100000 0 none none (λ_=>rfl) (AS _) (by omega) (λn' i x z=>absurd z (C5 _)) rfl);obtain⟨i,b,rfl,e⟩:=W rfl;exact Ab (h _ (by rw[Aw g];rfl) λi' z=>by cases z;exact⟨b,e⟩);exact Ab (h none (by rw[Ar g];rfl) λi' z=>by cases z)
theorem gE{v:Addr}{Q:Bool->Ac->Prop}(g:s.TypeIs (.ref v) "set")(h:Q true s):Am (A4 prog w) A (FA (.ref v)) Q E s:=by unfold FA;refine Aa (Bw g (b:=true) (by rw[CG];kernel_rfl) ?_);exact Ab h
theorem wX{v:Addr}{Q:Ad->Ac->Prop}(g:s.TypeIs (.ref v) "set")(h:Q (.type "set") s):Am (A4 prog w) A (Gb v) Q E s:=by unfold Gb;refine Aa (Bw g (b:=true) (by rw[CG];kernel_rfl) (Ab ?_));rw[if_pos rfl];exact h
theorem aCR{Q:Ad->Ac->Prop}(h:Q (.ref s.heap.objs.size) { s with heap:=s.heap.push { cls:=.type "set",dict:=none,data:=.set #[] 0 (.fresh 0 0 (!byTt w)) } }) :
 Am (A4 prog w) A (newSet (.type "set")) Q E s:=by unfold newSet F7;refine Aa (Aa (BY (Ab ?_)));dsimp only;simp only[newObj];exact Aa (La (Ab h))
theorem cU{us:List (K×Addr)}{h:Heap}{S:Addr}(x:bP knd h S us)(sh:Ac)(e:sh.heap=h):sh.TypeIs (.ref S) "set" := by obtain⟨xs,m,ps,mv,ep,T,g,_⟩:=x;exact⟨_,by rw[e];exact g,rfl⟩
theorem kC:(Tb knd [] 7 []:Prop):=⟨⟨0,by decide,rfl⟩,Cc,rfl,Fx,(show 0*5<7*3 by decide),λi x j g=>by simp at g⟩
theorem iB{h:Heap}:(h.push { cls:=.type "set",dict:=none,data:=.set #[] 0 (.fresh 0 0 (!byTt w)) }).get? h.objs.size=some (setT knd [] 0 7 [] 0):=A7 _ rfl
theorem lX{us:List (K×Addr)}{ks:List K}(T:Tb knd xs m ps)(r:∀x∈xs,x∈us)(g:∀x∈us,x.1∈ks):xs.length<=ks.length:=by
 have:=T.nd.length_le_of_subset (l₂:=ks) λy q=>by obtain⟨z,B,rfl⟩:=Ag.mp q;exact g z (r z B)
 rwa [lM] at this
theorem jA{Q:Nat->Ac->Prop}(T:Tb knd xs m ps)(g:s.heap.get? S=some (setT knd xs ep m ps mv))(h:Q ep s):Am (A4 prog w) A (setEpoch S) Q E s:=by unfold setEpoch;exact Aa (AH g rfl T.fits (Ab h))
theorem nW{id:String}{Q:Unit->Ac->Prop}(T:Tb knd xs m ps)(g:s.heap.get? S=some (setT knd xs ep m ps mv))(h:Q () s):Am (A4 prog w) A (DA id S ep) Q E s:=by unfold DA;refine Aa (jA T g ?_);rw[if_neg (by simp)];exact Ab h
theorem aJK{us vs:List (K×Addr)}(hu:∀A':AJ,A'.units<=A.units+20->knd.room A')(hS:bP knd s.heap S us)(hO:bP knd s.heap O vs)(q6:S≠O)(M:∀x∈us,knd.is s.heap x.1 x.2)(q9:∀x∈vs,knd.is s.heap x.1 x.2)(ks:List K)(L:ks.length<=700)(I:∀x∈us,x.1∈ks)(q5:∀x∈vs,x.1∈ks){Q:Ad->Ac->Prop}
 (h:∀(h':Heap),bP knd h' s.heap.objs.size (us++vs)->(∀b o,s.heap.get? b=some o->h'.get? b=some o)->Q (.ref s.heap.objs.size) { s with heap:=h' }):Am (A4 prog w) A (Cq .BitOr (.ref S) (.ref O)) Q E s:=by
 have T1:s.TypeIs (.ref S) "set" := cU hS s rfl;have T2:s.TypeIs (.ref O) "set" := cU hO s rfl;obtain⟨xs,m,ps,mv,ep,Ta,oa,W,w4⟩:=hS;obtain⟨ys,m',ps',mv',ep',Tc,oc,rc,w5⟩:=hO;refine Fc (op:=.BitOr) T1 T2 PySem.F.fills_set_or Hn (AZ Hn T1 qC ?_ (PySem.F.args_set_or_2 _ _));refine Aa (m:=En "__or__" ⟨[.ref S,.ref O],[]⟩) (Aa (m:=pure (Ay S,[Ay O])) (Ab (Ab ?_)));dsimp only;rw[if_neg bN];dsimp only;refine Aa (Aa (gE T1 ?_));refine gE T2 ?_;rw[if_neg (by decide)];refine Aa (Ab ?_);refine Aa ?_;refine Aa (m:=Di S) ?_;unfold Di;refine Aa (wX T1 (Aa (aCR (Aa (Ab ?_)))));have sz:∀b o,s.heap.get? b=some o->b≠s.heap.objs.size:=λb o e=>A8 (Ap e);refine Aa (qB (h0:=s.heap) (s:={ s with heap:=_ }) (hu _ (by show A.units+1<=A.units+20;omega)) kC iB Ta (Ae _ oa) (sz S _ oa).symm (λx g=>by cases g) (λx g=>M x (W x g)) (λb o e=>⟨sz b o e,Ae _ e⟩) ks L (λx g=>by cases g) (λx g=>I x (W x g)) (each:=pure ()) (λs' _ Q q=>Ab q) λh1 w9 m1 w8 w7 w6 b1 T3 o1 r1 w3=>Ab ?_);have G:∀b o,s.heap.get? b=some o->h1.get? b=some o:=λb o e=>(b1.2 b (sz b o e)).trans (Ae _ e);rw[if_pos (by simpa using λz:O=S=>q6 z.symm)];have q3:EM { s with heap:=h1 } (.ref O) "set" := ⟨_,G O _ oc,rfl⟩
 refine Aa (Ab (Aa (AI ?_)));unfold Fa;refine Aa (gE q3 ?_);rw[if_pos rfl];refine Aa (Ab ?_);unfold Ku;refine Aa (jA (s:={ s with heap:=h1 }) Tc (G O _ oc) ?_);refine qB (h0:=s.heap) (s:={ s with heap:=h1 }) (hu _ (by show A.units+1<=A.units+20;omega)) T3 o1 Tc (G O _ oc) (sz O _ oc).symm (λx g=>M x (W x ((r1 x g).resolve_left λz=>by cases z))) (λx g=>q9 x (rc x g)) (λb o e=>⟨sz b o e,G b o e⟩) ks L (λx g=>I x (W x ((r1 x g).resolve_left λz=>by cases z))) (λx g=>q5 x (rc x g)) (λs' e Q q=>nW Tc e q) λh2 q0 m2 w1 w0 q4 b2 T4 o2 r2 U=>?_;refine Ab (Ab ⟨_,rfl,(λz=>nomatch z),h h2 ⟨q0,m2,w1,w0,q4,T4,o2,λx g=>?_,λy hy=>?_⟩ λb o e=>(b2.2 b (sz b o e)).trans (G b o e)⟩);rcases r2 x g with q|q;exact AB _ (W x ((r1 x q).resolve_left λz=>by cases z));exact As _ (rc x q);have B:∀z:K×Addr,z.1∈xs.map (·.1)->z.1∈q0.map (·.1):=λz hz=>by obtain⟨q,hq,e⟩:=Ag.mp hz;have:=w3 q (.inr hq);obtain⟨q2,q8,e2⟩:=Ag.mp this;rw[<-e,<-e2];exact U q2 (.inl q8)
 rcases AO.mp hy with q|q;exact B y (w4 y q);obtain⟨q1,q7,e1⟩:=Ag.mp (w5 y q);rw[<-e1];exact U q1 (.inr q7)
theorem aHG{us vs:List (K×Addr)}(hu:∀A':AJ,A'.units<=A.units+20->knd.room A')(hS:bP knd s.heap S us)(hO:bP knd s.heap O vs)(w8:S≠O)(q9:∀x∈us,knd.is s.heap x.1 x.2)(w0:∀x∈vs,knd.is s.heap x.1 x.2)(ks js:List K)(z7:ks.length<=700)(z6:js.length<=700)(w5:∀x∈us,x.1∈ks)(w6:∀x∈vs,x.1∈js){Q:Ad->Ac->Prop}
 (h:∀(h':Heap) (g:List (K×Addr)),bP knd h' s.heap.objs.size g->(∀z∈g,z∈us\/z∈vs)->(∀k,k∈g.map (·.1)↔k∈us.map (·.1)/\k∈vs.map (·.1))->(∀b o,s.heap.get? b=some o->h'.get? b=some o)->Q (.ref s.heap.objs.size) { s with heap:=h' }):Am (A4 prog w) A (Cq .BitAnd (.ref S) (.ref O)) Q E s:=by
 have T1:s.TypeIs (.ref S) "set" := cU hS s rfl;have T2:s.TypeIs (.ref O) "set" := cU hO s rfl;obtain⟨xs,m,ps,mv,ep,Ta,oa,ra,z3⟩:=hS;obtain⟨ys,m',ps',mv',ep',Tc,oc,rc,z4⟩:=hO;have lx:=lX Ta ra w5;have ly:=lX Tc rc w6;have sz:∀b o,s.heap.get? b=some o->b≠s.heap.objs.size:=λb o e=>A8 (Ap e);have kx:∀k,k∈us.map (·.1)↔k∈xs.map (·.1):=λk=>⟨λq=>by obtain⟨z,hz,rfl⟩:=Ag.mp q;exact z3 z hz,λq=>by obtain⟨z,hz,rfl⟩:=Ag.mp q;exact Ag.mpr ⟨z,ra z hz,rfl⟩⟩
 have ky:∀k,k∈vs.map (·.1)↔k∈ys.map (·.1):=λk=>⟨λq=>by obtain⟨z,hz,rfl⟩:=Ag.mp q;exact z4 z hz,λq=>by obtain⟨z,hz,rfl⟩:=Ag.mp q;exact Ag.mpr ⟨z,rc z hz,rfl⟩⟩
 refine Fc (op:=.BitAnd) T1 T2 PySem.F.fills_set_and Hf (AZ Hf T1 nE ?_ (PySem.F.args_set_and_2 _ _));refine Aa (m:=En "__and__" ⟨[.ref S,.ref O],[]⟩) (Aa (m:=pure (Ay S,[Ay O])) (Ab (Ab ?_)));dsimp only;rw[if_neg bN];dsimp only;refine Aa (Aa (gE T1 ?_));refine gE T2 ?_;rw[if_neg (by decide)];refine Aa (Ab ?_);refine Aa ?_;unfold IU;rw[if_neg (by simpa using λz:O=S=>w8 z.symm)];refine Aa (wX T1 (Aa (aCR (Aa (Ab (Aa (AI ?_)))))));have g0:∀b o,s.heap.get? b=some o->(s.heap.push { cls:=.type "set",dict:=none,data:=.set #[] 0 (.fresh 0 0 (!byTt w)) }).get? b=some o:=λb o e=>Ae _ e;refine Aa (gE ⟨_,g0 O _ oc,rfl⟩ ?_);rw[if_pos rfl];refine Aa (Ab ?_);have szT:∀{sh:Ac} {V:Addr} {g:List (K×Addr)} {m mv ep:Nat} {ps:List Nat} {Q:Nat->Ac->Prop},Tb knd g m ps->sh.heap.get? V=some (setT knd g ep m ps mv)->Q g.length sh->Am (A4 prog w) A.in1 (Cp V) Q E sh:=λT o q=>by unfold Cp HP;refine Aa (Aa (AH o rfl T.fits (Ab (Ab ?_))));dsimp only;rw[aM];exact q
 refine Aa (szT Tc (g0 O _ oc) (Aa (szT Ta (g0 S _ oa) ?_)));have q6:∀{U V:Addr} {xu L:List (K×Addr)} {mu w3 eu mw q8 ew:Nat} {pu pw:List Nat},Tb knd xu mu pu->s.heap.get? U=some (setT knd xu eu mu pu w3)->Tb knd L mw pw->s.heap.get? V=some (setT knd L ew mw pw q8)->(∀x∈xu,knd.is s.heap x.1 x.2)->(∀x∈L,knd.is s.heap x.1 x.2)->(∀x∈L,x∈us\/x∈vs)->L.length<=700->(∀k,k∈xu.map (·.1)/\k∈L.map (·.1)↔k∈us.map (·.1)/\k∈vs.map (·.1)) ->
  Am (A4 prog w) A.in1 (Hz V [U,s.heap.objs.size] (some s.heap.objs.size)) (λes s'=>Am (A4 prog w) A.in1 (forIn es JN λx _=>match x with
   | (h,x)=>do
    FJ [x] do
     let r<-L9 U x h
     if r.isSome=true then do
      let _<-IC s.heap.objs.size x h
      pure ()
     else pure ()
    DA (toString "frozenset." ++ toString "__and__") V ew
    pure (CQ JN)) (λ_ s'=>∃(h':Heap) (g:List (K×Addr)),s'={ s with heap:=h' }/\bP knd h' s.heap.objs.size g/\(∀z∈g,z∈us\/z∈vs)/\(∀k,k∈g.map (·.1)↔k∈us.map (·.1)/\k∈vs.map (·.1))/\∀b o,s.heap.get? b=some o->h'.get? b=some o) E s') E { s with heap:=s.heap.push { cls:=.type "set",dict:=none,data:=.set #[] 0 (.fresh 0 0 (!byTt w)) } }:=by
  intro U V xu L mu w3 eu mw q8 ew pu pw TU oU TV oV kU kV sub lv w1;refine wW (s:={ s with heap:=_ }) TV (g0 V _ oV) ?_;obtain⟨g,q7,w9⟩:∃g:List (K×Addr),g.Perm L/\(eY w V ew (sen knd L)).toList=g.map λx=>(knd.hash x.1,Ay x.2):=by obtain⟨g,a,b⟩:=cH (eD w V ew (sen knd L)) (xs:=L) (f:=λx=>(knd.hash x.1,Ay x.2)) rfl;exact⟨g,a,b⟩
  refine pZ _ g w9 _ (λrest s'=>∃h2 G m2 W q5 q0,s'={ s with heap:=h2 }/\(∀b o,s.heap.get? b=some o->h2.get? b=some o)/\Tb knd G m2 W/\h2.get? s.heap.objs.size=some (setT knd G q0 m2 W q5)/\(∀x∈G,x∈L/\x.1∈xu.map (·.1))/\(∀y,y∈L->y∉rest->y.1∈xu.map (·.1)->y.1∈G.map (·.1))/\G.length+rest.length<=700/\∀z∈rest,z∈L) ?_ ?_ ⟨_,[],7,[],0,0,rfl,g0,kC,iB,λx M=>(by cases M),λy hy q=>absurd (q7.mem_iff.mpr hy) q,by rw[lN,q7.length_eq];omega,λz hz=>q7.mem_iff.mp hz⟩;rintro z rest s' ⟨h2,G,m2,W,q5,q0,rfl,c1,c2,c3,c4,c5,c6,c7⟩;have zx:=c7 z Ai;have kz:∀x,x∈xu\/x∈L->knd.is h2 x.1 x.2:=λx B=>knd.keepT (B.elim (kU x) (kV x)) c1;rw[lC] at c6;have z1:∀{h3:Heap},BA s.heap.objs.size h2 h3->h3.get? V=some (setT knd L ew mw pw q8):=λd=>(d.2 V (sz V _ oV)).trans (c1 V _ oV);dsimp only;refine Aa (AI (Aa (vC (k:=z.1) (a:=z.2) (s:={ s with heap:=h2 }) (hu _ (by show A.units+1<=A.units+20;omega)) TU.toD (c1 U _ oU) (λx B=>kz x (.inl B)) (kz z (.inr zx)) λr hr _=>?_)));by_cases hm:z.1∈xu.map (·.1);rw[hr,Aw hm,if_pos rfl];refine Aa (wV (k:=z.1) (a:=z.2) (s:={ s with heap:=h2 }) (hu _ (by show A.units+1<=A.units+20;omega)) c2 c3 (λx B=>kz x (.inr (c4 x B).1)) (kz z (.inr zx)) (λ_=>by omega) λh3 b z5 m3 z2 z0 w4 d1 d2 d3 d4=>Ab ?_);refine Aa (nW (s:={ s with heap:=h3 }) TV (z1 d1) ?_);refine Ab ⟨h3,z5,m3,z2,z0,w4,rfl,λb o e=>(d1.2 b (sz b o e)).trans (c1 b o e),d2,d3,λx B=>?_,λy I q1 q2=>?_,?_,λq hq=>c7 q (Af _ hq)⟩;split at d4;rw[d4] at B;exact c4 x B;rcases Al.mp (d4.mem_iff.mp B) with rfl|q;exact⟨zx,hm⟩;exact c4 x q;have key:y.1∈G.map (·.1)\/y=z:=by by_cases e:y=z;exact .inr e;exact .inl (c5 y I (λq3=>(Al.mp q3).elim e q1) q2)
  split at d4;rename_i w7;rw[d4];rcases key with q|q;exact q;rw[q];exact w7;refine(d4.map _).mem_iff.mpr ?_;rcases key with q|q;exact Af _ q;rw[q];exact Ai;split at d4;rw[d4];omega;have:=d4.length_eq;rw[lC] at this;omega;rw[hr,Ar hm,if_neg bN];refine Ab (Aa (nW (s:={ s with heap:=h2 }) TV (c1 V _ oV) ?_));refine Ab ⟨h2,G,m2,W,q5,q0,rfl,c1,c2,c3,c4,λy I q1 q2=>?_,by omega,λq hq=>c7 q (Af _ hq)⟩;by_cases e:y=z;rw[e] at q2;exact absurd q2 hm;exact c5 y I (λq3=>(Al.mp q3).elim e q1) q2;rintro s' ⟨h2,G,m2,W,q5,q0,rfl,c1,c2,c3,c4,c5,c6,c7⟩;refine⟨h2,G,rfl,⟨G,m2,W,q5,q0,c2,c3,λx B=>B,λy I=>Ag.mpr ⟨y,I,rfl⟩⟩,λz hz=>sub z (c4 z hz).1,λk=>?_,c1⟩;rw[<-w1 k];constructor;intro q;obtain⟨y,I,rfl⟩:=Ag.mp q;exact⟨(c4 y I).2,Ag.mpr ⟨y,(c4 y I).1,rfl⟩⟩;rintro ⟨q1,q2⟩;obtain⟨y,I,rfl⟩:=Ag.mp q2;exact c5 y I (λz=>by cases z) q1
 have done:∀{s':Ac},(∃(h':Heap) (g:List (K×Addr)),s'={ s with heap:=h' }/\bP knd h' s.heap.objs.size g/\(∀z∈g,z∈us\/z∈vs)/\(∀k,k∈g.map (·.1)↔k∈us.map (·.1)/\k∈vs.map (·.1))/\∀b o,s.heap.get? b=some o->h'.get? b=some o)->Q (.ref s.heap.objs.size) s':=λ⟨h',g,e,q1,q2,q3,q4⟩=>e▸h h' g q1 q2 q3 q4;by_cases c:ys.length>xs.length
 . rw[if_pos c];dsimp only;refine Aa (jA (s:={ s with heap:=_ }) Ta (g0 S _ oa) ?_);refine Aa (BO (q6 Tc oc Ta oa (λx M=>w0 x (rc x M)) (λx M=>q9 x (ra x M)) (λx M=>.inl (ra x M)) (by omega) λk=>by rw[kx,ky];exact And.comm) (λes s1 q1=>Aa (BO q1 (λ_ s2 q2=>?_) λ_ _ e=>e)) λ_ _ e=>e);exact Ab (Ab (Ab ⟨_,rfl,(λz=>nomatch z),done q2⟩))
 . rw[if_neg c];dsimp only;refine Aa (jA (s:={ s with heap:=_ }) Tc (g0 O _ oc) ?_);refine Aa (BO (q6 Ta oa Tc oc (λx M=>q9 x (ra x M)) (λx M=>w0 x (rc x M)) (λx M=>.inr (rc x M)) (by omega) λk=>by rw[kx,ky]) (λes s1 q1=>Aa (BO q1 (λ_ s2 q2=>?_) λ_ _ e=>e)) λ_ _ e=>e);exact Ab (Ab (Ab ⟨_,rfl,(λz=>nomatch z),done q2⟩))
end
set_option maxRecDepth 100000
theorem nF:Gg JD "set.__sub__" = some BL.«frozenset.__sub__»:=E3 (id':= "frozenset.__sub__") (by kernel_rfl) rfl (by decide +kernel) (by kernel_rfl)
theorem iC{α:Type}(l:List α)(p:Nat):IV l.toArray p=(l.eraseIdx p).toArray:=by unfold IV;rw[Dj];apply Lx;simp[FC];rw[Ce (by rw[BC];omega)]
section
variable {prog:A0} {w:AR} {K:Type} [DecidableEq K] {knd:SK prog w K} {A:AJ} {E:Ad->Ac->Prop} {s:Ac} {S O a:Addr} {k:K} {xs ys:List (K×Addr)} {m mv ep m' mv' ep':Nat} {ps ps' ds:List Nat}
theorem aFr(T:TD knd xs m ps ds){i j:Nat}{x:K×Addr}(W:xs[i]? = some x)(I:ps[i]? = some j):TD knd (xs.eraseIdx i) m (ps.eraseIdx i) (cJ ds (below ds.toArray j) j):=by
 have hi:=(Au.mp W).1;have L:=mG I;have U:(xs.eraseIdx i).length=xs.length-1:=DO hi;have lp:(ps.eraseIdx i).length=ps.length-1:=DO (by rw[T.len];exact hi);have sub:∀y,y∈ps++ds->y∈ps.eraseIdx i++cJ ds (below ds.toArray j) j:=λy g=>by rcases AO.mp g with q|q;by_cases e:y=j;exact As _ (dE.mem_iff.mpr (e▸Ai));obtain⟨n,B⟩:=Bm.mp q;refine AB _ (Dq.mpr ⟨n,λz=>e ?_,B⟩);rw[z,I] at B;exact(Av B).symm;exact As _ (dE.mem_iff.mpr (Af _ q))
 have nj:j∉ps.eraseIdx i:=λz=>by obtain⟨n,B,M⟩:=Dq.mp z;exact B ((iX T.rise M).symm.trans (iX T.rise I))
 refine⟨T.m2,T.rise.sublist (GQ _ _),sP T.rd (T.dj j L),λy g z=>?_,by rw[U,lp,T.len],T.nd.sublist ((GQ _ _).map _),?_,λn y q g G=>?_⟩;rcases Al.mp (dE.mem_iff.mp z) with rfl|z;exact nj g;exact T.dj y (List.mem_of_mem_eraseIdx g) z;have:=T.few;rw[U,eC];omega;rw[List.getElem?_eraseIdx] at g G;refine Rod.mono sub ?_;split at g;rw[if_pos ‹_›] at G;exact T.rod n y q g G;rw[if_neg ‹_›] at G;exact T.rod _ y q g G
theorem aCS(i:Nat):eraseAt (sen knd xs) i=sen knd (xs.eraseIdx i):=by unfold sen;rw[iC,Dj,Dj,BM,Hx,Hy]
theorem aFs{i j:Nat}(g:ps[i]? = some j){led:Bool}:(tmd m ps ds mv led).drop i=tmd m (ps.eraseIdx i) (cJ ds (below ds.toArray j) j) mv led:=by unfold SetTable.drop tmd;dsimp only;rw[B0,g];dsimp only;rw[iC,eM]
theorem aFt(hu:knd.room A)(T:TD knd xs m ps ds)(I:s.heap.get? S=some (dR knd xs ep m ps ds mv))(hk:∀x∈xs,knd.is s.heap x.1 x.2)(ha:knd.is s.heap k a){Q:Bool->Ac->Prop}
 (h:∀h' b B ps' ds' ep',BA S s.heap h'->TD knd B m ps' ds'->h'.get? S=some (dR knd B ep' m ps' ds' mv)->(∀x,x∈B↔x∈xs/\x.1≠k)->Q b { s with heap:=h' }):Am (A4 prog w) A (IW S (.ref a) (knd.hash k)) Q E s:=by
 unfold IW;refine Aa (vC hu T I hk ha λr hr U=>?_);cases r with
 | none=>have hm:k∉xs.map (·.1):=of_decide_eq_false hr.symm;exact Ab (h s.heap false xs ps ds ep (D9 S s.heap) T I λx=>⟨λq=>⟨q,λz=>hm (z▸Ag.mpr ⟨x,q,rfl⟩)⟩,And.left⟩)|some i=>obtain⟨b,M⟩:=U i rfl;have hi:=(Au.mp M).1;have W:ps[i]? = some (ps[i]'(by rw[T.len];exact hi)):=Ah _;dsimp only;refine Aa (AH I rfl T.fits ?_);dsimp only;rw[aFs W,aCS];have L:=aFr T M W;refine Aa (D8 I rfl ?_ (by rw[aM,<-L.len];have:=L.lt;have:=L.m2.le;exact A2 (show(ps.eraseIdx i).length<=5000 by omega) (by decide)));refine Aa (wpAny_point (Ab ?_));refine h _ true _ _ _ (ep+1) (BI s.heap S _) L (fG I _ _ _ _) λx=>?_;rw[Dq];constructor;rintro ⟨n,G,g⟩;refine⟨mG g,λz=>G ?_⟩;have nd:=T.nd;exact(List.getElem?_inj (by rw[lM];exact(Au.mp g).1) nd).mp (by rw[A5,A5,g,M];exact congrArg some z);rintro ⟨q,z⟩;obtain⟨n,G⟩:=Bm.mp q;refine⟨n,λe=>z ?_,G⟩;rw[e,M] at G;exact(congrArg Prod.fst (Av G)).symm
theorem aFu(T:TD knd xs m ps ds)(q:s.heap.get? S=some (dR knd xs ep m ps ds mv))(M:xs.length<=700){Q:Unit->Ac->Prop}
 (h:∀h' g m' ps' ds' mv' ep',BA S s.heap h'->TD knd g m' ps' ds'->h'.get? S=some (dR knd g ep' m' ps' ds' mv')->g.Perm xs->Q () { s with heap:=h' }):Am (A4 prog w) A (setTidy S) Q E s:=by unfold setTidy;refine Aa (AH q rfl T.fits ?_);dsimp only;split;obtain⟨B,U,W⟩:=pX (xs.length*4) (by omega);have z4:=B.le;rw[aM,show grown xs.length=xs.length*4 by unfold grown;rw[if_neg (by omega)]];exact pY B rfl (by rw[show sizeLine=16777216 by decide];omega) q T.fits (by omega) T.nd λh' g ps' mv' ep' b1 G I L=>h h' g _ ps' [] mv' ep' b1 G.toD I L;exact Ab (h s.heap xs m ps ds mv ep (D9 S s.heap) T q (B5 _))
theorem aCT{us:List (K×Addr)}{ks:List K}(T:TD knd xs m ps ds)(r:∀x∈xs,x∈us)(g:∀x∈us,x.1∈ks):xs.length<=ks.length:=by
 have:=T.nd.length_le_of_subset (l₂:=ks) λy q=>by obtain⟨z,B,rfl⟩:=Ag.mp q;exact g z (r z B)
 rwa [lM] at this
theorem szT{g:List (K×Addr)}{m mv ep:Nat}{ps:List Nat}{Q:Nat->Ac->Prop}(T:Tb knd g m ps)(o:s.heap.get? S=some (setT knd g ep m ps mv))(q:Q g.length s):Am (A4 prog w) A (Cp S) Q E s:=by unfold Cp HP;refine Aa (Aa (AH o rfl T.fits (Ab (Ab ?_))));dsimp only;rw[aM];exact q
theorem aHH{us vs:List (K×Addr)}(hu:∀A':AJ,A'.units<=A.units+20->knd.room A')(hS:bP knd s.heap S us)(hO:bP knd s.heap O vs)(z7:S≠O)(w4:∀x∈us,knd.is s.heap x.1 x.2)(w7:∀x∈vs,knd.is s.heap x.1 x.2)(ks js:List K)(w3:ks.length<=700)(z6:js.length<=700)(w0:∀x∈us,x.1∈ks)(z0:∀x∈vs,x.1∈js){Q:Ad->Ac->Prop}
 (h:∀(h':Heap) (zs:List (K×Addr)),aAV knd h' s.heap.objs.size zs->(∀z∈zs,z∈us\/z∈vs)->(∀k,k∈zs.map (·.1)↔k∈us.map (·.1)/\k∉vs.map (·.1))->(∀b o,s.heap.get? b=some o->h'.get? b=some o)->Q (.ref s.heap.objs.size) { s with heap:=h' }):Am (A4 prog w) A (Cq .Sub (.ref S) (.ref O)) Q E s:=by
 have T1:s.TypeIs (.ref S) "set" := cU hS s rfl;have T2:s.TypeIs (.ref O) "set" := cU hO s rfl;obtain⟨xs,m,ps,mv,ep,Ta,oa,ra,z4⟩:=hS;obtain⟨ys,m',ps',mv',ep',Tc,oc,rc,z5⟩:=hO;have lx:=lX Ta ra w0;have ly:=lX Tc rc z0;have sz:∀b o,s.heap.get? b=some o->b≠s.heap.objs.size:=λb o e=>A8 (Ap e);have kx:∀k,k∈us.map (·.1)↔k∈xs.map (·.1):=λk=>⟨λq=>by obtain⟨z,hz,rfl⟩:=Ag.mp q;exact z4 z hz,λq=>by obtain⟨z,hz,rfl⟩:=Ag.mp q;exact Ag.mpr ⟨z,ra z hz,rfl⟩⟩
 have ky:∀k,k∈vs.map (·.1)↔k∈ys.map (·.1):=λk=>⟨λq=>by obtain⟨z,hz,rfl⟩:=Ag.mp q;exact z5 z hz,λq=>by obtain⟨z,hz,rfl⟩:=Ag.mp q;exact Ag.mpr ⟨z,rc z hz,rfl⟩⟩
 refine Fc (op:=.Sub) T1 T2 PySem.F.fills_set_sub Hg (AZ Hg T1 nF ?_ (PySem.F.args_set_sub_2 _ _));refine Aa (m:=En "__sub__" ⟨[.ref S,.ref O],[]⟩) (Aa (m:=pure (Ay S,[Ay O])) (Ab (Ab ?_)));dsimp only;rw[if_neg bN];dsimp only;refine Aa (Aa (gE T1 ?_));refine gE T2 ?_;rw[if_neg (by decide)];refine Aa (Ab ?_);refine Aa ?_;unfold Jt
 extract_lets viaCopy
 refine Aa (gE T2 ?_);rw[if_neg (by decide)];refine Aa (Ab ?_);rw[if_neg (by simp)];refine Aa (szT (S:=O) Tc oc ?_);dsimp only;refine Aa (szT (S:=S) Ta oa ?_);by_cases c:xs.length / 4>ys.length;rw[if_pos c];refine Aa (CF ?_);refine Aa (m:=Di S) ?_;unfold Di;refine Aa (wX T1 (Aa (aCR (Aa (Ab ?_)))));refine Aa (qB (h0:=s.heap) (s:={ s with heap:=_ }) (hu _ (by show A.units+1<=A.units+20;omega)) kC iB Ta (Ae _ oa) (sz S _ oa).symm (λx B=>by cases B) (λx B=>w4 x (ra x B)) (λb o e=>⟨sz b o e,Ae _ e⟩) ks w3 (λx B=>by cases B) (λx B=>w0 x (ra x B)) (each:=pure ()) (λs' _ Q q=>Ab q) λh1 q0 m1 z3 z2 w9 b1 T3 o1 r1 w8=>Ab ?_);have g1:∀b o,s.heap.get? b=some o->h1.get? b=some o:=λb o e=>(b1.2 b (sz b o e)).trans (Ae _ e);have r2:∀x∈q0,x∈xs:=λx B=>(r1 x B).resolve_left λz=>by cases z
 have l1:xs.length<=q0.length:=by
  have:=Ta.nd.length_le_of_subset (l₂:=q0.map (·.1)) λy hy=>by obtain⟨z,hz,rfl⟩:=Ag.mp hy;exact w8 z (.inr hz)
  rwa [lM,lM] at this
 have l2:q0.length<=700:=A2 (lX T3 (us:=us) (λx B=>ra x (r2 x B)) w0) w3;refine Aa (Ab (Aa (AI ?_)));unfold HR;rw[if_neg (by simpa using sz O _ oc)];refine Aa (gE ⟨_,g1 O _ oc,rfl⟩ ?_);rw[if_pos rfl];refine Aa (Ab ?_);refine Aa (szT (S:=O) (s:={ s with heap:=h1 }) Tc (g1 O _ oc) ?_);refine Aa (szT (S:=s.heap.objs.size) (s:={ s with heap:=h1 }) T3 o1 ?_);rw[if_neg (by omega)];dsimp only;refine Aa (jA (s:={ s with heap:=h1 }) Tc (g1 O _ oc) ?_);refine Aa (AI (Aa (wW (s:={ s with heap:=h1 }) Tc (g1 O _ oc) ?_)));obtain⟨zs,q4,w5⟩:∃zs:List (K×Addr),zs.Perm ys/\(eY w O ep' (sen knd ys)).toList=zs.map λx=>(knd.hash x.1,Ay x.2):=by obtain⟨zs,a,b⟩:=cH (eD w O ep' (sen knd ys)) (xs:=ys) (f:=λx=>(knd.hash x.1,Ay x.2)) rfl;exact⟨zs,a,b⟩
 refine Aa (pZ _ zs w5 _ (λrest s'=>∃M g L q9 U,s'={ s with heap:=M }/\(∀b o,s.heap.get? b=some o->M.get? b=some o)/\TD knd g m1 L q9/\M.get? s.heap.objs.size=some (dR knd g U m1 L q9 z2)/\(∀x∈g,x∈q0)/\(∀x∈g,∀y∈ys,y∉rest->y.1≠x.1)/\(∀x∈q0,x.1∉ys.map (·.1)->x∈g)/\∀z∈rest,z∈ys) ?_ ?_ ⟨h1,q0,z3,[],w9,rfl,g1,T3.toD,o1,λx B=>B,λx _ y hy q=>absurd (q4.mem_iff.mpr hy) q,λx B _=>B,λz hz=>q4.mem_iff.mp hz⟩);rintro z rest s' ⟨M,g,L,q9,U,rfl,c1,c2,c3,c4,c5,c6,c7⟩;have zy:=c7 z Ai;have kz:∀x,x∈q0\/x∈ys->knd.is M x.1 x.2:=λx G=>knd.keepT (G.elim (λq=>w4 x (ra x (r2 x q))) (λq=>w7 x (rc x q))) c1;refine Aa (AI (aFt (k:=z.1) (a:=z.2) (s:={ s with heap:=M }) (hu _ (by show A.units+1<=A.units+20;omega)) c2 c3 (λx G=>kz x (.inl (c4 x G))) (kz z (.inr zy)) λh3 b q5 q8 w1 q6 d1 d2 d3 W=>?_));have g3:∀b o,s.heap.get? b=some o->h3.get? b=some o:=λb o e=>(d1.2 b (sz b o e)).trans (c1 b o e);refine Aa (nW (s:={ s with heap:=h3 }) Tc (g3 O _ oc) (Ab ?_));refine⟨h3,q5,q8,w1,q6,rfl,g3,d2,d3,λx B=>c4 x ((W x).mp B).1,λx B y hy q e=>?_,λx B q=>(W x).mpr ⟨c6 x B q,λe=>q (Ag.mpr ⟨z,zy,e.symm⟩)⟩,λq hq=>c7 q (Af _ hq)⟩;by_cases ez:y=z;exact((W x).mp B).2 (ez▸e.symm);exact c5 x ((W x).mp B).1 y hy (λq3=>(Al.mp q3).elim ez q) e;rintro s' ⟨M,g,L,q9,U,rfl,c1,c2,c3,c4,c5,c6,c7⟩;refine Ab (aFu (s:={ s with heap:=M }) c2 c3 (A2 (aCT c2 (us:=us) (λx B=>ra x (r2 x (c4 x B))) w0) w3) λh3 q5 m3 q8 w1 w6 q6 d1 d2 d3 W=>Ab (Ab ⟨_,rfl,(λz=>nomatch z),h h3 q5 ⟨q5,m3,q8,w1,w6,q6,d2,d3,λx B=>B,λy hy=>Ag.mpr ⟨y,hy,rfl⟩⟩ (λz hz=>.inl (ra z (r2 z (c4 z (W.mem_iff.mp hz))))) (λk=>?_) λb o e=>(d1.2 b (sz b o e)).trans (c1 b o e)⟩));rw[kx,ky,(W.map _).mem_iff];constructor;intro q;obtain⟨y,hy,rfl⟩:=Ag.mp q;exact⟨Ag.mpr ⟨y,r2 y (c4 y hy),rfl⟩,λz=>by
  obtain⟨y',I,e⟩:=Ag.mp z;exact c5 y hy y' I (λz=>by cases z) e⟩
 rintro ⟨q1,q2⟩;obtain⟨y,hy,rfl⟩:=Ag.mp q1;obtain⟨y',I,e⟩:=Ag.mp (w8 y (.inr hy));rw[<-e] at q2 ⊢;exact Ag.mpr ⟨y',c6 y' I q2,rfl⟩;rw[if_neg c];refine Aa (wX T1 (Aa (aCR (Aa (Ab ?_)))));have g0:∀b o,s.heap.get? b=some o->(s.heap.push { cls:=.type "set",dict:=none,data:=.set #[] 0 (.fresh 0 0 (!byTt w)) }).get? b=some o:=λb o e=>Ae _ e;refine Aa (jA (s:={ s with heap:=_ }) Ta (g0 S _ oa) ?_);refine Aa (AI ?_);rw[if_pos rfl];refine Aa (wW (s:={ s with heap:=_ }) Ta (g0 S _ oa) ?_);obtain⟨zs,q4,w5⟩:∃zs:List (K×Addr),zs.Perm xs/\(eY w S ep (sen knd xs)).toList=zs.map λx=>(knd.hash x.1,Ay x.2):=by obtain⟨zs,a,b⟩:=cH (eD w S ep (sen knd xs)) (xs:=xs) (f:=λx=>(knd.hash x.1,Ay x.2)) rfl;exact⟨zs,a,b⟩
 refine Aa (pZ _ zs w5 _ (λrest s'=>∃M g m2 L q7 U,s'={ s with heap:=M }/\(∀b o,s.heap.get? b=some o->M.get? b=some o)/\Tb knd g m2 L/\M.get? s.heap.objs.size=some (setT knd g U m2 L q7)/\(∀x∈g,x∈xs/\x.1∉ys.map (·.1))/\(∀y,y∈xs->y∉rest->y.1∉ys.map (·.1)->y.1∈g.map (·.1))/\g.length+rest.length<=700/\∀z∈rest,z∈xs) ?_ ?_ ⟨_,[],7,[],0,0,rfl,g0,kC,iB,λx B=>(by cases B),λy hy q=>absurd (q4.mem_iff.mpr hy) q,by rw[lN,q4.length_eq];omega,λz hz=>q4.mem_iff.mp hz⟩);rintro z rest s' ⟨M,g,m2,L,q7,U,rfl,c1,c2,c3,c4,c5,c6,c7⟩;have zx:=c7 z Ai;have kz:∀x,x∈ys\/x∈xs->knd.is M x.1 x.2:=λx G=>knd.keepT (G.elim (λq=>w7 x (rc x q)) (λq=>w4 x (ra x q))) c1;rw[lC] at c6;rw[if_pos rfl];refine Aa (AI (Aa (vC (k:=z.1) (a:=z.2) (s:={ s with heap:=M }) (hu _ (by show A.units+1<=A.units+20;omega)) Tc.toD (c1 O _ oc) (λx G=>kz x (.inl G)) (kz z (.inr zx)) λr hr _=>Aa (Ab ?_))));by_cases hm:z.1∈ys.map (·.1);rw[hr,Aw hm,if_neg (by decide)];refine Ab (Aa (nW (s:={ s with heap:=M }) Ta (c1 S _ oa) ?_));refine Ab ⟨M,g,m2,L,q7,U,rfl,c1,c2,c3,c4,λy I q1 q2=>?_,by omega,λq hq=>c7 q (Af _ hq)⟩;by_cases e:y=z;rw[e] at q2;exact absurd hm q2;exact c5 y I (λq3=>(Al.mp q3).elim e q1) q2;rw[hr,Ar hm,if_pos (by decide)];refine Aa (wV (k:=z.1) (a:=z.2) (s:={ s with heap:=M }) (hu _ (by show A.units+1<=A.units+20;omega)) c2 c3 (λx G=>kz x (.inr (c4 x G).1)) (kz z (.inr zx)) (λ_=>by omega) λh3 b q5 m3 q8 w6 q6 d1 d2 d3 W=>Ab ?_);have g3:∀b o,s.heap.get? b=some o->h3.get? b=some o:=λb o e=>(d1.2 b (sz b o e)).trans (c1 b o e);refine Aa (nW (s:={ s with heap:=h3 }) Ta (g3 S _ oa) ?_);refine Ab ⟨h3,q5,m3,q8,w6,q6,rfl,g3,d2,d3,λx G=>?_,λy I q1 q2=>?_,?_,λq hq=>c7 q (Af _ hq)⟩;split at W;rw[W] at G;exact c4 x G;rcases Al.mp (W.mem_iff.mp G) with rfl|q;exact⟨zx,hm⟩;exact c4 x q;have key:y.1∈g.map (·.1)\/y=z:=by by_cases e:y=z;exact .inr e;exact .inl (c5 y I (λq3=>(Al.mp q3).elim e q1) q2)
 split at W;rename_i z1;rw[W];rcases key with q|q;exact q;rw[q];exact z1;refine(W.map _).mem_iff.mpr ?_;rcases key with q|q;exact Af _ q;rw[q];exact Ai;split at W;rw[W];omega;have:=W.length_eq;rw[lC] at this;omega;rintro s' ⟨M,g,m2,L,q7,U,rfl,c1,c2,c3,c4,c5,c6,c7⟩;refine Ab (Ab (Ab ⟨_,rfl,(λz=>nomatch z),h M g ⟨g,m2,L,[],q7,U,c2.toD,c3,λx B=>B,λy hy=>Ag.mpr ⟨y,hy,rfl⟩⟩ (λz hz=>.inl (ra z (c4 z hz).1)) (λk=>?_) c1⟩));rw[kx,ky];constructor;intro q;obtain⟨y,I,rfl⟩:=Ag.mp q;exact⟨Ag.mpr ⟨y,(c4 y I).1,rfl⟩,(c4 y I).2⟩;rintro ⟨q1,q2⟩;obtain⟨y,I,rfl⟩:=Ag.mp q1;exact c5 y I (λz=>by cases z) q2
end
end L2
namespace L2
open PySem PySem.Spec PyProof.Rows SetTable PySem.W
open Hp (lexG ltI lexJ lexN)
set_option maxRecDepth 100000
structure LO {α:Type} (lt:α->α->Bool):Prop where
 tr:∀{a b c},lt a b=true->lt b c=true->lt a c=true
 ir:∀a,lt a a=false
 tot:∀{a b},a≠b->lt a b=false->lt b a=true
theorem LO.as{α:Type}{lt:α->α->Bool}(L:LO lt){a b:α}(h:lt a b=true):lt b a=false:=by
 cases q:lt b a with
 | false=>rfl|true=>have:=L.tr h q;rw[L.ir] at this;cases this
theorem qD:LO ltI:=⟨λg q=>by unfold ltI at*;simp only[Ax] at*;omega,λa=>by unfold ltI;simp,λg q=>by unfold ltI at*;simp only[Ax,Bq] at*;omega⟩
theorem wY{α:Type}[DecidableEq α]{lt:α->α->Bool}(L:LO lt):∀{a b c:List α},lexG lt a b=true->lexG lt b c=true->lexG lt a c=true
 | [],[],_,h,_=>by cases h|[],_::_,[],_,h=>by cases h|[],_::_,_::_,_,_=>rfl|_::_,[],_,h,_=>by cases h|_::_,_::_,[],_,h=>by cases h|x::xs,y::ys,z::zs,h1,h2=>by rw[lexG] at h1 h2 ⊢;by_cases q:x=y;subst q;rw[if_pos rfl] at h1;by_cases g:x=z;rw[if_pos g] at h2 ⊢;exact wY L h1 h2;rw[if_neg g] at h2 ⊢;exact h2;rw[if_neg q] at h1;by_cases g:y=z;subst g;rw[if_neg q];exact h1;rw[if_neg g] at h2;have B:=L.tr h1 h2;rw[if_neg (λe=>by subst e;rw[L.as h1] at h2;cases h2)];exact B
theorem wZ{α:Type}[DecidableEq α]{lt:α->α->Bool}:∀a:List α,lexG lt a a=false
 | []=>rfl|x::xs=>by rw[lexG,if_pos rfl];exact wZ xs
theorem sQ{α:Type}[DecidableEq α]{lt:α->α->Bool}(L:LO lt):∀{a b:List α},a≠b->lexG lt a b=false->lexG lt b a=true
 | [],[],h,_=>absurd rfl h|[],_::_,_,h=>by cases h|_::_,[],_,_=>rfl|x::xs,y::ys,h,h2=>by rw[lexG] at h2 ⊢;by_cases g:x=y;subst g;rw[if_pos rfl] at h2 ⊢;exact sQ L (λe=>h (by rw[e])) h2;rw[if_neg g] at h2;rw[if_neg (DR g)];exact L.tot g h2
theorem LO.lex{α:Type}[DecidableEq α]{lt:α->α->Bool}(L:LO lt):LO (lexG lt):=⟨λg q=>wY L g q,wZ,λg q=>sQ L g q⟩
theorem fU:LO lexN:=qD.lex.lex
theorem xA:∀(ns g:List Int),HT.lexLt ns g=lexJ ns g
 | [],[]=>rfl|[],_::_=>rfl|_::_,[]=>rfl|x::xs,y::ys=>by rw[HT.lexLt_cons,lexJ,lexG,xA xs ys];rfl
noncomputable def rk{α:Type}(lt:α->α->Bool)(ks:List α)(k:α):Nat:=ks.countP λy=>lt y k
theorem nX{α:Type}{lt:α->α->Bool}(L:LO lt){x y:α}(h:lt x y=true):∀{ks:List α},x∈ks->rk lt ks x<rk lt ks y
 | z::ks,g=>by unfold rk;rw[IX,IX];have mono:ks.countP (λq=>lt q x)<=ks.countP λq=>lt q y:=List.countP_mono_left λq _ B=>L.tr B h;rcases Al.mp g with rfl|g;rw[if_neg (by rw[L.ir];exact bN),if_pos h];omega;have:=nX L h g;unfold rk at this;by_cases q:lt z x=true;rw[if_pos q,if_pos (L.tr q h)];omega;rw[if_neg q];split <;> omega
theorem aFv{α:Type}[DecidableEq α]{lt:α->α->Bool}(L:LO lt){ks:List α}{x y:α}(g:x∈ks)(B:y∈ks):decide (rk lt ks x<rk lt ks y)=lt x y:=by
 cases h:lt x y with
 | true=>exact Aw (nX L h g)|false=>refine Ar λq=>?_;by_cases e:x=y;subst e;omega;have:=nX L (L.tot e h) B;omega
abbrev rfs{K:Type}(us:List (K×Addr)):List Ad:=us.map λx=>Ay x.2
section
variable {prog:A0} {w:AR} {K:Type} [DecidableEq K] {A:AJ} {E:Ad->Ac->Prop} {s:Ac} {lt:K->K->Bool}
noncomputable def rOf(lt:K->K->Bool)(us:List (K×Addr))(p:A9):Nat:=match p.1 with
 | .ref b=>(match us.find? (λy=>y.2==b) with|some x=>rk lt (us.map (·.1)) x.1|none=>0)
 | _=>0
theorem xB:∀{us:List (K×Addr)},(us.map (·.2)).Nodup->∀{x:K×Addr},x∈us->us.find? (λy=>y.2==x.2)=some x
 | y::us,h,x,g=>by rw[mC,Bu] at h;rw[GH];rcases Al.mp g with rfl|g;rw[show(x.2==x.2)=true from beq_self_eq_true _];rw[show(y.2==x.2)=false from beq_eq_false_iff_ne.mpr λe=>h.1 (Ag.mpr ⟨x,g,e.symm⟩)];exact xB h.2 g
theorem sR(L:LO lt){a:Addr}{us:List (K×Addr)}{n:Nat}{P:LN->Ac->Prop}(κ:D2)(ho:s.heap.get? a=some (Cs "list" (rfs us).toArray n))(na:(us.map (·.2)).Nodup)(nd:(us.map (·.1)).Nodup)(hz:us.length<=1000000)
 (U:∀M:Heap,(∀b o,b≠a->s.heap.get? b=some o->M.get? b=some o)->0<us.length->∀Q:D2->Ac->Prop,Q κ { s with heap:=M }->Am (A4 prog w) A (keyKind' (rfs us).toArray) Q E { s with heap:=M })
 (q4:∀M:Heap,(∀b o,b≠a->s.heap.get? b=some o->M.get? b=some o)->∀x∈us,∀y∈us,∀Q:Bool->Ac->Prop,Q (lt x.1 y.1) { s with heap:=M }->Am (A4 prog w) A (keyLt' κ (.ref x.2) (.ref y.2)) Q (λ_ _=>False) { s with heap:=M })
 (h:∀g:List (K×Addr),g.Perm us->(g.Pairwise λx y=>lt x.1 y.1=true)->P (.done (.ret .none)) { s with heap:=JO s.heap a (rfs us) (rfs g).toArray }) :
 Am (A4 prog w) A (BL.«list.sort» ⟨[.ref a],[]⟩) P E s:=by
 rw[list_sort_plain];have ha:a<s.heap.objs.size:=Ap ho;have q1:(rfs us).length=us.length:=by rw[lM]
 refine Aa (K8 ho rfl ?_);refine Aa (Dh ho rfl ?_ (by rw[Aj,BV];omega) (AS _));obtain⟨e1,q2⟩:∃e1,(s.heap.update a (Cb λ_=>(#[]:Array Ad))).get? a=some (Cs "list" #[] e1):=⟨_,D4 ho λ_=>#[]⟩
 refine Aa (Jg q2 rfl ?_);refine Aa (wpAny_newTuple ?_ (by show(rfs us).length<=_;rw[BV];omega));refine Aa (H0 ?_ (AS _));refine AI ?_;have keep:∀b o,b≠a->s.heap.get? b=some o->(((s.heap.update a (Cb λ_=>(#[]:Array Ad))).push (Cs "tuple" (rfs us).toArray 0)).push (Cs "list" #[] 0)).get? b=some o:=λb o hb e=>Ae _ (Ae _ (by rw[Ci _ _ _ _ hb];exact e));have I:(((s.heap.update a (Cb λ_=>(#[]:Array Ad))).push (Cs "tuple" (rfs us).toArray 0)).push (Cs "list" #[] 0)).get? a=some (Cs "list" #[] e1):=Ae _ (Ae _ q2);show Am (A4 prog w) A _ P E { s with heap:=((s.heap.update a (Cb λ_=>(#[]:Array Ad))).push (Cs "tuple" (rfs us).toArray 0)).push (Cs "list" #[] 0) };dsimp only;have W:∀g:List (K×Addr),g.Perm us->(g.Pairwise λx y=>lt x.1 y.1=true)->∀out:Array Ad,out=(rfs g).toArray->P (.done (.ret .none)) { s with heap:=JO s.heap a (rfs us) out }:=λg a b out e=>e▸h g a b;by_cases G:(rfs us).toArray.size<2;rw[if_pos G,if_pos G];refine Aa (Ab ?_);rw[StateT.run_pure];refine Aa (Ab ?_);dsimp only;refine Aa (Jg I rfl ?_);refine Aa (Dh I rfl ?_ (AS _) (by rw[Array.size_map];show(pairsOf (rfs us)).size<=_;rw[pairsOf_size,BV];omega));simp only[bne_self_eq_false,bF,if_false];refine Ab (W us (B5 _) ?_ _ ?_)
 . rw[Aj,q1] at G
   match us,G with
   | [],_=>exact .nil|[x],_=>exact C1 _ _|_::_::_,G=>simp at G;omega
 apply Dp.mp;show((pairsOf (rfs us)).map (·.2)).toList=_;rw[EH,pairsOf_toList];exact List.map_snd_zip (Ak _);rw[if_neg G,if_neg G];have q7:2<=us.length:=by rw[Aj,q1] at G;omega
 refine Aa (U _ keep (by omega) _ ?_);have e0:((rfs us).toArray.zip (rfs us).toArray).toList=us.map λx=>(Ay x.2,Ay x.2):=by rw[Array.toList_zip,Ec];unfold rfs;rw[List.zip_map']
 have q3:∀x∈us,us.find? (λy=>y.2==x.2)=some x:=λx B=>xB na B;have rv:∀x∈us,rOf lt us (Ay x.2,Ay x.2)=rk lt (us.map (·.1)) x.1:=λx B=>by unfold rOf;dsimp only;rw[q3 x B]
 have C:Ts.Cmp (A4 prog w) A E { s with heap:=((s.heap.update a (Cb λ_=>(#[]:Array Ad))).push (Cs "tuple" (rfs us).toArray 0)).push (Cs "list" #[] 0) } κ (λp=>∃x∈us,p=(Ay x.2,Ay x.2)) (rOf lt us):=by rintro _ _ ⟨x,B,rfl⟩ ⟨y,hy,rfl⟩ st Q hk q;rw[rv x B,rv y hy,aFv L (ks:=us.map (·.1)) (x:=x.1) (y:=y.1) (Ag.mpr ⟨x,B,rfl⟩) (Ag.mpr ⟨y,hy,rfl⟩)] at q;rw[lt'_eq];refine Ao (Fm ?_);rw[hk];refine Ao (Gj (FZ (BO (q4 _ keep x B y hy (λb s'=>s'=_/\b=lt x.1 y.1) ⟨rfl,rfl⟩) (λb s' z=>⟨z.1,z.2▸Az q⟩) λ_ _ z=>z.elim)))
 have hsz:((rfs us).toArray.zip (rfs us).toArray).size=us.length:=by rw[<-AK,e0,lM]
 refine Aa (BO (Ts.wpS_sortRuns (r:=rOf lt us) C (st:=JH κ ((rfs us).toArray.zip (rfs us).toArray) #[] 7 none) (Q:=λ_ st'=>DK st'=none/\∃g:List (K×Addr),g.Perm us/\(g.Pairwise λx y=>lt x.1 y.1=true)/\(arrOf st').map (·.2)=(rfs g).toArray) rfl rfl rfl (λi p hp=>?_) ?_ λst' pm hf sg=>⟨hf,?_⟩) ?_ λ_ _ e=>e);have:p∈((rfs us).toArray.zip (rfs us).toArray).toList:=DM.mpr (D6 hp);rw[e0] at this;obtain⟨x,B,rfl⟩:=Ag.mp this;exact⟨x,B,rfl⟩;show(((rfs us).toArray.zip (rfs us).toArray).toList.map (rOf lt us)).Nodup;rw[e0,AM];have:us.map (rOf lt us∘λx=>(Ay x.2,Ay x.2))=(us.map (·.1)).map (rk lt (us.map (·.1))):=by rw[AM];exact Dl λx B=>rv x B
 rw[this];exact(C2.mpr (Kj (λ{x y} B hy q5 e=>q5 (by
  by_cases q:x=y;exact q;cases c:lt x y with
  | true=>have:=nX L c B;omega|false=>have:=nX L (L.tot q c) hy;omega)) nd))
 obtain⟨g,u1,u2⟩:=cH (pm.trans (Jo (show(arrOf (JH κ ((rfs us).toArray.zip (rfs us).toArray) #[] 7 none)).toList=_ from rfl))) (xs:=us) (f:=λx=>(Ay x.2,Ay x.2)) e0;refine⟨g,u1,?_,?_⟩;have q6:(arrOf st').size=g.length:=by rw[<-AK,u2,lM]
 refine Br.mpr λi j hi hj q0=>?_;have at':∀i (hi:i<g.length),(arrOf st')[i]? = some (Ay g[i].2,Ay g[i].2):=λi hi=>by rw[<-AT,u2,A5,Ah hi];rfl
 have q:=sg i j (AS _) (Ca q0) (by show j<((rfs us).toArray.zip (rfs us).toArray).size;rw[hsz,<-u1.length_eq];exact hj);have mi:=u1.mem_iff.mp (BD hi);have mj:=u1.mem_iff.mp (BD hj);rw[Ts.kr_at (at' i hi),Ts.kr_at (at' j hj),rv _ mi,rv _ mj] at q;have ne:g[i].1≠g[j].1:=by have:=Br.mp ((u1.map (·.1)).nodup_iff.mpr nd) i j (by simpa using hi) (by simpa using hj) q0;simpa using this
 cases c:lt g[i].1 g[j].1 with
 | true=>rfl|false=>have:=nX L (L.tot ne c) (ks:=us.map (·.1)) (Ag.mpr ⟨_,mj,rfl⟩);omega
 apply Dp.mp;rw[EH,u2,AM];rfl;rintro ⟨⟨⟩,st'⟩ s' ⟨rfl,hf,g,g1,g2,g3⟩;dsimp only;refine Aa (Jg I rfl ?_);refine Aa (Dh I rfl ?_ (AS _) (by rw[g3,Aj,lM,g1.length_eq,BV];omega));rw[hf];simp only[bne_self_eq_false,bF,if_false];exact Ab (W g g1 g2 _ g3)
end
set_option maxRecDepth 100000
section
variable {prog:A0} {w:AR} {A:AJ} {E:Ad->Ac->Prop} {s:Ac}
abbrev IsT(prog:A0)(w:AR)(h:Heap)(k:List Int)(a:Addr):Prop:=G0 (BJ prog w) h k a
abbrev IsN(prog:A0)(w:AR)(h:Heap)(k:List (List Int))(a:Addr):Prop:=bT (B9 (BJ prog w)) h k a
theorem aAY(n:Nat){v:Ad}(h:DH v=true):Cg n v=pure false:=by
 cases v with
 | ref a=>simp[DH] at h|_=>first|rfl|simp[Cg]|(unfold Cg;rfl)
theorem aAZ{n:Nat}{k:List Int}{a:Addr}{Q:Bool->Ac->Prop}(I:IsT prog w s.heap k a)(h:Q false s):Am (A4 prog w) A (Cg (n+1) (.ref a)) Q E s:=by have L:=I.typeIs;obtain⟨o,items,n,M,_,hd,hi⟩:=I;unfold Cg;refine Aa (CU L ?_);dsimp only;rw[if_pos (by decide +kernel)];refine Aa (Ab ?_);rw[if_neg (by decide)];refine Aa (DG M hd ?_);dsimp only;rw[<-BQ];refine Aa (Bv _ (λrest r G=>r.1=none/\G=s/\∀v∈rest,DH v=true) _ ?_ ?_ _ _ ⟨rfl,rfl,hi.byValue⟩);rintro v rest r G ⟨q,rfl,g⟩;rw[aAY _ (g v Ai)];refine Aa (Ab ?_);rw[if_neg (by decide)];exact Ab ⟨rfl,rfl,λu B=>g u (Af _ B)⟩;rintro ⟨U,W⟩ G ⟨q,rfl,_⟩;simp only at q;subst q;exact Ab h
theorem aBa{k:List (List Int)}{a:Addr}{Q:Bool->Ac->Prop}(G:IsN prog w s.heap k a)(h:Q false s):Am (A4 prog w) A (Cg 8 (.ref a)) Q E s:=by
 have L:=G.typeIs;obtain⟨o,items,n,U,_,hd,hi⟩:=G;unfold Cg;refine Aa (CU L ?_);dsimp only;rw[if_pos (by decide +kernel)];refine Aa (Ab ?_);rw[if_neg (by decide)];refine Aa (DG U hd ?_);dsimp only;rw[<-BQ];refine Aa (Bv _ (λrest r B=>r.1=none/\B=s/\∃ks',aO (B9 (BJ prog w)) s.heap ks' rest) _ ?_ ?_ _ _ ⟨rfl,rfl,k,hi⟩);rintro v rest r B ⟨q,rfl,ks',M⟩;cases M with
 | cons I g=>refine Aa (aAZ (n:=6) I ?_);rw[if_neg (by decide)];exact Ab ⟨rfl,rfl,_,g⟩
 rintro ⟨W,r2⟩ B ⟨q,rfl,_⟩;simp only at q;subst q;exact Ab h
theorem aDS{k:Int}{v:Ad}(h:(BJ prog w).is k v=true):∃t,v=.int k t:=by change EN k v=true at h;cases v <;> simp[EN] at h;exact⟨_,by rw[h]⟩
theorem aFw{n:Nat}{k:List Int}{a:Addr}{Q:Bool->Ac->Prop}(G:IsT prog w s.heap k a)(h:Q true s):Am (A4 prog w) A (Em (n+1) (.ref a)) Q E s:=by
 have M:=G.typeIs;obtain⟨o,items,W,U,_,hd,hi⟩:=G;unfold Em;refine Aa (C4 M Gm.lookup ?_);dsimp only;refine Aa (DG U hd ?_);dsimp only[IY];rw[<-BQ];refine Aa (Bv _ (λrest r B=>r.1=none/\B=s/\∃ks,ItemsAre (BJ prog w) ks rest) _ ?_ ?_ _ _ ⟨rfl,rfl,_,hi⟩);rintro v rest r B ⟨q,rfl,ks,g⟩;cases g with
 | cons I L=>obtain⟨tk,rfl⟩:=aDS I;rw[show Em n (.int _ tk)=pure true by unfold Em;cases n <;> rfl];refine Aa (Ab ?_);rw[if_neg (by decide)];exact Ab ⟨rfl,rfl,_,L⟩
 rintro ⟨r1,r2⟩ B ⟨q,rfl,_⟩;simp only at q;subst q;exact Ab h
theorem aFx{k:List (List Int)}{a:Addr}{Q:Bool->Ac->Prop}(G:IsN prog w s.heap k a)(h:Q true s):Am (A4 prog w) A (Em 8 (.ref a)) Q E s:=by
 have L:=G.typeIs;obtain⟨o,items,W,U,_,hd,hi⟩:=G;unfold Em;refine Aa (C4 L Gm.lookup ?_);dsimp only;refine Aa (DG U hd ?_);dsimp only[IY];rw[<-BQ];refine Aa (Bv _ (λrest r B=>r.1=none/\B=s/\∃ks',aO (B9 (BJ prog w)) s.heap ks' rest) _ ?_ ?_ _ _ ⟨rfl,rfl,k,hi⟩);rintro v rest r B ⟨q,rfl,ks',M⟩;cases M with
 | cons I g=>refine Aa (aFw (n:=6) I ?_);rw[if_neg (by decide)];exact Ab ⟨rfl,rfl,_,g⟩
 rintro ⟨r1,r2⟩ B ⟨q,rfl,_⟩;simp only at q;subst q;exact Ab h
theorem IsT.keep{h h':Heap}{k:List Int}{a:Addr}(q:IsT prog w h k a)(e:∀b o,h.get? b=some o->h'.get? b=some o):IsT prog w h' k a:=by obtain⟨o,g,n,B,r⟩:=q;exact⟨o,g,n,e _ _ B,r⟩
theorem nY{h h':Heap}(e:∀b o,h.get? b=some o->h'.get? b=some o):∀{ks:List (List Int)} {vs:List Ad},aO (B9 (BJ prog w)) h ks vs->aO (B9 (BJ prog w)) h' ks vs
 | _,_,.nil=>.nil|_,_,.cons q r=>.cons (IsT.keep q e) (nY e r)
noncomputable def bZ(prog:A0)(w:AR):SK prog w (List (List Int)):={ gP (BJ prog w) with
 noCl:=λha h=>aBa ha h
 byV:=λha h=>aFx ha h
 keepT:=λ{h h' k a} q e=>by
  obtain⟨o,its,n,ho,hc,hd,hi⟩:=q;exact⟨o,its,n,e _ _ ho,hc,hd,nY e hi⟩ }
theorem qF:∀{ks:List Int} {vs:List Ad},ItemsAre (BJ prog w) ks vs->Cw vs ks
 | _,_,.nil=>.nil|_,_,.cons h1 h2=>by obtain⟨t,rfl⟩:=aDS h1;exact .cons _ _ (qF h2)
theorem aCU(L:A.units+10<Co){Q:Bool->Ac->Prop}{ks:List (List Int)}{vs:List Ad}(hv:aO (B9 (BJ prog w)) s.heap ks vs):∀{I:List (List Int)} {us:List Ad} (L:aO (B9 (BJ prog w)) s.heap I us) (i:Nat) (g:Bool),g=decide (vs.length<us.length)->Q (lexN ks I) s->KatLex prog w A false g Q (vs.zip us) i s:=by
 induction hv with
 | nil=>
  intro I us L i g G q;cases L with
  | nil=>rw[G];exact q|cons _ _=>rw[G];exact q
 | @cons k a ks vs h1 _ ih=>
  intro I us B i g G q;cases B with
  | nil=>rw[G];exact q|@cons j b I us h2 B=>rw[AY];refine kat_cons ((B9 (BJ prog w)).eqBool (show A.units<Co by omega) h1 h2 ?_);unfold lexN lexG at q;by_cases c:k=j;rw[if_pos c] at q;rw[Aw c];exact kat_yes (ih B (i+1) g (by rw[G,lC,lC];simp) q);rw[if_neg c] at q;rw[Ar c];refine kat_no ?_;obtain⟨o1,i1,n1,M,U,W,g4⟩:=h1;obtain⟨o2,i2,n2,f1,f2,f3,f4⟩:=h2;refine kat_one _ _ (HT.lt_tupInts ⟨o1,M,U,n1,W⟩ ⟨o2,f1,f2,n2,f3⟩ (qF g4) (qF f4) (by omega) ?_);rw[xA];exact q
theorem aJL(I:A.units+10<Co){x y:List (List Int)×Addr}{Q:Bool->Ac->Prop}(L:IsN prog w s.heap x.1 x.2)(M:IsN prog w s.heap y.1 y.2)(h:Q (lexN x.1 y.1) s):Am (A4 prog w) A (keyLt' (LA false) (.ref x.2) (.ref y.2)) Q E s:=by obtain⟨o,U,n,G,_,hd,hi⟩:=L;obtain⟨o',its',W,B,_,g,q⟩:=M;exact kat_lt G hd B g (aCU I hi q 0 _ (by rw[AK,AK]) h)
theorem aBb:∀{us:List (List (List Int)×Addr)},(∀x∈us,IsN prog w s.heap x.1 x.2)->(∀x∈us,x.1≠[])->∃fs:List Ad,KatTups s.heap (us.map λx=>Ay x.2) fs/\fs.length=us.length/\∀v∈fs,∃k a,v=Ay a/\IsT prog w s.heap k a
 | [],_,_=>⟨[],KatTups.nil,rfl,λv hv=>by simp at hv⟩
 | x::us,h,hne=>by
  obtain⟨fs,L,M,U⟩:=aBb (us:=us) (λy B=>h y (Af _ B)) (λy B=>hne y (Af _ B));obtain⟨o,G,n,ho,W,hd,hi⟩:=h x Ai;cases I:x.1 with
  | nil=>exact absurd I (hne x Ai)|cons k ks=>
   rw[I] at hi;cases q:G.toList with
   | nil=>rw[q] at hi;cases hi|cons v vs=>
    rw[q] at hi;cases hi with
    | @cons _ a _ _ g1 g2=>refine⟨.ref a::fs,KatTups.cons ho W hd (by rw[<-AT,q];rfl) L,by rw[lC,lC,M],λu g=>?_⟩;rcases Al.mp g with rfl|g;exact⟨k,a,rfl,g1⟩;exact U u g
theorem aFy{us:List (List (List Int)×Addr)}(h:∀x∈us,IsN prog w s.heap x.1 x.2)(g:∀x∈us,x.1≠[])(hl:0<us.length){Q:D2->Ac->Prop}(L:Q (LA false) s):Am (A4 prog w) A (keyKind' (us.map λx=>Ay x.2).toArray) Q E s:=by obtain⟨fs,q,W,B⟩:=aBb h g;refine kat_kind (T:=.type "tuple") q (by omega) (λv M=>?_) (by decide) L;obtain⟨k,a,rfl,o,U,n,I,G,_⟩:=B v M;have:Looks (A4 prog w) s.heap (typeOf (.ref a)) o.cls:=(Looks.ld I).andThen .now;rwa [G] at this
abbrev KN:=List (List Int)×Addr
theorem xC:∀{us:List KN},(∀x∈us,IsN prog w s.heap x.1 x.2)->(us.map (·.1)).Nodup->(us.map (·.2)).Nodup
 | [],_,_=>Fx|x::us,h,nd=>by rw[mC,Bu] at nd ⊢;refine⟨λq=>?_,xC (λy g=>h y (Af _ g)) nd.2⟩;obtain⟨y,g,e⟩:=Ag.mp q;have B:=h y (Af _ g);rw[e] at B;exact nd.1 (Ag.mpr ⟨y,g,B.inj (h x Ai)⟩)
theorem jI(hu:A.units+10<Co){a:Addr}{us:List KN}{n:Nat}{P:LN->Ac->Prop}(ho:s.heap.get? a=some (Cs "list" (rfs us).toArray n))(hK:∀x∈us,IsN prog w s.heap x.1 x.2)(W:∀x∈us,x.1≠[])(nd:(us.map (·.1)).Nodup)(hz:us.length<=1000000)
 (h:∀B:List KN,B.Perm us->(B.Pairwise λx y=>lexN x.1 y.1=true)->P (.done (.ret .none)) { s with heap:=JO s.heap a (rfs us) (rfs B).toArray }) :
 Am (A4 prog w) A (BL.«list.sort» ⟨[.ref a],[]⟩) P E s:=by
 have kp:∀g:Heap,(∀b o,b≠a->s.heap.get? b=some o->g.get? b=some o)->∀x∈us,IsN prog w g x.1 x.2:=λg e x I=>by
  obtain⟨o,G,n',L,M,g3,U⟩:=hK x I;have tup:∀b o',s.heap.get? b=some o'->o'.cls=.type "tuple" -> b≠a:=λb o' q q' z=>by subst z;rw[ho] at q;cases q;exact absurd (show Fq "list" = Fq "tuple" from q') (by decide)
  refine⟨o,G,n',e _ _ (tup _ _ L M) L,M,g3,?_⟩;clear L M g3 I;generalize G.toList=vs at U;generalize x.1=ks at U
  induction U with
  | nil=>exact .nil|cons q _ ih=>obtain⟨o',its',q0,f1,f2,f3⟩:=q;exact .cons ⟨o',its',q0,e _ _ (tup _ _ f1 f2) f1,f2,f3⟩ ih
 exact sR fU (LA false) ho (xC hK nd) nd hz (λg e hl Q q=>aFy (s:={ s with heap:=g }) (kp g e) W hl q) (λg e x I y hy Q q=>aJL (s:={ s with heap:=g }) hu (kp g e x I) (kp g e y hy) q) h
theorem sU{S:Addr}{us:List KN}{Q:Ad->Ac->Prop}(hh:A.handled=none)(hu:A.units+20<Co)(hS:aAV (bZ prog w) s.heap S us)(hK:∀x∈us,IsN prog w s.heap x.1 x.2)(q1:∀x∈us,x.1≠[])
 (h:∀(h':Heap) (tk:Nat) (L:Addr) (xs:List KN) (n:Nat),s.heap.objs.size<=L->(∀b o,s.heap.get? b=some o->h'.get? b=some o)->h'.get? L=some (Cs "list" (rfs xs).toArray n)->(∀x∈xs,x∈us)->(∀y∈us,y.1∈xs.map (·.1))->(xs.Pairwise λx y=>lexN x.1 y.1=true)->Q (.ref L) { s with heap:=h',toks:=tk }) :
 Am (A4 prog w) A (call (.builtin "sorted") [.ref S]) Q E s:=by
 obtain⟨xs,m,ps,ds,mv,ep,T,ho,r1,r2⟩:=hS;refine FD Lf K9 KA (KB _) ?_;unfold BL.«sorted»;refine Aa (m:=checkCount "sorted" 1 1 _) (Ab ?_);refine Aa (aAX hh T ho λs' acc hk q2 M=>?_);obtain⟨q0,tk,I,rfl⟩:=q2;obtain⟨ys,U,y2⟩:=cH (f:=λx:KN=>((bZ prog w).hash x.1,Ay x.2)) (eD w S ep (sen (bZ prog w) xs)) (xs:=xs) (by unfold sen;rw[Ec]);have g:acc=rfs ys:=by rw[M,y2,AM];rfl
 subst g;have hl:ys.length<=5000:=by rw[U.length_eq,<-T.len];have:=T.lt;have:=T.m2.le;omega
 refine Aa (H0 ?_ (by rw[lM,BV];omega));have B:(I.push (Cs "list" (rfs ys).toArray 0)).get? I.objs.size=some (Cs "list" (rfs ys).toArray 0):=A7 _ rfl;have W:∀x∈ys,x∈us:=λx G=>r1 x (U.mem_iff.mp G);refine Aa (AI (AZ (s:={ s with heap:=I.push (Cs "list" (rfs ys).toArray 0),toks:=tk }) JP ⟨_,B,rfl⟩ Ju (jI (by show A.units+1+1+10<Co;omega) B (λx G=>(bZ prog w).keepT (hK x (W x G)) λb o e=>Ae _ (hk b o e)) (λx G=>q1 x (W x G)) ((U.map _).nodup_iff.mpr T.nd) (by omega) λzs z1 z2=>⟨_,rfl,?_⟩) (JQ _)));obtain⟨n,hL⟩:=Kk (out:=(rfs zs).toArray) B;refine Ab ⟨_,rfl,h _ _ I.objs.size zs n (Ca q0) (λb o q=>?_) hL (λx G=>W x (z1.mem_iff.mp G)) (λy hy=>(z1.map _).mem_iff.mpr ((U.map _).mem_iff.mpr (r2 y hy))) z2⟩;have hb:b<I.objs.size:=Ap (hk b o q);rw[JR (A8 hb) (by rw[HQ];exact B2 hb)];exact Ae _ (hk b o q)
end
set_option maxRecDepth 100000
set_option maxHeartbeats 4000000
section
variable {prog:A0} {w:AR} {A:AJ} {E:Ad->Ac->Prop} {s:Ac} {it d:Addr} {i ep:Nat} {o:Obj} {es:Array Cz}
theorem aHI{Q:Ad->Ac->Prop}(hd:(d==Dd)=false)(B:s.heap.get? d=some o)(I:o.ExactDict)(g:o.data=.dict es ep)
 (G:Q (.ref s.heap.objs.size) { s with heap:=s.heap.push { cls:=.type "dict_keyiterator",data:=.fields #[.ref d,.int 0 0,.int es.size 0,.int ep 0] } }):Am (A4 prog w) A (II (.ref d)) Q E s:=by
 have q:s.TypeIs (.ref d) "dict" := ⟨o,B,I.1⟩
 refine FO q GD (AZ GD q PySem.F.entry_dict_iter ?_ (PySem.F.args_dict_iter_1 _));unfold BL.«dict.__iter__»;refine Aa ?_;unfold JX;refine Aa (EA q ?_);show Am _ _ (pure (Ay d)) _ _ s;refine Ab ?_;show Am _ _ (E9 d >>= _) _ _ s;unfold E9;rw[if_neg (by rw[hd];exact bN)];refine Aa (Ab (Aa (CW B g (Aa (EX B g ?_)))));exact Aa (Bj (Ab ⟨_,rfl, "dict_keyiterator",_,⟨_,A7 _ rfl,rfl⟩,CI.lookup,G⟩))
theorem aDT{Q:Option Ad->Ac->Prop}(hh:A.handled=none)(g:s.heap.IsKeyIter it d i es.size ep)(L:s.heap.get? d=some o)(B:o.data=.dict es ep)
 (U:∀e h',es[i]? = some e->h'.IsKeyIter it d (i+1) es.size ep->BA it s.heap h'->Q (some e.key) { s with heap:=h' })
 (W:∀h',es.size<=i->Lc it s.heap h'->Q none { s with heap:=h' }):Am (A4 prog w) A (FT (.ref it)) Q E s:=by
 obtain⟨oi,M,hc,hd⟩:=id g;unfold FT;refine Aa (FZ (Cy (name:=Fk "__next__") g.typeIs CI (AZ CI g.typeIs PySem.F.entry_dict_keyiterator_next ?_ (PySem.F.args_dict_keyiterator_next_1 _))));refine Aa (Ab (Aa (Aa ?_)));refine Aa (Ds g.typeIs (Ab ?_));refine Aa (Hd M hd ?_);simp only[show Jv "dict_keyiterator" = false by decide,bF,if_false];show Am _ _ (if (Ay d==Cj)=true then _ else _) _ _ s;rw[if_neg (show ¬ ((Ay d==Cj)=true) from bN)];refine Aa (Ab (Aa (CW L B ?_)));rw[if_neg (by simp)];refine Aa (Ab (Aa (EX L B ?_)));rw[if_neg (by simp)];refine Ab ?_;rcases BN i es.size with I|G;simp only[show ¬ ((i:Int)<0) from by omega,if_false,Ch,AN I];refine Aa (Aa (Ds g.typeIs (Ab ?_)));refine Aa (GR g.typeIs ?_);show Am _ _ (setField (.ref it) 1 (CL ((i:Int)+1)) >>= _) _ _ s;refine Aa (JS M hd (by simp) ?_);have q:(s.heap.update it (Kl (·.setIfInBounds 1 (CL ((i:Int)+1))))).IsKeyIter it d (i+1) es.size ep:=
  ⟨_,GN _ M (Obj.isFreed_of_fields (HS hd _)),(Obj.cls_mapFields ..).trans hc,by rw[HS hd];simp[CL]⟩
 refine Aa (AI ?_);refine Aa (GR (s:={ s with heap:=s.heap.update it (Kl (·.setIfInBounds 1 (CL ((i:Int)+1)))) }) q.typeIs ?_);show Am _ _ (pure es[i].key) _ _ _;exact Ab (Ab ⟨_,rfl,Ab (U es[i] _ (AN I) q (BI ..))⟩);simp only[show ¬ ((i:Int)<0) from by omega,if_false,Ch,GB G];refine Aa (Aa (Ds g.typeIs (Ab ?_)));show Am _ _ (setField (.ref it) 0 .none >>= _) _ _ s;refine Aa (JS M hd (by simp) ?_);show Am _ _ (L1 (.type "StopIteration") [] >>= _) _ _ _;refine Aa ?_;simp only[L1,newTuple];refine Aa (Bj ?_ (by size_fits));refine Aa (m:=F9 _ _) (Dr (a:=Cj) (by first|rfl|(simp only[F9];rfl)) ?_);refine Bj ?_ (by size_fits);simp only[raiseNew];refine Aa (Kh ?_);rw[show A.in1.handled=none from hh];refine Aa (Ab (Ld ?_));refine Aa (Bw (T:= "StopIteration") (b:=true) ⟨_,A7 _ rfl,rfl⟩ JM ?_);exact Ab (W _ G (((BI ..).extBut.push _).push _))
theorem aFz(hh:A.handled=none)(I d:Addr)(W:d≠I)(B:o.data=.dict es ep):Walks prog w A I [I,d] [I] es.size (λi v=>∃e,es[i]? = some e/\v=e.key) (λi h=>h.IsKeyIter I d i es.size ep/\h.get? d=some o) where
 sub:=λb g=>by simp at g;simp[g]
 frame:=λ_ _ _ st hk=>⟨st.1.at λo e=>hk I (by simp) o e,hk d (by simp) o st.2⟩
 item:=λi s Q E hi st q=>aDT hh st.1 st.2 B (λe h' M G L=>q e.key h' s.toks ⟨e,M,rfl⟩ ⟨G,by rw[L.2 d W];exact st.2⟩ λb o g e=>L.extBut b o (λh=>g (by simp[h])) e) λh' z=>absurd hi (by omega)
 done:=λs Q E st q=>aDT hh st.1 st.2 B (λe h' M=>absurd (Cf.mp M).1 (AL _)) λh' _ U=>q h' s.toks λb o g e=>U b o (λh=>g (by simp[h])) e
 self:=λ_ _ _ _ st q=>wpAny_pyIter_keyiter st.1 q
theorem aBc{R:GU->Ac->Prop}{S D:Addr}{g:Nat}{o:Obj}{es:Array Cz}{ep:Nat}(hh:A.handled=none)(hz:es.size<=5000)(hn:(D==Dd)=false)(G:D≠S)(hS:s.heap.get? S=some (Cs "list" #[] g))(g1:s.heap.get? D=some o)(g2:o.ExactDict)(g3:o.data=.dict es ep)
 (hR:∀h' tk L,(∀b o',b≠S->s.heap.get? b=some o'->h'.get? b=some o')->h'.get? S=some (Cs "list" (es.map (·.key)) L)->R (.ok (.ret .none)) { s with heap:=h',toks:=tk }) :
 Am (A4 prog w) A.in1 (CB (.ref S) (.ref D) .none)
  (λq5 B=>match q5 with|.done f=>R (.ok f) B|.again L=>L.quiet=true/\EJ (A4 prog w) A L R B) (λe B=>R (.error e) B) s:=by
 have ty:∀{B:Ac},B.heap.get? D=some o->B.TypeIs (.ref D) "dict" := λq=>⟨_,q,g2.1⟩
 have q6:D<s.heap.objs.size:=Ap g1;have q1:S<s.heap.objs.size:=Ap hS;have h1:Dg (.ref S) (.ref D)=false:=by simp only[Dg,beq_eq_false_iff_ne];exact DR G
 unfold CB;refine Aa (CU (ty g1) ?_);rw[if_neg (by rw[h1];decide)];refine Aa (aHI hn g1 g2 g3 ?_);generalize hI:({ cls:=Fq "dict_keyiterator",data:=KKq #[Ay D,DQ 0 0,DQ (es.size:Int) 0,DQ (ep:Int) 0] }:Obj)=oI;refine Aa (AI ?_);have q4:(s.heap.push oI).get? D=some o:=Ae _ g1;have I:EM { s with heap:=s.heap.push oI } (.ref D) "dict" := ty q4;unfold Fo;refine Aa (C4 I PySem.F.slot_dict_len.lookup ?_);generalize q3:("dict.__len__" : String)=id0
 wp_delta
 rw[show splitId id0=some ("dict", "__len__") from by subst q3;decide +kernel];subst q3;refine Aa (Bw (b:=true) I (by rw[CG];kernel_rfl) ?_);rw[if_neg (by decide)];dsimp only;rw[if_pos (by decide +kernel)];refine Aa (CU I ?_);refine Ab ?_;rw[if_pos (by decide +kernel)];refine Aa (CF ?_);unfold GC;have W:(s.heap.push oI).get? S=some (Cs "list" #[] g):=Ae _ hS;refine Aa (Aa (Dh (f:=λx=>x.push Cj) W rfl ?_));have q0:=D4 (c:= "list") (xs:=#[]) (n:=g) W (λx=>x.push Cj);refine Dh (f:=λx=>x.pop) q0 rfl ?_;have q8:=D4 q0 (λx=>x.pop);have q7:(s.heap.push oI).get? s.heap.objs.size=some oI:=A7 _ (by rw[<-hI];rfl);have keep:∀b o,b≠S->(s.heap.push oI).get? b=some o->(((s.heap.push oI).update S (Cb λx=>x.push Cj)).update S (Cb λx=>x.pop)).get? b=some o:=λb o hb e=>by rw[Ci _ _ _ _ hb,Ci _ _ _ _ hb];exact e
 have w0:D≠s.heap.objs.size:=A8 q6;have w1:S∉[s.heap.objs.size,D]:=λM=>by rcases Al.mp M with z|z;exact A8 q1 z;exact G (A3.mp z).symm
 refine Ab ⟨EL Hm _,He (aFz (A:=A.in1) hh s.heap.objs.size D w0 g3).toS (A2 hz (by decide)) _ w1 _ es.size 0 _ #[] _ (G6 _) (AS _) ⟨⟨oI,keep _ _ (DR (A8 q1)) q7,by rw[<-hI],by rw[<-hI];rfl⟩,keep _ _ G q4⟩ q8 (Le _) λB U L M q9 q2=>?_⟩;have w3:U=es.map (·.key):=by have e:=nV (P:=λi v=>∃e,es[i]? = some e/\v=e.key) (od:=es.toList.map λe=>(e.hash,e.key)) (λi v ⟨e,he,hv⟩=>⟨_,by rw[A5,AT,he];rfl,hv⟩) q2 (by rw[lM,AK]);apply Dp.mp;rw[e,AM,EH];rfl
 obtain⟨h',g',d',w6,w5⟩:=B;have eg:g'=s.gens:=M.gens;have ed:d'=s.drawn:=M.drawn;have eo:w5=s.os:=M.os;subst eg;subst ed;subst eo;refine hR h' w6 L (λb o hb e=>?_) (by rw[<-w3];exact q9);have w4:b<s.heap.objs.size:=Ap e;refine M.heap b o (λz=>?_) (keep b o hb (Ae _ e));rcases Al.mp z with z|z;exact hb z;exact A8 w4 (A3.mp z)
end
section
variable {prog:A0} {w:AR} {A:AJ} {E:Ad->Ac->Prop} {s:Ac}
theorem yS{D:Addr}{o:Obj}{es:Array Cz}{ep:Nat}{Q:Ad->Ac->Prop}(hh:A.handled=none)(hz:es.size<=5000)(hn:(D==Dd)=false)(U:s.heap.get? D=some o)(W:o.ExactDict)(g3:o.data=.dict es ep)
 (hQ:∀h' tk L,(∀b o',s.heap.get? b=some o'->h'.get? b=some o')->h'.get? s.heap.objs.size=some (Cs "list" (es.map (·.key)) L)->Q (.ref s.heap.objs.size) { s with heap:=h',toks:=tk }) :
 Am (A4 prog w) A (call (.type "list") [.ref D]) Q E s:=by
 have q:D≠s.heap.objs.size:=λe=>AL _ (e▸Ap U);refine callType_codes (Q₁:=λobj g=>obj=.ref s.heap.objs.size/\g={ s with heap:=s.heap.push { cls:=.type "list",data:=.seq #[] } }) F.called_list (F.typeCall_list_1 _) F.entry_list_init
  (code_list_new _ ⟨rfl,rfl⟩) λobj g B=>?_
 obtain⟨rfl,rfl⟩:=B;have G:(s.heap.push { cls:=.type "list",data:=.seq #[] }).get? s.heap.objs.size=some { cls:=.type "list",data:=.seq #[] }:=A7 _ rfl;refine⟨⟨_,G,rfl⟩,F.args_list_init_2 _ _,?_⟩;refine Aa (K8 G rfl ?_);refine Aa (Dh G rfl ?_ (AS _) (AS _));refine Aa (wpAny_letGo ?_);have M:=D4 (c:= "list") (xs:=#[]) (n:=0) G (λ_=>(#[]:Array Ad));have kp:∀b o',b≠s.heap.objs.size->s.heap.get? b=some o'->((s.heap.push { cls:=.type "list",data:=.seq #[] }).update s.heap.objs.size (Cb λ_=>(#[]:Array Ad))).get? b=some o':=λb o' I e=>by rw[Ci _ _ _ _ I];exact Ae _ e
 refine aBc (A:=A.in1) (s:={ s with heap:=(s.heap.push { cls:=.type "list",data:=.seq #[] }).update s.heap.objs.size (Cb λ_=>(#[]:Array Ad)) }) hh hz hn q M (kp D o q U) W g3 λh' tk L k1 k2=>⟨rfl,hQ h' tk L (λb o' e=>?_) k2⟩
 have I:b≠s.heap.objs.size:=A8 (Ap e);exact k1 b o' I (kp b o' I e)
theorem qG{l:Addr}{us:List KN}{n:Nat}{Q:Ad->Ac->Prop}(hu:A.units+20<Co)(ho:s.heap.get? l=some (Cs "list" (rfs us).toArray n))(W:∀x∈us,IsN prog w s.heap x.1 x.2)(I:∀x∈us,x.1≠[])(nd:(us.map (·.1)).Nodup)(hz:us.length<=5000)
 (h:∀(h':Heap) (L:Addr) (xs:List KN) (n:Nat),s.heap.objs.size<=L->(∀b o,s.heap.get? b=some o->h'.get? b=some o)->h'.get? L=some (Cs "list" (rfs xs).toArray n)->xs.Perm us->(xs.Pairwise λx y=>lexN x.1 y.1=true)->Q (.ref L) { s with heap:=h' }) :
 Am (A4 prog w) A (call (.builtin "sorted") [.ref l]) Q E s:=by
 refine FD Lf K9 KA (KB _) ?_;unfold BL.«sorted»;refine Aa (m:=checkCount "sorted" 1 1 _) (Ab ?_);refine Aa (collect_list (vs:=rfs us) ⟨_,ho,rfl,n,rfl⟩ ?_);refine Aa (H0 ?_ (by rw[lM,BV];omega));generalize B:(s.heap.push (Cs "list" #[] 0)).update s.heap.objs.size (Cb (·++(rfs us).toArray))=h1;have hsz:h1.objs.size=s.heap.objs.size+1:=by rw[<-B,Heap.size_update,HQ]
 have G:∀b o,s.heap.get? b=some o->h1.get? b=some o:=λb o e=>by rw[<-B,Ci _ _ _ _ (A8 (Ap e))];exact Ae _ e
 have g:(h1.push (Cs "list" (rfs us).toArray 0)).get? h1.objs.size=some (Cs "list" (rfs us).toArray 0):=A7 _ rfl;refine Aa (AI (AZ (s:={ s with heap:=h1.push (Cs "list" (rfs us).toArray 0) }) JP ⟨_,g,rfl⟩ Ju (jI (by show A.units+1+1+10<Co;omega) g (λx hx=>(bZ prog w).keepT (W x hx) λb o e=>Ae _ (G b o e)) I nd (by omega) λU z1 z2=>⟨_,rfl,?_⟩) (JQ _)));obtain⟨n',hL⟩:=Kk (out:=(rfs U).toArray) g;refine Ab ⟨_,rfl,h _ h1.objs.size U n' (by omega) (λb o q=>?_) hL z1 z2⟩;have M:b<h1.objs.size:=Ap (G b o q);rw[JR (A8 M) (by rw[HQ];exact B2 M)];exact Ae _ (G b o q)
end
end L2
noncomputable section
set_option maxHeartbeats 4000000
namespace Hp
open PySem PySem.Spec PyProof.Rows L2
theorem gK{α:Type}{lt:α->α->Bool}(L:LO lt):∀{as bs:List α},as.Pairwise (lt · ·=true)->bs.Pairwise (lt · ·=true)->(∀x,x∈as↔x∈bs)->as=bs
 | [],[],_,_,_=>rfl|[],b::bs,_,_,h=>absurd ((h b).mpr Ai) (by simp)|a::as,[],_,_,h=>absurd ((h a).mp Ai) (by simp)|a::as,b::bs,ha,hb,h=>by
  have B:=Cm.mp ha;have G:=Cm.mp hb;have e:a=b:=by rcases Al.mp ((h a).mp Ai) with q|q;exact q;rcases Al.mp ((h b).mpr Ai) with r|r;exact r.symm;have g:=G.1 a q;rw[L.as (B.1 b r)] at g;cases g
  subst e;rw[gK L B.2 G.2 λx=>?_];constructor;intro q;rcases Al.mp ((h x).mp (Af _ q)) with rfl|r;have g:=B.1 _ q;rw[L.ir] at g;cases g;exact r;intro q;rcases Al.mp ((h x).mpr (Af _ q)) with rfl|r;have g:=G.1 _ q;rw[L.ir] at g;cases g;exact r
theorem insN_mem{k x:NK}:∀{ks:List NK},x∈rT k ks↔x=k\/x∈ks
 | []=>by simp[rT]|y::ys=>by unfold rT;split;simp;split;rename_i e;subst e;simp;rw[Al,insN_mem (ks:=ys),Al];constructor;rintro (z|z|z);exact .inr (.inl z);exact .inl z;exact .inr (.inr z);rintro (z|z|z);exact .inr (.inl z);exact .inl z;exact .inr (.inr z)
theorem nZ{k:NK}:∀{ks:List NK},ks.Pairwise (lexN · ·=true)->(rT k ks).Pairwise (lexN · ·=true)
 | [],_=>C1 _ _|y::ys,h=>by
  obtain⟨q,B⟩:=Cm.mp h;unfold rT;split;rename_i c;exact Cm.mpr ⟨λz g=>by
   rcases Al.mp g with rfl|g;exact c;exact fU.tr c (q z g),h⟩
  rename_i c;split;exact h;rename_i c2;refine Cm.mpr ⟨λz g=>?_,nZ B⟩;rcases insN_mem.mp g with rfl|g;exact fU.tot c2 (by simpa using c);exact q z g
theorem bC{x:NK}:∀{ks:List NK},x∈ssN ks↔x∈ks
 | []=>by simp[ssN]|k::ks=>by show x∈rT k (ssN ks)↔_;rw[insN_mem,bC (ks:=ks),Al]
theorem cC:∀ks:List NK,(ssN ks).Pairwise (lexN · ·=true)
 | []=>.nil|k::ks=>nZ (cC ks)
theorem aBd{ks g:List NK}(q:g.Pairwise (lexN · ·=true))(B:∀x,x∈g↔x∈ks):g=ssN ks:=gK fU q (cC ks) λx=>by rw[B,bC]
theorem lY:∀us:List KN,aH (us.map λx=>V.ref x.2) (us.map λx=>Ay x.2)
 | []=>.nil|_::us=>.cons rfl (lY us)
theorem mB:∀{us:List KN} {vs:List Ad},aH (us.map λx=>V.ref x.2) vs->vs=us.map λx=>Ay x.2
 | [],_,h=>by cases h;rfl|x::us,_,h=>by
  rw[mC] at h;cases h with
  | cons r t=>cases r;rw[mC,mB t]
section
variable {K:Fg} {H:Hp} {ex:Addr->Prop}
theorem mD:∀{ds:List D} {ks:List NK} {xs:List V},cP ds=some ks->Reps K H ex ds xs->∃us:List KN,us.map (·.1)=ks/\xs=us.map (λx=>V.ref x.2)/\∀x∈us,aY K H x.1 x.2
 | [],ks,xs,h,r=>by cases h;exact⟨[],rfl,r,λx M=>by cases M⟩|d::ds,ks,xs,h,r=>by
  obtain⟨x,r',e,G,I⟩:=r;subst e;unfold cP at h;split at h;rename_i k js q B;cases h;obtain⟨us,U,rfl,W⟩:=mD B I;obtain⟨b,rfl,L⟩:=uQ q G;exact⟨(k,b)::us,by rw[mC,U],rfl,λy g=>by
   rcases Al.mp g with rfl|g;exact L;exact W y g⟩
  cases h
theorem oA:∀is:List Int,Reps K H ex (is.map D.int) (is.map V.int)
 | []=>.nil|_::is=>.cons rfl (oA is)
theorem oC:∀{k:NK} {bs:List Addr},Dc (λis c=>SqT K H c (is.map V.int)) k bs->Reps K H ex (k.map λt=>D.tup (t.map .int)) (bs.map V.ref)
 | _,_,.nil=>.nil|_,_,.cons h t=>.cons ⟨_,_,rfl,h,oA _⟩ (oC t)
theorem aCV{k:NK}{b:Addr}(h:aY K H k b):Rep K H ex (nestD k) (.ref b):=by obtain⟨bs,q,p⟩:=h;exact⟨b,_,rfl,q,oC p⟩
theorem mE:∀{us:List KN},(∀x∈us,aY K H x.1 x.2)->Reps K H ex ((us.map (·.1)).map nestD) (us.map λx=>V.ref x.2)
 | [],_=>.nil|x::us,h=>.cons (aCV (h x Ai)) (mE λy g=>h y (Af _ g))
theorem oD:∀{xs:List NE} {vs:List (NK×Addr×Ad)},Dc gQ xs vs->vs.map (λe=>Ay e.2.1)=xs.map λx=>Ay x.2.1
 | _,_,.nil=>rfl|_,_,.cons h t=>by rw[mC,mC,oD t,h.2.1]
theorem qH{ks:List NK}(h:neN ks=true):∀k∈ks,k≠[]:=λk g z=>by have:=BE.mp h k g;rw[z] at this;cases this
end
section
variable {X:Cx} {P:Pg} {Γ:Ct} {n:Nat} {RT Y old:Addr->Prop} {Z:Sg} {pos:Eg}
theorem oE{pins:List (Addr×Obj)}{ZV:L2.St}{H H1:Hp}{s:Ac}{q:Heap}{g:Nat}{L:Addr}{ys:List KN}{m:Nat}{Q:VK}(I:L2.Inv X pins ZV H1 s)(sm:aG H H1)(U:s.heap.objs.size<=L)(B:∀b o,s.heap.get? b=some o->q.get? b=some o)(G:q.get? L=some (Cs "list" (rfs ys).toArray m))(hl:ys.length<=5000)(hK:∀y∈ys,aY X.K H1 y.1 y.2)
 (h:Wn X RT Y old Z ZV H Q (⟨.lst ((ys.map (·.1)).map nestD),true,false,[]⟩:Vl)):EP X pins ZV Q (.ref L) { s with heap:=q,toks:=g }:=by have W:H1 L=none:=I.hok.fresh U;have M:L2.Inv X pins ZV (upd H1 L (.lst (ys.map λx=>V.ref x.2))) { s with heap:=q,toks:=g }:=I.laid B U ⟨by rw[lM,BV];omega,rfs ys,m,lY ys,G⟩;have s3:aG H1 (upd H1 L (.lst (ys.map λx=>V.ref x.2))):=aG.new W;refine⟨.ref L,_,M,rfl,?_⟩;exact h _ _ M.tk ⟨sm.trans s3,by rw[if_pos rfl];exact⟨L,_,_,rfl,rfl,sm.free W,bG,mE λy hy=>aY.imp (λ_ _ r=>aG.seqT s3 r) (hK y hy)⟩⟩
theorem aFA(M:Mc X P Γ n){j:Nat}{x f g:Str}{pf pg W U:Eg}(hf:f=("sorted" : Str))(hg:bX Γ f=true)(q0:g=("list" : Str))(q1:bX Γ g=true)(q:bE Γ j x=true) :
 PE X (.Call (.Name f pf) [.Call (.Name g pg) [.Name x W] [] U] [] pos) (WE X P n RT Y old Z (.srtD j)):=by
 subst hf q0;have hu:=M.units;unfold bE at q;simp only[bA] at q;obtain⟨⟨x1,x2⟩,x3⟩:=q;intro pins s ZV H Q I hw;obtain⟨S,h⟩:=hw;have h:=(show RE (match Z[j]? with|some (.dct ks)=>R.iff (neN (ks.map (·.1))&&decide (ks.length<=700)) (R.ok (⟨.lst ((ssN (ks.map (·.1))).map nestD),true,false,[]⟩:Vl))|_=>.bad) _ from h)
 split at h;rename_i ks e1;obtain⟨hc,h⟩:=h.iff;rw[bA,Ax] at hc;obtain⟨q4,q6⟩:=hc;obtain⟨ad,xs,g1,g2,g3,g4,g5,g6⟩:=S.dx.at' j ks e1;have q7:xs.length=ks.length:=by have:=congrArg GW g5;rwa [lM,lM] at this
 refine Bs (dG I (M.gl hg) (M.md.blt _ (by decide +kernel)) Jh ?_ (by decide +kernel) (by decide +kernel));refine BB ?_ (aC (e:=.Call (.Name "list" pg) [.Name x W] [] U) (es:=[]) rfl) rfl;rw[aC (e:=.Call (.Name "list" pg) [.Name x W] [] U) (es:=[]) rfl];show Am _ _ (FI ((false,Ed (.Call (.Name "list" pg) [.Name x W] [] U) X.env)::DZ pos (Bd [] X.env))) _ _ s;refine CD (Bs (dG I (M.gl q1) (M.md.blt _ (by decide +kernel)) (show C9 "list" = some (.type "list") by kernel_rfl) ?_ (by decide +kernel) (by decide +kernel)));refine BZ (thn (gO (es:=[]) (iL (by rw[M.N];exact eq_of_beq x1) (M.vis x2) (aP x3) (dD x3)) kM rfl U pins s ZV H (λus H1=>us=[.ref ad]/\H1=H) I ⟨.ref ad,g1,rfl,rfl⟩) λus s1 ⟨vs,H1,I1,r1,e2,e3⟩=>?_) rfl rfl;subst e2 e3;obtain⟨u',rfl,ru⟩:=r1.one;cases ru;obtain⟨d1,d2,vs,hp,o,es,ep,d3,d4,d5,d6,d7,d8⟩:=pH I1 g2 g6;have q8:es.size=xs.length:=by rw[<-AK,d6,lM,<-(FS hp)]
 refine yS (I1.ok.hd M.calm) (by omega) d1 d3 d4 d5 λh' tk c' q2 G=>?_;have I2:L2.Inv X pins ZV H1 { s1 with heap:=h',toks:=tk }:=I1.kept q2;refine Ep ?_;obtain⟨us,u1,u2,u3⟩:∃us:List KN,us.map (·.1)=xs.map (·.1)/\(es.map (·.key))=(rfs us).toArray/\∀x∈us,aY X.K H1 x.1 x.2:=by refine⟨xs.map λx=>(x.1,x.2.1),by rw[AM];rfl,?_,λx q=>?_⟩;apply Dp.mp;rw[EH,d6,AM,Ec];unfold rfs;rw[AM];exact oD hp;obtain⟨y,hy,rfl⟩:=Ag.mp q;exact g6 y hy
 rw[u2] at G;have B:us.map (·.1)=ks.map (·.1):=u1.trans (wD g5);have q9:us.length=ks.length:=by have:=congrArg GW B;rwa [lM,lM] at this
 have nd:(us.map (·.1)).Nodup:=by rw[u1];exact(fP hp)▸d8
 refine qG (s:={ s1 with heap:=h',toks:=tk }) (by omega) G (λx q=>fB I2 (u3 x q)) (λx q=>qH q4 x.1 (by rw[<-B];exact Ag.mpr ⟨x,q,rfl⟩)) nd (by omega) λh2 L ys m hL q3 q5 y1 y2=>?_;have e4:ys.map (·.1)=ssN (ks.map (·.1)):=aBd (C2.mpr y2) λz=>by rw[<-B];exact(y1.map _).mem_iff
 rw[<-e4] at h;exact oE I2 (aG.refl H1) hL q3 q5 (by rw[y1.length_eq];omega) (λy hy=>u3 y (y1.mem_iff.mp hy)) h;exact h.elim
theorem vD(M:Mc X P Γ n){L:A6}{g:Str}{pg p2:Eg}(U:g=("set" : Str))(W:bX Γ g=true){a:E}(ha:PE X L (WE X P n RT Y old Z a))(hp:aS L=true){pins:List (Addr×Obj)}{s:Ac}{ZV:L2.St}{H:Hp}(I:L2.Inv X pins ZV H s)(S:Sx X.K RT Y old Z ZV H)
 {x:Vl} (ex:ev P (call P n) Z a=.ok x) {ds:List D} (hd:x.d=.lst ds) {ks:List NK} (hk:cP ds=some ks) (h7:(ssN ks).length<=700) {Q:Ad->Ac->Prop}
 (h:∀s1 H1 us (h':Heap) (tk:Nat),L2.Inv X pins ZV H1 s1->aG H H1->us.map (·.1)=ks->(∀x∈us,aY X.K H1 x.1 x.2)->bP (bZ X.prog X.w) h' s1.heap.objs.size us->(∀b o,s1.heap.get? b=some o->h'.get? b=some o)->Tk X.K H1->Q (.ref s1.heap.objs.size) { s1 with heap:=h',toks:=tk }) :
 Am (A4 X.prog X.w) X.A (Ed (.Call (.Name g pg) [L] [] p2) X.env) Q X.xe s:=by subst U;have hu:=M.units;refine Bs (dG I (M.gl W) (M.md.blt _ (by decide +kernel)) (show C9 "set" = some (.type "set") by kernel_rfl) ?_ (by decide +kernel) (by decide +kernel));refine BZ (thn (gO (es:=[]) ha kM (aC hp) p2 pins s ZV H (λus H1=>∃u,us=[u]/\Tk X.K H1/\Ro X.K RT Y old Z ZV H H1 x u) I ⟨S,?_⟩) λus s1 ⟨vs,H1,G,r1,u,e1,t1,ro⟩=>?_) (aC hp) rfl;rw[ex];intro u H1 t1 ro;exact⟨u,rfl,t1,ro⟩;subst e1;obtain⟨u',rfl,ru⟩:=r1.one;obtain⟨b,xs,rfl,hS,_,rr⟩:=(ro.rv S).lst hd;cases ru;obtain⟨q0,r2,p,_⟩:=G.list hS;obtain⟨us,u1,rfl,u3⟩:=mD hk rr;refine yQ (knd:=bZ X.prog X.w) (us:=us) (G.ok.hd M.calm) (λA' hA=>show A'.units+8<Co by omega) p.isList (by rw[Ec];exact mB r2) (λx hx=>fB G (u3 x hx)) (ssN ks) h7 (λx hx=>bC.mpr (by rw[<-u1];exact Ag.mpr ⟨x,hx,rfl⟩)) λh' tk B q=>?_;exact h s1 H1 us h' tk G ro.1 u1 u3 B (λb o e=>q b o (Ap e) e) t1
theorem qJ{ks:List NK}(h:ks.Pairwise (lexN · ·=true)):ks.Nodup:=h.imp λ{p q} c e=>by rw[e,fU.ir] at c;cases c
theorem aFB(l:List NK):(ssN l).Nodup:=qJ (cC l)
theorem aBe(M:Mc X P Γ n){pins:List (Addr×Obj)}{ZV:L2.St}{H G:Hp}{s:Ac}{S:Addr}{B:List KN}{r:List NK}{Q:VK}(I:L2.Inv X pins ZV G s)(sm:aG H G)(hz:aAV (bZ X.prog X.w) s.heap S B)(kN:∀x∈B,x.1≠[])(kA:∀x∈B,aY X.K G x.1 x.2)(z2:∀k,k∈B.map (·.1)↔k∈r)(z3:r.Pairwise (lexN · ·=true))(hl:r.length<=5000)
 (h:Wn X RT Y old Z ZV H Q (⟨.lst (r.map nestD),true,false,[]⟩:Vl)):Am (A4 X.prog X.w) X.A (FI (DZ pos (Bd [] X.env))) (λq0 s'=>Am (A4 X.prog X.w) X.A (Gz (.builtin "sorted") (.ref S::q0)) (EP X pins ZV Q) X.xe s') X.xe s:=by
 have hu:=M.units;refine Ep ?_;refine sU (I.ok.hd M.calm) (by omega) hz (λx hx=>fB I (kA x hx)) kN λh4 q1 L ys m hL U W y1 y2 y3=>?_;have e4:ys.map (·.1)=r:=gK fU (C2.mpr y3) z3 λk=>by rw[<-z2];constructor;intro q;obtain⟨w,g,rfl⟩:=Ag.mp q;exact Ag.mpr ⟨w,y1 w g,rfl⟩;intro q;obtain⟨w,g,rfl⟩:=Ag.mp q;exact y2 w g
 rw[<-e4] at h hl;exact oE I sm hL U W (by rwa [lM] at hl) (λw g=>kA w (y1 w g)) h
theorem aHJ(M:Mc X P Γ n){a:E}{B:A6}{f g:Str}{pf G L:Eg}(hf:f=("sorted" : Str))(hg:bX Γ f=true)(q0:g=("set" : Str))(q1:bX Γ g=true)(ha:PE X B (WE X P n RT Y old Z a))(hp:aS B=true) :
 PE X (.Call (.Name f pf) [.Call (.Name g G) [B] [] L] [] pos) (WE X P n RT Y old Z (.sst a)):=by
 subst hf;intro pins s ZV H Q I hw;obtain⟨S,h⟩:=hw;have h:=RE.bind' (show RE (ev P (call P n) Z a >>= λx=>(match x.d with
  | .lst as=>(match cP as with
   | some ks=>R.iff (neN ks&&decide ((ssN ks).length<=700)) (R.ok (⟨.lst ((ssN ks).map nestD),true,false,[]⟩:Vl))|_=>.bad)
  | _=>.bad)) _ from h)
 obtain⟨x,ex,h⟩:=h.eq;split at h;rename_i as U;split at h;rename_i ks ka;obtain⟨W,h⟩:=h.iff;rw[bA,Ax] at W;refine Bs (dG I (M.gl hg) (M.md.blt _ (by decide +kernel)) Jh ?_ (by decide +kernel) (by decide +kernel));refine BB ?_ (aC (e:=.Call (.Name g G) [B] [] L) (es:=[]) rfl) rfl;rw[aC (e:=.Call (.Name g G) [B] [] L) (es:=[]) rfl];show Am _ _ (FI ((false,Ed (.Call (.Name g G) [B] [] L) X.env)::DZ pos (Bd [] X.env))) _ _ s;refine CD (vD M q0 q1 ha hp I S ex U ka W.2 λs1 H1 us h1 q4 I1 q3 u1 u3 q q2 t1=>?_);exact aBe M (s:={ s1 with heap:=h1,toks:=q4 }) (I1.kept q2) q3 q.toD (λx hx=>qH W.1 x.1 (by rw[<-u1];exact Ag.mpr ⟨x,hx,rfl⟩)) u3 (λk=>by rw[u1,bC]) (cC _) (by omega) h;exact h.elim;exact h.elim
theorem aHK(M:Mc X P Γ n){o:Operator}{a b:E}{ea eb:A6}{f g1 g2:Str}{pf p1 p2 p3 p4 p5:Eg}(hf:f=("sorted" : Str))(hg:bX Γ f=true)(x3:g1=("set" : Str))(x5:bX Γ g1=true)(x4:g2=("set" : Str))(x6:bX Γ g2=true)
 (ha:PE X ea (WE X P n RT Y old Z a)) (hb:PE X eb (WE X P n RT Y old Z b)) (hp:aS ea=true) (hq:aS eb=true) :
 PE X (.Call (.Name f pf) [.BinOp (.Call (.Name g1 p1) [ea] [] p2) o (.Call (.Name g2 p3) [eb] [] p4) p5] [] pos) (WE X P n RT Y old Z (.sop o a b)):=by
 subst hf;have hu:=M.units;intro pins s ZV H Q I hw;obtain⟨S,h⟩:=hw;have h:=RE.bind' (show RE (ev P (call P n) Z a >>= λx=>ev P (call P n) Z b >>= λy=>(match x.d,y.d with
  | .lst as,.lst bs=>(match cP as,cP bs with
   | some ks,some W=>R.iff (neN ks&&neN W) (match opN o ks W with|some r=>R.ok (⟨.lst (r.map nestD),true,false,[]⟩:Vl)|none=>.bad)|_,_=>.bad)
  | _,_=>.bad)) _ from h)
 obtain⟨x,ex,h⟩:=h.eq;obtain⟨y,ey,h⟩:=(RE.bind' h).eq;split at h;rename_i as bs z9 x0;split at h;rename_i ks W ka kb;obtain⟨w0,h⟩:=h.iff;rw[bA] at w0;split at h;rename_i r B;have h7:(ssN ks).length<=700/\(ssN W).length<=700:=by
  unfold opN at B;split at B;split at B;rename_i q;have le:∀l:List NK,(∀k∈l,k∈ks++W)->(ssN l).length<=700:=λl hl=>by have:=(aFB l).length_le_of_subset (l₂:=ssN (ks++W)) λk hk=>bC.mpr (hl k (bC.mp hk));omega
  exact⟨le ks λk hk=>AB _ hk,le W λk hk=>As _ hk⟩;cases B;split at B;assumption;cases B;split at B;assumption;cases B;cases B
 refine Bs (dG I (M.gl hg) (M.md.blt _ (by decide +kernel)) Jh ?_ (by decide +kernel) (by decide +kernel));refine BB ?_ (aC (e:=.BinOp (.Call (.Name g1 p1) [ea] [] p2) o (.Call (.Name g2 p3) [eb] [] p4) p5) (es:=[]) rfl) rfl;rw[aC (e:=.BinOp (.Call (.Name g1 p1) [ea] [] p2) o (.Call (.Name g2 p3) [eb] [] p4) p5) (es:=[]) rfl];show Am _ _ (FI ((false,Ed (.BinOp (.Call (.Name g1 p1) [ea] [] p2) o (.Call (.Name g2 p3) [eb] [] p4) p5) X.env)::DZ pos (Bd [] X.env))) _ _ s;refine CD (KZ (vD M x3 x5 ha hp I S ex z9 ka h7.1 λs1 H1 us h1 z5 I1 z0 u1 u3 w1 x7 t1=>?_));have w5:L2.Inv X pins ZV H1 { s1 with heap:=h1,toks:=z5 }:=I1.kept x7;have x2:H1 s1.heap.objs.size=none:=I1.hok.fresh (Ak _);obtain⟨z7,m1,w9,w8,w6,T1,o1,c1,c2⟩:=w1;have z8:L2.Inv X ((s1.heap.objs.size,L2.setT (bZ X.prog X.w) z7 w6 m1 w9 w8)::pins) ZV H1 { s1 with heap:=h1,toks:=z5 }:=w5.pins_of λp q0=>by rcases Al.mp q0 with rfl|q0;exact⟨o1,x2,λz=>AL _ (z▸I1.lt),I1.nofs (Ak _),λv z=>by cases z⟩;exact w5.pin p (As _ q0)
 refine vD M x4 x6 hb hq z8 (S.grow z0 t1) ey x0 kb h7.2 λs2 H2 vs h2 U I2 z4 v1 v3 G w7 t2=>?_;obtain⟨q1,q2,q3,_⟩:=I2.pin _ (As _ Ai);have q8:L2.Inv X pins ZV H2 { s2 with heap:=h2,toks:=U }:=(I2.pins_of λp q0=>I2.pin p (As _ (Af _ q0))).kept w7;have q5:bP (bZ X.prog X.w) h2 s1.heap.objs.size us:=⟨z7,m1,w9,w8,w6,T1,w7 _ _ q1,c1,c2⟩
 have z6:∀x∈us,aY X.K H2 x.1 x.2:=λx g=>aY.imp (λ_ _ r=>aG.seqT z4 r) (u3 x g);have q4:s1.heap.objs.size≠s2.heap.objs.size:=A8 (Ap q1);have kN:∀x,x∈us\/x∈vs->x.1≠[]:=λx g=>g.elim (λg=>qH w0.1 x.1 (by rw[<-u1];exact Ag.mpr ⟨x,g,rfl⟩)) λg=>qH w0.2 x.1 (by rw[<-v1];exact Ag.mpr ⟨x,g,rfl⟩);have kA:∀x,x∈us\/x∈vs->aY X.K H2 x.1 x.2:=λx g=>g.elim (z6 x) (v3 x);have q6:∀x∈us,x.1∈ssN ks:=λx g=>bC.mpr (by rw[<-u1];exact Ag.mpr ⟨x,g,rfl⟩);have q7:∀x∈vs,x.1∈ssN W:=λx g=>bC.mpr (by rw[<-v1];exact Ag.mpr ⟨x,g,rfl⟩);have q9:∀(h3:Heap) (zs:List KN),aAV (bZ X.prog X.w) h3 h2.objs.size zs->(∀z∈zs,z∈us\/z∈vs)->(∀k,k∈zs.map (·.1)↔k∈r)->(r.Pairwise (lexN · ·=true))->(∀b o,h2.get? b=some o->h3.get? b=some o)->Am (A4 X.prog X.w) X.A (FI (DZ pos (Bd [] X.env))) (λx8 s'=>Am (A4 X.prog X.w) X.A (Gz (.builtin "sorted") (.ref h2.objs.size::x8)) (EP X pins ZV Q) X.xe s') X.xe { s2 with heap:=h3,toks:=U }:=by
  intro h3 zs hz z1 z2 z3 L;refine aBe M (s:={ s2 with heap:=h3,toks:=U }) (q8.kept L) (z0.trans z4) hz (λx g=>kN x (z1 x g)) (λx g=>kA x (z1 x g)) z2 z3 ?_ h;have:=(qJ z3).length_le_of_subset (l₂:=ssN ks++ssN W) λk hk=>by obtain⟨w,hw,rfl⟩:=Ag.mp ((z2 k).mpr hk);rcases z1 w hw with q|q;exact AB _ (q6 w q);exact As _ (q7 w q)
  rw[lA] at this;omega
 have w3:∀x∈us,(bZ X.prog X.w).is h2 x.1 x.2:=λx g=>fB q8 (z6 x g);have w4:∀x∈vs,(bZ X.prog X.w).is h2 x.1 x.2:=λx g=>fB q8 (v3 x g);unfold opN at B;split at B;split at B;rename_i x1;cases B;refine aJK (knd:=bZ X.prog X.w) (s:={ s2 with heap:=h2,toks:=U }) (λA' hA=>show A'.units+8<Co by omega) q5 G q4 w3 w4 (ssN (ks++W)) x1 (λx g=>bC.mpr (AB _ (bC.mp (q6 x g)))) (λx g=>bC.mpr (As _ (bC.mp (q7 x g)))) λh3 hz L=>q9 h3 (us++vs) hz.toD (λz hz=>AO.mp hz) (λk=>?_) (cC _) L;rw[BM,u1,v1,bC];cases B;rw[if_pos h7] at B;cases B;refine aHG (knd:=bZ X.prog X.w) (s:={ s2 with heap:=h2,toks:=U }) (λA' hA=>show A'.units+8<Co by omega) q5 G q4 w3 w4 (ssN ks) (ssN W) h7.1 h7.2 q6 q7 λh3 zs hz z1 z2 L=>q9 h3 zs hz.toD z1 (λk=>?_) (cC _) L;rw[z2,u1,v1,bC,B6,HU];rw[if_pos h7] at B;cases B;refine aHH (knd:=bZ X.prog X.w) (s:={ s2 with heap:=h2,toks:=U }) (λA' hA=>show A'.units+8<Co by omega) q5 G q4 w3 w4 (ssN ks) (ssN W) h7.1 h7.2 q6 q7 λh3 zs hz z1 z2 L=>q9 h3 zs hz z1 (λk=>?_) (cC _) L;rw[z2,u1,v1,bC,B6,HU];cases B;exact h.elim;exact h.elim;exact h.elim
end
end Hp
end
noncomputable section
set_option maxHeartbeats 8000000
namespace Hp
open PySem PySem.Spec PyProof.Rows L2
section
variable {P:Pg} {n:Nat}
theorem sV{X:Cx}{Γ:Ct}(M:Mc X P Γ n)(scope:DB):(Jy scope X.env).names=kZ Γ.sc scope.names:=by
 unfold Jy kZ;simp only;refine Dl λp B=>?_;obtain⟨m,k⟩:=p;have g:(X.env.scope.kind==L3)=true:=by rw[M.fk];rfl
 have q:X.env.kindOf m=Γ.sc.lookup m:=by unfold Env.kindOf;rw[M.sc]
 simp only[g,q,FW]
abbrev chN(Γ:Ct)(tg:A6)(caps:List Nat):List Str:=dP tg++caps.filterMap λi=>Γ.N[i]?
abbrev vE(Γ:Ct)(tg:A6)(caps:List Nat)(scope:DB):Ct:={ Γ with N:=chN Γ tg caps,sc:=kZ Γ.sc scope.names,fn:=false }
structure aBf (Γ:Ct) (tg:A6) (caps:List Nat) (scope:DB) (k:Nat) (t:T):Prop where
 len:(dP tg).length=k
 lt:∀i∈caps,i<Γ.N.length
 ndc:caps.Nodup
 kind:scope.kind=.function
 nd:(chN Γ tg caps).Nodup
 cap:∀x∈caps.filterMap (λi=>Γ.N[i]?),scope.names.lookup x=some .free/\Γ.sc.lookup x=some .cell
 all:∀p∈scope.names,p.2≠.cell/\(p.2=.local->scope.names.lookup p.1=some .local)/\(p.2=.free->Γ.sc.lookup p.1=some .cell)
 tk:∀i∈tIx t,i<k
theorem qK{N:List Str}:∀{caps:List Nat},(∀i∈caps,i<N.length)->∀{j i:Nat},caps[j]? = some i->(caps.filterMap λi=>N[i]?)[j]? = N[i]?/\(caps.filterMap λi=>N[i]?).length=caps.length
 | [],_,_,_,h=>by simp at h|c::cs,hl,j,i,h=>by
  have q:N[c]? = some N[c]! := by have:=hl c Ai;simp[this]
  rw[List.filterMap_cons_some q];have g:∀i∈cs,i<N.length:=λi hi=>hl i (Af _ hi);have len:(cs.filterMap λi=>N[i]?).length=cs.length:=by
   cases cs with
   | nil=>rfl|cons B G=>exact(qK g (j:=0) (i:=B) rfl).2
  refine⟨?_,by rw[lC,lC,len]⟩;cases j with
  | zero=>
   have e:c=i:=by simpa using h
   subst e;rw[gZ,q]
  | succ j=>rw[gS];exact(qK g (j:=j) (i:=i) (by simpa using h)).1
theorem aFC{N:List Str}{caps:List Nat}(h:∀i∈caps,i<N.length):(caps.filterMap λi=>N[i]?).length=caps.length:=by
 cases caps with
 | nil=>rfl|cons c cs=>exact(qK h (j:=0) (i:=c) rfl).2
theorem aBf.scope{X:Cx}{Γ:Ct}{tg:A6}{caps:List Nat}{scope:DB}{k:Nat}{t:T}(O:aBf Γ tg caps scope k t)(M:Mc X P Γ n):bY X scope k caps (chN Γ tg caps) where
 kind:=O.kind
 nocell:=λy q=>(O.all y q).1
 loc:=λy q e=>(O.all y q).2.1 e
 free:=λm L=>.inl (by
  have:=(O.all _ L).2.2 rfl;show X.env.scope.names.lookup m=_;rw[M.sc];exact this)
 len:=by rw[lA,O.len,aFC O.lt]
 cap:=λj i e=>by have hi:=O.lt i (mG e);have B:Γ.N[i]? = some Γ.N[i]:=Ah hi;have g:=(qK O.lt e).1;rw[B] at g;obtain⟨G,I⟩:=O.cap _ (mG g);refine⟨Γ.N[i],?_,by rw[M.N];exact B,G,?_⟩;show(dP tg++_)[k+j]? = _;rw[AD (by rw[O.len];omega),O.len,Bf];exact g;show X.env.scope.names.lookup _=_;rw[M.sc];exact I
 ndp:=M.nd
theorem aBf.mc{X:Cx}{Γ:Ct}{tg:A6}{caps:List Nat}{scope:DB}{k:Nat}{t:T}(O:aBf Γ tg caps scope k t)(M:Mc X P Γ n)(C:Addr)(s₀:Ac)(H₀:Hp)(ex:List Addr) :
 Mc (cI X scope (chN Γ tg caps) C s₀ H₀ ex) P (vE Γ tg caps scope) n where
 md:=⟨M.md.fn,M.md.blt,M.md.cns,M.md.tab⟩
 N:=rfl
 nd:=O.nd
 sc:=sV M scope
 calm:=M.calm
 room:=M.room
 xe:=rfl
 st:=λx h=>.inr (by
  show(Jy scope X.env).names.lookup x=_;rw[sV M scope];unfold rU at h;have h:(match (kZ Γ.sc scope.names).lookup x with|some .local=>true|some .cell=>false|_=>false)=true:=h;split at h;rename_i e;exact e;cases h;cases h)
 fk:=O.kind
theorem sW{Γ:Ct}{tt:Bool}{a b:E}{e:A6}:chkI Γ tt (.rng a b) e=oS (jQ e) λp=>(p.1==("range" : Str))&&bX Γ p.1&&(match p.2 with
 | [x]=>uL a&&aL Γ b x|[x,y]=>aL Γ a x&&aL Γ b y|_=>false):=rfl
theorem gL{Γ:Ct}{tt:Bool}{it:Hp.It}{e:A6}(h:chkI Γ tt it e=true):aS e=true:=by
 cases it with
 | seq c=>exact aN (c:=c) (by exact h)|rng a b=>rw[sW] at h;obtain⟨_,⟨_,_,rfl⟩,_⟩:=aB h;rfl|zip a b=>cases h|enum a=>cases h|rev a=>cases h
theorem aCW{X:Cx}{e:A6}{c:E}{RT Y old:Addr->Prop}{Z:Sg}(h:tst P (call P n) Z c=.bad):PT X e (WT X P n RT Y old Z c):=λpins s ZV H Q I ⟨S,g⟩=>by rw[h] at g;exact g.elim
theorem dS{a b c:Bool}(h:(a&&b&&c)=true):a=true/\b=true/\c=true:=by cases a <;> cases b <;> cases c <;> first|exact⟨rfl,rfl,rfl⟩|cases h
theorem cO{a b:Bool}(h:(a&&b)=true):a=true/\b=true:=by cases a <;> cases b <;> first|exact⟨rfl,rfl⟩|cases h
theorem aHL{a b c d:Bool}(h:(a&&b&&c&&d)=true):a=true/\b=true/\c=true/\d=true:=by obtain⟨g,q,B⟩:=dS h;obtain⟨g,G⟩:=cO g;exact⟨g,G,q,B⟩
theorem aBg{a b c d e:Bool}(h:(a&&b&&c&&d&&e)=true):a=true/\b=true/\c=true/\d=true/\e=true:=by obtain⟨g,q,B,G⟩:=aHL h;obtain⟨g,I⟩:=cO g;exact⟨g,I,q,B,G⟩
theorem xD{Γ:Ct}{k:Nat}{caps:List Nat}{t:T}{it:Hp.It}{cond:Es}{elt:E}{e:A6}(h:aL Γ (.comp k caps t it cond elt) e=true) :
 ∃G tg q B scope pos,e=.ListComp G [⟨tg,q,B,0⟩] scope pos/\aBf Γ tg caps scope k t/\B.length<=1/\jP (vE Γ tg caps scope) t tg=true/\chkI Γ (rV tg) it q=true/\chkEs (vE Γ tg caps scope) cond B=true/\aL (vE Γ tg caps scope) elt G=true:=by
 obtain⟨⟨G,gens,scope⟩,I,g⟩:=aB h;clear h;obtain⟨pos,rfl⟩:=I;have h:=g;clear g;rcases gens with _|⟨⟨tg,q,B,as⟩,_|⟨_,_⟩⟩
 cases h;have h:(as==0&&(dP tg).length==k&&(caps.all λi=>decide (i<Γ.N.length))&&decide caps.Nodup&&scope.kind==.function&&decide (dP tg++caps.filterMap λi=>Γ.N[i]?).Nodup &&
  ((caps.filterMap λi=>Γ.N[i]?).all λx=>scope.names.lookup x==some .free&&Γ.sc.lookup x==some .cell) &&
  (scope.names.all λp=>p.2 != .cell&&(p.2 != .local||scope.names.lookup p.1==some .local)&&(p.2 != .free||Γ.sc.lookup p.1==some .cell)) &&
  ((tIx t).all λi=>decide (i<k))&&decide (B.length<=1) &&
  jP (vE Γ tg caps scope) t tg&&chkI Γ (rV tg) it q&&chkEs (vE Γ tg caps scope) cond B&&aL (vE Γ tg caps scope) elt G)=true:=by exact h
 simp only[bA,beq_iff_eq,BE,Ax,B8,bne_iff_ne,ne_eq] at h;obtain⟨⟨⟨⟨⟨⟨⟨⟨⟨⟨⟨⟨⟨h0,I⟩,h2⟩,h3⟩,h4⟩,h5⟩,h6⟩,h7⟩,h8⟩,h9⟩,L⟩,M⟩,U⟩,W⟩:=h;subst h0;refine⟨G,tg,q,B,scope,pos,rfl,⟨I,h2,h3,h4,h5,h6,λp hp=>?_,h8⟩,h9,L,M,U,W⟩;obtain⟨⟨q1,q2⟩,q3⟩:=h7 p hp;exact⟨q1,λe=>q2.resolve_left λz=>z e,λe=>q3.resolve_left λz=>z e⟩;cases h
abbrev PEc(P:Pg)(n:Nat)(c:E):Prop:=∀{X:Cx} {Γ:Ct},Mc X P Γ n->∀{e:A6},aL Γ c e=true->∀(RT Y old:Addr->Prop) (Z:Sg),PE X e (WE X P n RT Y old Z c)
abbrev PTc(P:Pg)(n:Nat)(c:E):Prop:=∀{X:Cx} {Γ:Ct},Mc X P Γ n->∀{e:A6},aL Γ c e=true->∀(RT Y old:Addr->Prop) (Z:Sg),PT X e (WT X P n RT Y old Z c)
abbrev PWc(P:Pg)(n:Nat)(c:E):Prop:=∀{X:Cx} {Γ:Ct},Mc X P Γ n->∀{o:Lv} {xs:List A6} {pos:Eg},aL Γ c (.BoolOp o xs pos)=true->∀(RT Y old:Addr->Prop) (Z:Sg),PW X (.BoolOp o xs pos) (WT X P n RT Y old Z c)
structure Q3 (P:Pg) (n:Nat) (c:E):Prop where
 e:PEc P n c
 t:PTc P n c
 w:PWc P n c
structure QA (P:Pg) (n:Nat) (cs:Es):Prop where
 a:∀{X:Cx} {Γ:Ct},Mc X P Γ n->∀{es:List A6},chkEs Γ cs es=true->∀(RT Y old:Addr->Prop) (Z:Sg),PA X es (WA X P n RT Y old Z cs)
 o:∀{X:Cx} {Γ:Ct},Mc X P Γ n->∀{e:Option A6},chkO Γ cs e=true->∀(RT Y old:Addr->Prop) (Z:Sg),PO X e (wO X P n RT Y old Z cs)
 ts:∀{X:Cx} {Γ:Ct},Mc X P Γ n->∀{es:List A6},es.length<=1->chkEs Γ cs es=true->∀(RT Y old:Addr->Prop) (Z:Sg),PTs X es (wTs X P n RT Y old Z cs)
abbrev QI(P:Pg)(n:Nat)(it:Hp.It):Prop:=∀{X:Cx} {Γ:Ct},Mc X P Γ n->∀{tg e:A6},chkI Γ (rV tg) it e=true->∀(RT Y old:Addr->Prop) (Z:Sg),PI X tg e (wI X P n RT Y old Z it)
theorem Q3.of{c:E}(h:PEc P n c)(hd:∀Z,tst P (call P n) Z c=.bad)(g:∀{Γ:Ct} {o:Lv} {xs:List A6} {pos:Eg},aL Γ c (.BoolOp o xs pos)=false):Q3 P n c:=
 ⟨h,λ{X Γ} M {e} z RT Y old Z=>aCW (hd Z),λ{X Γ} M {o xs pos} z RT Y old Z=>absurd (g.symm.trans z) bN⟩
theorem n_c{d:D}:Q3 P n (.c d):=by
 have h0:∀{Γ:Ct} {e:A6},aL Γ (.c d) e=true->(∃c k p,e=.Constant c k p/\eqC d c=true)\/∃x p,e=.Name x p/\bX Γ x=true/\bU x=true/\∃d',Γ.cns.lookup x=some d'/\eqK d d'=true:=λ{Γ e} h=>by rcases(B8 _ _).mp (show(oS (asC e) (eqC d)||oS (asN e) λx=>bX Γ x&&bU x&&oB (Γ.cns.lookup x) (eqK d))=true from h) with h|h;obtain⟨c,B,g⟩:=aB h;clear h;obtain⟨k,p,rfl⟩:=B;have h:=g;clear g;exact .inl ⟨c,k,p,rfl,h⟩;obtain⟨x,B,g⟩:=aB h;clear h;obtain⟨p,rfl⟩:=B;have h:=g;clear g;obtain⟨B,G,I⟩:=dS h;obtain⟨d',q1,q2⟩:=aAC I;exact .inr ⟨x,p,rfl,B,G,d',q1,q2⟩
 have k:PEc P n (.c d):=λ{X Γ} M {e} h RT Y old Z=>by
  rcases h0 h with⟨c,j,p,rfl,g⟩|⟨x,p,rfl,B,G,d',q,I⟩
  exact s_c g;have e:=aET I;subst e;obtain⟨u,v,m,r,W⟩:=M.md.cns x d q;refine(aBS (M.gl B) m r (aP G)).imp λZV H Q t ⟨S,L⟩ t'=>?_;exact(show Wn _ RT Y old Z ZV H Q (Vl.cl d) from L) v H t' (Ro.val (aG.refl H) (W H))
 refine⟨k,λ{X Γ} M {e} h RT Y old Z=>?_,λ{X Γ} M {o xs pos} h RT Y old Z=>absurd h bN⟩;refine nQ (k M h RT Y old Z) ?_ λp U=>U;rcases h0 h with⟨c,j,p,rfl,h⟩|⟨x,p,rfl,_⟩ <;> (intro _;rfl)
theorem n_v{i:Nat}:Q3 P n (.v i):=by
 have k:PEc P n (.v i):=λ{X Γ} M {e} h RT Y old Z=>by obtain⟨x,q,g⟩:=aB h;clear h;obtain⟨p,rfl⟩:=q;have h:=g;clear g;have h:bE _ i x=true:=h;unfold bE at h;obtain⟨q,G,B⟩:=dS h;exact s_v (by rw[M.N];exact eq_of_beq q) (M.vis G) (aP B) (dD B)
 refine⟨k,λ{X Γ} M {e} h RT Y old Z=>?_,λ{X Γ} M {o xs pos} h RT Y old Z=>absurd h bN⟩;refine nQ (k M h RT Y old Z) ?_ λp I=>RE.bind' (show RE (cR Z i >>= λx=>dO x) p from I);obtain⟨x,⟨p,rfl⟩,_⟩:=aB h;intro _;rfl
theorem aJM{o:Operator}{a b:E}(I:Q3 P n a)(L:Q3 P n b):Q3 P n (.op o a b):=Q3.of (λ{X Γ} M {e} h RT Y old Z=>by
 obtain⟨⟨l,o',r⟩,q,g⟩:=aB h;clear h;obtain⟨p,rfl⟩:=q;have h:=g;clear g;obtain⟨q,B,G⟩:=dS h;have e:o=o':=eq_of_beq q;subst e;exact aJF (I.e M B RT Y old Z) (L.e M G RT Y old Z)) (λ_=>rfl) rfl
theorem aJN{a:E}(B:Q3 P n a):Q3 P n (.nt a):=by
 have h0:∀{Γ:Ct} {e:A6},aL Γ (.nt a) e=true->∃x p,e=.UnaryOp .Not x p/\aL Γ a x=true:=λ{Γ e} h=>by obtain⟨⟨o,x⟩,q,g⟩:=aB h;clear h;obtain⟨p,rfl⟩:=q;have h:=g;clear g;obtain⟨q,G⟩:=cO h;have e:o=.Not:=eq_of_beq q;subst e;exact⟨x,p,rfl,G⟩
 refine⟨λ{X Γ} M {e} h RT Y old Z=>?_,λ{X Γ} M {e} h RT Y old Z=>?_,λ{X Γ} M {o xs pos} h RT Y old Z=>absurd h bN⟩;obtain⟨x,p,rfl,g⟩:=h0 h;exact aHm (B.e M g RT Y old Z);obtain⟨x,p,rfl,g⟩:=h0 h;exact aJH (B.t M g RT Y old Z)
theorem xE{Γ:Ct}{a b:E}{w:Lv}{xs:List A6}{p:Eg}(h:(match xs with
 | [x,y]=>aL Γ a x&&aL Γ b y|x::y::z::r=>aL Γ a x&&aL Γ b (.BoolOp w (y::z::r) p)|_=>false)=true):∃x y r,xs=x::y::r/\aL Γ a x=true/\((r=[]/\aL Γ b y=true)\/aL Γ b (.BoolOp w (y::r) p)=true):=by
 rcases xs with _|⟨x,_|⟨y,_|⟨z,r⟩⟩⟩
 cases h;cases h;obtain⟨g,q⟩:=cO h;exact⟨x,y,[],rfl,g,.inl ⟨rfl,q⟩⟩;obtain⟨g,q⟩:=cO h;exact⟨x,y,z::r,rfl,g,.inr q⟩
theorem aJO{a b:E}(I:Q3 P n a)(L:Q3 P n b):Q3 P n (.an a b):=by
 have W:PWc P n (.an a b):=λ{X Γ} M {o xs pos} h RT Y old Z=>by obtain⟨G,U⟩:=cO h;have e:o=.And:=eq_of_beq G;subst e;obtain⟨x,y,r,rfl,B,q⟩:=xE U;rcases q with⟨rfl,q⟩|q;exact aHv (I.t M B RT Y old Z) (aBT (L.t M q RT Y old Z));exact aHv (I.t M B RT Y old Z) (L.w M q RT Y old Z)
 refine⟨λ{X Γ} M {e} h RT Y old Z=>?_,λ{X Γ} M {e} h RT Y old Z=>?_,W⟩;obtain⟨⟨o,xs,pos⟩,G,g⟩:=aB h;clear h;obtain rfl:=G;have h:=g;clear g;obtain⟨G,U⟩:=cO h;have e:o=.And:=eq_of_beq G;subst e;obtain⟨x,y,r,e,B,q⟩:=xE U;have e:xs=x::y::r:=e;subst e;rcases q with⟨rfl,q⟩|q;exact aHn (I.e M B RT Y old Z) (zH (L.e M q RT Y old Z));exact aHn (I.e M B RT Y old Z) (L.e M q RT Y old Z);obtain⟨⟨o,xs,pos⟩,rfl,_⟩:=aB h;exact(W M h RT Y old Z).pt
theorem aHM{a b:E}(I:Q3 P n a)(L:Q3 P n b):Q3 P n (.orr a b):=by
 have W:PWc P n (.orr a b):=λ{X Γ} M {o xs pos} h RT Y old Z=>by obtain⟨G,U⟩:=cO h;have e:o=.Or:=eq_of_beq G;subst e;obtain⟨x,y,r,rfl,B,q⟩:=xE U;rcases q with⟨rfl,q⟩|q;exact aDO (I.t M B RT Y old Z) (aEe (L.t M q RT Y old Z));exact aDO (I.t M B RT Y old Z) (L.w M q RT Y old Z)
 refine⟨λ{X Γ} M {e} h RT Y old Z=>?_,λ{X Γ} M {e} h RT Y old Z=>?_,W⟩;obtain⟨⟨o,xs,pos⟩,G,g⟩:=aB h;clear h;obtain rfl:=G;have h:=g;clear g;obtain⟨G,U⟩:=cO h;have e:o=.Or:=eq_of_beq G;subst e;obtain⟨x,y,r,e,B,q⟩:=xE U;have e:xs=x::y::r:=e;subst e;rcases q with⟨rfl,q⟩|q;exact aDN (I.e M B RT Y old Z) (zH (L.e M q RT Y old Z));exact aDN (I.e M B RT Y old Z) (L.e M q RT Y old Z);obtain⟨⟨o,xs,pos⟩,rfl,_⟩:=aB h;exact(W M h RT Y old Z).pt
theorem aHN{t a b:E}(U:Q3 P n t)(I:Q3 P n a)(L:Q3 P n b):Q3 P n (.ife t a b):=Q3.of (λ{X Γ} M {e} h RT Y old Z=>by
 obtain⟨⟨t',W,b'⟩,q,g⟩:=aB h;clear h;obtain⟨p,rfl⟩:=q;have h:=g;clear g;obtain⟨q,B,G⟩:=dS h;exact aHo (U.t M q RT Y old Z) (I.e M B RT Y old Z) (L.e M G RT Y old Z)) (λ_=>rfl) rfl
theorem aHO{o:CmpOp}{a b:E}(I:Q3 P n a)(L:Q3 P n b):Q3 P n (.cmp o a b):=by
 have h0:∀{Γ:Ct} {e:A6},aL Γ (.cmp o a b) e=true->∃l r p,e=.Compare l [o] [r] p/\aL Γ a l=true/\aL Γ b r=true:=λ{Γ e} h=>by
  obtain⟨⟨l,os,U⟩,G,g⟩:=aB h;clear h;obtain⟨p,rfl⟩:=G;have h:=g;clear g;rcases os with _|⟨o',_|⟨_,_⟩⟩
  cases h;rcases U with _|⟨r,_|⟨_,_⟩⟩
  cases h;obtain⟨G,B,q⟩:=dS h;have e:o=o':=eq_of_beq G;subst e;exact⟨l,r,p,rfl,B,q⟩;cases h;cases h
 refine⟨λ{X Γ} M {e} h RT Y old Z=>?_,λ{X Γ} M {e} h RT Y old Z=>?_,λ{X Γ} M {o xs pos} h RT Y old Z=>absurd h bN⟩;obtain⟨l,r,p,rfl,B,q⟩:=h0 h;exact aHp M (I.e M B RT Y old Z) (L.e M q RT Y old Z) (aN q);obtain⟨l,r,p,rfl,B,q⟩:=h0 h;exact aHq M (I.e M B RT Y old Z) (L.e M q RT Y old Z) (aN q)
theorem aFD{j:Nat}:Q3 P n (.srtD j):=Q3.of (λ{X Γ} M {e} h RT Y old Z=>by
 obtain⟨⟨f,xs⟩,G,g⟩:=aB h;clear h;obtain⟨p1,p2,rfl⟩:=G;rcases xs with _|⟨s,_|⟨_,_⟩⟩
 cases g;obtain⟨⟨f2,ys⟩,⟨p3,p4,q⟩,g⟩:=aB g;have q:s=.Call (.Name f2 p3) ys [] p4:=q;subst q;obtain⟨G,L,U,W,I⟩:=aBg g;rcases ys with _|⟨x,_|⟨_,_⟩⟩
 cases I;obtain⟨y,⟨p5,B⟩,h6⟩:=aB I;have B:x=.Name y p5:=B;subst B;exact aFA M (eq_of_beq G) L (eq_of_beq U) W h6;cases I;cases g) (λ_=>rfl) rfl
theorem aHP{a:E}(W:Q3 P n a):Q3 P n (.sst a):=Q3.of (λ{X Γ} M {e} h RT Y old Z=>by
 obtain⟨⟨f,xs⟩,G,g⟩:=aB h;clear h;obtain⟨p1,p2,rfl⟩:=G;rcases xs with _|⟨s,_|⟨_,_⟩⟩
 cases g;obtain⟨⟨f2,ys⟩,⟨p3,p4,B⟩,g⟩:=aB g;have B:s=.Call (.Name f2 p3) ys [] p4:=B;subst B;obtain⟨G,I,L,U,q⟩:=aBg g;rcases ys with _|⟨x,_|⟨_,_⟩⟩
 cases q;exact aHJ M (eq_of_beq G) I (eq_of_beq L) U (W.e M q RT Y old Z) (aN q);cases q;cases g) (λ_=>rfl) rfl
theorem aHQ{o:Operator}{a b:E}(ha:Q3 P n a)(hb:Q3 P n b):Q3 P n (.sop o a b):=Q3.of (λ{X Γ} M {e} h RT Y old Z=>by
 obtain⟨⟨f,xs⟩,U,g⟩:=aB h;clear h;obtain⟨p1,p2,rfl⟩:=U;rcases xs with _|⟨s,_|⟨_,_⟩⟩
 cases g;obtain⟨⟨l,o',r⟩,⟨p3,G⟩,g⟩:=aB g;have G:s=.BinOp l o' r p3:=G;subst G;obtain⟨⟨f1,ys⟩,⟨p4,p5,I⟩,g⟩:=aB g;have I:l=.Call (.Name f1 p4) ys [] p5:=I;subst I;obtain⟨⟨f2,zs⟩,⟨p6,p7,L⟩,g⟩:=aB g;have L:r=.Call (.Name f2 p6) zs [] p7:=L;subst L;obtain⟨g,B⟩:=cO g;obtain⟨g,h7⟩:=cO g;obtain⟨g,h6⟩:=cO g;obtain⟨U,h2,h3,h4,h5⟩:=aBg g;have e5:o=o':=eq_of_beq h3;subst e5;rcases ys with _|⟨x,_|⟨_,_⟩⟩
 cases B;rcases zs with _|⟨y,_|⟨_,_⟩⟩
 cases B;obtain⟨W,q⟩:=cO B;exact aHK M (eq_of_beq U) h2 (eq_of_beq h4) h5 (eq_of_beq h6) h7 (ha.e M W RT Y old Z) (hb.e M q RT Y old Z) (aN W) (aN q);cases B;cases B;cases g) (λ_=>rfl) rfl
theorem aFE{a:E}{j:Nat}(U:Q3 P n a):Q3 P n (.dnin a j):=by
 have h0:∀{Γ:Ct} {e:A6},aL Γ (.dnin a j) e=true->∃l x p q,e=.Compare l [.NotIn] [.Name x q] p/\aL Γ a l=true/\bE Γ j x=true:=λ{Γ e} h=>by
  obtain⟨⟨l,os,rs⟩,L,g⟩:=aB h;clear h;obtain⟨p,rfl⟩:=L;have h:=g;clear g;rcases os with _|⟨o',_|⟨_,_⟩⟩
  cases h;rcases rs with _|⟨r,_|⟨_,_⟩⟩
  cases h;obtain⟨L,B,G⟩:=dS h;have e:KU=o':=eq_of_beq L;subst e;obtain⟨x,⟨q,I⟩,W⟩:=aB G;have I:r=.Name x q:=I;subst I;exact⟨l,x,p,q,rfl,B,W⟩;cases h;cases h
 refine⟨λ{X Γ} M {e} h RT Y old Z=>?_,λ{X Γ} M {e} h RT Y old Z=>?_,λ{X Γ} M {o xs pos} h RT Y old Z=>absurd h bN⟩;obtain⟨l,x,p,q,rfl,B,G⟩:=h0 h;exact aEU M G (U.e M B RT Y old Z);obtain⟨l,x,p,q,rfl,B,G⟩:=h0 h;exact aEV M G (U.e M B RT Y old Z)
theorem aHR{a b:E}(I:Q3 P n a)(L:Q3 P n b):Q3 P n (.idx a b):=by
 have k:PEc P n (.idx a b):=λ{X Γ} M {e} h RT Y old Z=>by obtain⟨⟨x,i⟩,q,g⟩:=aB h;clear h;obtain⟨p,rfl⟩:=q;have h:=g;clear g;obtain⟨q,G⟩:=cO h;exact aHr (I.e M q RT Y old Z) (L.e M G RT Y old Z) (aN G)
 refine⟨k,λ{X Γ} M {e} h RT Y old Z=>?_,λ{X Γ} M {o xs pos} h RT Y old Z=>absurd h bN⟩;refine nQ (k M h RT Y old Z) ?_ λp B=>?_;obtain⟨⟨x,i⟩,⟨p,rfl⟩,_⟩:=aB h;intro _;rfl;have B:=RE.bind' (show RE (ev P (call P n) Z a >>= λx=>ev P (call P n) Z b >>= λy=>cS x y >>= λz=>dO z) p from B);show RE (ev P (call P n) Z a >>= λx=>ev P (call P n) Z b >>= λy=>cS x y) _;rw[RE.bind];refine B.mono λx U=>?_;rw[RE.bind];exact(RE.bind' U).mono λy W=>RE.bind' W
theorem aHS{a:E}{lo hi:Es}(L:Q3 P n a)(W:QA P n lo)(U:QA P n hi):Q3 P n (.sli a lo hi):=Q3.of (λ{X Γ} M {e} h RT Y old Z=>by
 obtain⟨⟨x,i⟩,q,g⟩:=aB h;clear h;obtain⟨p,rfl⟩:=q;have h:=g;clear g;obtain⟨⟨l,u⟩,q,g⟩:=aB h;clear h;obtain⟨p2,B⟩:=q;have h:=g;clear g;have B:i=.Slice l u none p2:=B;subst B;obtain⟨q,G,I⟩:=dS h;exact aHy (L.e M q RT Y old Z) (W.o M G RT Y old Z) (U.o M I RT Y old Z)) (λ_=>rfl) rfl
theorem aHT{es:Es}(G:QA P n es):Q3 P n (.tup es):=Q3.of (λ{X Γ} M {e} h RT Y old Z=>by
 obtain⟨xs,q,g⟩:=aB h;clear h;obtain⟨k,p,rfl⟩:=q;have h:=g;clear g;obtain⟨q,B⟩:=cO h;exact aHs (G.a M B RT Y old Z) B (of_decide_eq_true q)) (λ_=>rfl) rfl
theorem aHU{es:Es}(G:QA P n es):Q3 P n (.lst es):=Q3.of (λ{X Γ} M {e} h RT Y old Z=>by
 obtain⟨xs,q,g⟩:=aB h;clear h;obtain⟨p,rfl⟩:=q;have h:=g;clear g;obtain⟨q,B⟩:=cO h;exact aHt (G.a M B RT Y old Z) B (of_decide_eq_true q)) (λ_=>rfl) rfl
theorem aFF{f:Nat}{es:Es}(U:QA P n es):Q3 P n (.call f es):=by
 have k:PEc P n (.call f es):=λ{X Γ} M {e} h RT Y old Z=>by obtain⟨⟨x,xs⟩,q,g⟩:=aB h;clear h;obtain⟨p1,p2,rfl⟩:=q;have h:=g;clear g;obtain⟨q,I,L,B⟩:=aHL h;exact aEW M (eq_of_beq q) I L (U.a M B RT Y old Z) (fF B) B
 refine⟨k,λ{X Γ} M {e} h RT Y old Z=>?_,λ{X Γ} M {o xs pos} h RT Y old Z=>absurd h bN⟩;refine nQ (k M h RT Y old Z) ?_ λp G=>?_;obtain⟨⟨x,xs⟩,⟨p1,p2,rfl⟩,_⟩:=aB h;intro _;rfl;have G:=RE.bind' (show RE (evs P (call P n) Z es >>= λvs=>call P n f (vs.map (·.d)) >>= λr=>dO (dX vs r)) p from G);show RE (evs P (call P n) Z es >>= λvs=>call P n f (vs.map (·.d)) >>= λr=>R.ok (dX vs r)) _;rw[RE.bind];refine G.mono λx W=>?_;rw[RE.bind];exact(RE.bind' W).mono λy hy=>hy
theorem aJP{b:Bi}{es:Es}(ha:QA P n es):Q3 P n (.bi b es):=by
 have k:PEc P n (.bi b es):=λ{X Γ} M {e} h RT Y old Z=>by
  obtain⟨⟨x,xs⟩,q,g⟩:=aB h;clear h;obtain⟨p1,p2,rfl⟩:=q;have h:=g;clear g;obtain⟨h,G⟩:=cO h;obtain⟨q,I,L,U,W⟩:=aBg h;cases xs with
  | nil=>cases W|cons y ys=>exact aJG M q (eq_of_beq I) L U (ha.a M G RT Y old Z) (fF G)
 refine⟨k,λ{X Γ} M {e} h RT Y old Z=>?_,λ{X Γ} M {o xs pos} h RT Y old Z=>absurd h bN⟩;refine nQ (k M h RT Y old Z) ?_ λp B=>?_;obtain⟨⟨x,xs⟩,⟨p1,p2,rfl⟩,_⟩:=aB h;intro _;rfl;have B:=RE.bind' (show RE (evs P (call P n) Z es >>= λvs=>biD b vs >>= λx=>dO x) p from B);show RE (evs P (call P n) Z es >>= λvs=>biD b vs) _;rw[RE.bind];exact B.mono λx hx=>RE.bind' hx
theorem aHV{a:E}{cs:List Cl}(ha:Q3 P n a):Q3 P n (.isi a cs):=by
 have k:PEc P n (.isi a cs):=λ{X Γ} M {e} h RT Y old Z=>by
  obtain⟨⟨f,xs⟩,I,g⟩:=aB h;clear h;obtain⟨p1,p2,rfl⟩:=I;have h:=g;clear g;rcases cs with _|⟨c,_|⟨_,_⟩⟩
  cases h;rcases xs with _|⟨x,_|⟨y,_|⟨_,_⟩⟩⟩
  cases h;cases h;obtain⟨I,h2,h3,h4,B⟩:=aBg h;unfold aDJ at B;split at B;rename_i z p3;obtain⟨q1,q2,q3⟩:=dS B;have L:∃W,sA c=some W:=by cases c <;> first|exact⟨_,rfl⟩|cases h3
  obtain⟨W,L⟩:=L;exact aHu M (eq_of_beq I) h2 L (eq_of_beq q1) q2 q3 (ha.e M h4 RT Y old Z) (aN h4);cases B;cases h;cases h
 refine⟨k,λ{X Γ} M {e} h RT Y old Z=>?_,λ{X Γ} M {o xs pos} h RT Y old Z=>absurd h bN⟩;refine nQ (k M h RT Y old Z) ?_ λp U=>?_;obtain⟨⟨x,xs⟩,⟨p1,p2,rfl⟩,_⟩:=aB h;intro _;rfl;have U:=RE.bind' (show RE (ev P (call P n) Z a >>= λx=>(match isI cs P x.d with|some k=>R.ok k|none=>.bad)) p from U);show RE (ev P (call P n) Z a >>= λx=>(match isI cs P x.d with|some k=>R.ok (Vl.cl (.bl k))|none=>.bad)) _;rw[RE.bind];refine U.mono λx G=>?_;cases q:isI cs P x.d with
 | none=>rw[q] at G;exact G.elim|some k=>rw[q] at G;exact G
theorem aFG{k:Nat}{caps:List Nat}{t:T}{it:Hp.It}{cond:Es}{elt:E}(hi:QI P n it)(hc:QA P n cond)(he:Q3 P n elt):Q3 P n (.comp k caps t it cond elt):=Q3.of (λ{X Γ} M {e} h RT Y old Z=>by
 obtain⟨el,tg,G,q0,scope,pos,rfl,O,I,L,B,U,W⟩:=xD h;refine aFg M (O.scope M) O.ndc O.tk (hi M B RT Y old Z) (λC s₀ H₀ ex=>?_) (iR (gL B));have g:=O.mc M C s₀ H₀ ex;exact⟨aAO g L,λRT Y old q=>hc.ts g I U RT Y old q,λRT Y old q=>he.e g W RT Y old q⟩) (λ_=>rfl) rfl
theorem dC{c:E}(h:∀{Γ:Ct} {e:A6},aL Γ c e=false):Q3 P n c:=
 ⟨λ{X Γ} M {e} z=>absurd (h.symm.trans z) bN,λ{X Γ} M {e} z=>absurd (h.symm.trans z) bN,λ{X Γ} M {o xs pos} z=>absurd (h.symm.trans z) bN⟩
theorem aHW:QA P n .nil:=by
 refine⟨λ{X Γ} M {es} h RT Y old Z=>?_,λ{X Γ} M {e} h RT Y old Z=>?_,λ{X Γ} M {es} g h RT Y old Z=>?_⟩;cases es with
 | nil=>exact aAE|cons _ _=>exact nf h
 cases e with
 | none=>exact aHw|some _=>exact nf h
 cases es with
 | nil=>exact aFe|cons _ _=>exact nf h
theorem aFH{c:E}{cs:Es}(B:Q3 P n c)(hs:QA P n cs):QA P n (.cons c cs):=by
 refine⟨λ{X Γ} M {es} h RT Y old Z=>?_,λ{X Γ} M {e} h RT Y old Z=>?_,λ{X Γ} M {es} G h RT Y old Z=>?_⟩;cases es with
 | nil=>exact nf h|cons e es=>obtain⟨g,q⟩:=cO h;exact pN (B.e M g RT Y old Z) (hs.a M q RT Y old Z) (aN g)
 cases cs with
 | nil=>cases e with|none=>exact nf h|some e=>exact aHx (B.e M (by exact h) RT Y old Z)
 | cons _ _=>cases e <;> exact nf h
 cases es with
 | nil=>exact nf h|cons e es=>
  obtain⟨g,q⟩:=cO h;cases es with
  | nil=>cases cs with|nil=>exact aFf (B.t M g RT Y old Z)|cons _ _=>exact absurd q bN
  | cons _ _=>simp at G
theorem aHX{c:E}(g:Q3 P n c):QI P n (.seq c):=λ{X Γ} M {tg e} h RT Y old Z=>aHA (g.e M (by exact h) RT Y old Z)
theorem aHY{a b:E}(W:Q3 P n a)(L:Q3 P n b):QI P n (.rng a b):=λ{X Γ} M {tg e} h RT Y old Z=>by
 rw[sW] at h;obtain⟨⟨f,xs⟩,G,g⟩:=aB h;clear h;obtain⟨p1,p2,rfl⟩:=G;have h:=g;clear g;obtain⟨G,I,q⟩:=dS h;rcases xs with _|⟨x,_|⟨y,_|⟨_,_⟩⟩⟩
 cases q;obtain⟨q,B⟩:=cO q;have U:a=.c (.int 0):=by unfold uL at q;split at q;rw[eq_of_beq q];cases q
 rw[U];exact aFc M (eq_of_beq G) I (L.e M B RT Y old Z) (aN B);obtain⟨q,B⟩:=cO q;exact aFd M (eq_of_beq G) I (W.e M q RT Y old Z) (L.e M B RT Y old Z) (aN q) (aN B);cases q
theorem aBh{it:Hp.It}(z:∀Γ tt e,chkI Γ tt it e=false):QI P n it:=by intro X Γ M tg e h RT Y old Z;rw[z] at h;cases h
mutual
theorem qE:(c:E)->Q3 P n c
 | .c _=>n_c|.v _=>n_v|.op _ a b=>aJM (qE a) (qE b)|.neg _=>dC rfl|.nt a=>aJN (qE a)|.an a b=>aJO (qE a) (qE b)|.orr a b=>aHM (qE a) (qE b)|.ife t a b=>aHN (qE t) (qE a) (qE b)|.cmp _ a b=>aHO (qE a) (qE b)|.dnin a _=>aFE (qE a)|.dget _ _=>dC rfl|.dlen _=>dC rfl|.din _ _=>dC rfl|.dgd _ _ _=>dC rfl|.srtD _=>aFD|.sst a=>aHP (qE a)|.sop _ a b=>aHQ (qE a) (qE b)|.cmp2 _ _ _ _ _=>dC rfl|.idx a b=>aHR (qE a) (qE b)|.sli a lo hi=>aHS (qE a) (qA lo) (qA hi)|.tup es=>aHT (qA es)|.lst es=>aHU (qA es)|.dic _ _=>dC rfl|.call _ es=>aFF (qA es)|.bi _ es=>aJP (qA es)|.mth _ _ _=>dC rfl|.isi a _=>aHV (qE a)|.attr _ _=>dC rfl|.comp _ _ _ it cond elt=>aFG (qI it) (qA cond) (qE elt)|.numset _=>dC rfl|.tget _ _=>dC rfl|.lzip _ _=>dC rfl
theorem qA:(cs:Es)->QA P n cs
 | .nil=>aHW|.cons c cs=>aFH (qE c) (qA cs)
theorem qI:(it:Hp.It)->QI P n it
 | .seq c=>aHX (qE c)|.rng a b=>aHY (qE a) (qE b)|.zip _ _=>aBh λ_ _ _=>rfl|.enum _=>aBh λ_ _ _=>rfl|.rev _=>aBh λ_ _ _=>rfl
end
theorem sE(c:E):PEc P n c:=(qE c).e
theorem sT(c:E):PTc P n c:=(qE c).t
theorem sTs(cs:Es):∀{X:Cx} {Γ:Ct},Mc X P Γ n->∀{es:List A6},es.length<=1->chkEs Γ cs es=true->∀(RT Y old:Addr->Prop) (Z:Sg),PTs X es (wTs X P n RT Y old Z cs):=(qA cs).ts
theorem sI(it:Hp.It):QI P n it:=qI it
end
end Hp
end
noncomputable section
set_option maxHeartbeats 4000000
namespace Hp
open PySem PySem.Spec PyProof.Rows L2
noncomputable def cD(K:Fg)(RT Y old:Addr->Prop)(H:Hp)(Z':Sg)(Q:L2.St->Hp->Prop):Prop:=
 ∀(RT':Addr->Prop) (ZV':L2.St) (H':Hp),Kp RT H H'->(∀b,RT' b->RT b\/H b=none)->Sx K RT' Y old Z' ZV' H'->Q ZV' H'
noncomputable def Rtv(K:Fg)(Y old:Addr->Prop)(H':Hp)(v:Vl)(u:V):Prop:=
 if v.fr=true then ∃a xs ds,u=.ref a/\v.d=.lst ds/\¬ old a/\H' a=some (.lst xs)/\Reps K H' (λb=>b=a\/exB Y old v.pa b) ds xs
 else Rep K H' (exB Y old v.pa) v.d u
noncomputable def mF(K:Fg)(RT Y old:Addr->Prop)(H:Hp)(v:Vl)(Q:VK):Prop:=∀(u:V) (H':Hp),Kp RT H H'->Tk K H'->Rtv K Y old H' v u->Q u H'
noncomputable def OE(K:Fg)(RT Y old:Addr->Prop)(H:Hp)(o:O)(D:Ends):Prop:=match o with|.next Z'=>cD K RT Y old H Z' D.nx|.brk Z'=>cD K RT Y old H Z' D.bk|.cnt Z'=>cD K RT Y old H Z' D.ct|.ret v=>mF K RT Y old H v D.rt|.exc _ _=>False|.bad=>False
noncomputable def wS(X:Cx)(RT Y old:Addr->Prop)(Z:Sg)(o:O):TS:=λD ZV H=>Sx X.K RT Y old Z ZV H/\OE X.K RT Y old H o D
section
variable {K:Fg} {RT RT' RT'' Y old:Addr->Prop} {Z:Sg} {ZV:L2.St} {H H1 H2:Hp} {o:O} {D D':Ends}
theorem Kp.chain(a:Kp RT H H1)(s:∀b,RT' b->RT b\/H b=none)(b:Kp RT' H1 H2):Kp RT H H2:=λc o e n=>b c o (a c o e n) λz=>(s c z).elim n λq=>by rw[q] at e;cases e
theorem jB(a:Kp RT H H1)(s1:∀b,RT' b->RT b\/H b=none)(s2:∀b,RT'' b->RT' b\/H1 b=none):∀b,RT'' b->RT b\/H b=none:=λb z=>by
 rcases s2 b z with q|q;exact s1 b q;by_cases g:RT b;exact .inl g;refine .inr ?_;cases e:H b with
 | none=>rfl|some o=>rw[a b o e g] at q;cases q
theorem cD.mono{Z':Sg}{Q:L2.St->Hp->Prop}(a:Kp RT H H1)(s:∀b,RT' b->RT b\/H b=none)(h:cD K RT Y old H Z' Q):cD K RT' Y old H1 Z' Q:=λg q H2 k n S=>h g q H2 (a.chain s k) (jB a s n) S
theorem OE.mono(a:Kp RT H H1)(s:∀b,RT' b->RT b\/H b=none)(h:OE K RT Y old H o D):OE K RT' Y old H1 o D:=by
 cases o with
 | next Z'=>exact cD.mono a s h|brk Z'=>exact cD.mono a s h|cnt Z'=>exact cD.mono a s h|ret v=>exact λu H2 k t r=>(show mF K RT Y old H v D.rt from h) u H2 (a.chain s k) t r|exc x Z'=>exact h|bad=>exact h
theorem aV:∀b,RT b->RT b\/H b=none:=λ_ z=>.inl z
noncomputable def tkE(K:Fg)(D:Ends):Ends:=⟨λZ H=>Tk K H->D.nx Z H,λv H=>Tk K H->D.rt v H,λZ H=>Tk K H->D.bk Z H,λZ H=>Tk K H->D.ct Z H⟩
theorem OE.from{α:Type}{x:R α}{f:α->O}(h:OE K RT Y old H (O.from Z x f) D):RE x λa=>OE K RT Y old H (f a) D:=by
 cases x with
 | ok a=>exact h|exc e=>exact h|bad=>exact h
end
section
variable {X:Cx} {st:CK} {t t':TS}
theorem aDU{pins:List (Addr×Obj)}{D:Ends}{f:Flow}{g:Ac}(h:SP X pins (tkE X.K D) f g):SP X pins D f g:=by
 cases f with
 | next=>obtain⟨Z',H',I,q⟩:=h;exact⟨Z',H',I,q I.tk⟩|brk=>obtain⟨Z',H',I,q⟩:=h;exact⟨Z',H',I,q I.tk⟩|cont=>obtain⟨Z',H',I,q⟩:=h;exact⟨Z',H',I,q I.tk⟩|ret u=>obtain⟨v,Z',H',I,r,q⟩:=h;exact⟨v,Z',H',I,r,q I.tk⟩
theorem bJ(h:PS X st t)(f:∀D ZV H,Tk X.K H->t' D ZV H->t (tkE X.K D) ZV H):PS X st t':=λpins s ZV H D I g=>thn (h pins s ZV H _ I (f D ZV H I.tk g)) λfl B q=>aDU q
theorem qL{g:List CK}(h:PSs X g t)(f:∀D ZV H,Tk X.K H->t' D ZV H->t (tkE X.K D) ZV H):PSs X g t':=λpins s ZV H D I B=>thn (h pins s ZV H _ I (f D ZV H I.tk B)) λfl G q=>aDU q
theorem xF{Y old:Addr->Prop}{g:List CK}{f:Sg->O}(h:∀RT Z,PSs X g (wS X RT Y old Z (f Z))):PSs X g (λD ZV H=>∃RT Z,wS X RT Y old Z (f Z) D ZV H):=λpins s ZV H D I ⟨RT,Z,q⟩=>h RT Z pins s ZV H D I q
end
section
variable {X:Cx} {P:Pg} {Γ:Ct} {n:Nat} {RT Y old:Addr->Prop} {Z:Sg} {pos:Eg}
theorem cD.tkE{Z':Sg}{Q:L2.St->Hp->Prop}{H:Hp}(h:cD X.K RT Y old H Z' Q):cD X.K RT Y old H Z' λZ H=>Tk X.K H->Q Z H:=λg q H' k n S _=>h g q H' k n S
theorem OE.tkE{o:O}{D:Ends}{H:Hp}(h:OE X.K RT Y old H o D):OE X.K RT Y old H o (tkE X.K D):=by
 cases o with
 | next Z'=>exact cD.tkE h|brk Z'=>exact cD.tkE h|cnt Z'=>exact cD.tkE h|ret v=>exact λu g k t r _=>(show mF X.K RT Y old H v D.rt from h) u g k t r|exc x Z'=>exact h|bad=>exact h
theorem aHZ:PSs X [] (wS X RT Y old Z (exs P (call P n) Z .nil)):=qL aBU λD ZV H t ⟨S,h⟩ _=>(show cD X.K RT Y old H Z D.nx from h) RT ZV H (Kp.refl RT H) aV S
theorem aFI{s:S}{ss:Ss}{x:CK}{xs:List CK}(I:∀RT Z,PS X x (wS X RT Y old Z (ex P (call P n) Z s)))(L:∀RT Z,PSs X xs (wS X RT Y old Z (exs P (call P n) Z ss))) :
 PSs X (x::xs) (wS X RT Y old Z (exs P (call P n) Z (.cons s ss))):=by
 refine qL (zJ (I RT Z) (xF L)) λD ZV H t ⟨S,h⟩=>?_;have h:OE X.K RT Y old H ((ex P (call P n) Z s).on λZ'=>exs P (call P n) Z' ss) D:=h;refine⟨S,?_⟩;cases q:ex P (call P n) Z s with
 | next Z'=>rw[q] at h;exact λg G H' k M B=>⟨g,Z',B,(OE.mono k M (show OE X.K RT Y old H (exs P (call P n) Z' ss) D from h)).tkE⟩
 | brk Z'=>rw[q] at h;exact OE.tkE (D:=D) (o:=.brk Z') h|cnt Z'=>rw[q] at h;exact OE.tkE (D:=D) (o:=.cnt Z') h|ret v=>rw[q] at h;exact OE.tkE (D:=D) (o:=.ret v) h|exc e Z'=>rw[q] at h;exact h|bad=>rw[q] at h;exact h
theorem aFJ:PS X (.Pass pos) (wS X RT Y old Z (ex P (call P n) Z .pass)):=bJ aBV λD ZV H t ⟨S,h⟩ _=>(show cD X.K RT Y old H Z D.nx from h) RT ZV H (Kp.refl RT H) aV S
theorem aIa:PS X (.Break pos) (wS X RT Y old Z (ex P (call P n) Z .brk)):=bJ zK λD ZV H t ⟨S,h⟩ _=>(show cD X.K RT Y old H Z D.bk from h) RT ZV H (Kp.refl RT H) aV S
theorem aIb:PS X (.Continue pos) (wS X RT Y old Z (ex P (call P n) Z .cnt)):=bJ rB λD ZV H t ⟨S,h⟩ _=>(show cD X.K RT Y old H Z D.ct from h) RT ZV H (Kp.refl RT H) aV S
theorem aIc{st:CK}{c:Nat}{k:Bool}{es:Es}:PS X st (wS X RT Y old Z (ex P (call P n) Z (.rse c k es))):=bJ zM λD ZV H t ⟨S,h⟩=>by have h:OE X.K RT Y old H (O.from Z (evs P (call P n) Z es) λvs=>.exc (.err c (if k then vs.map (·.d) else [])) Z) D:=h;obtain⟨vs,_,q⟩:=(OE.from h).eq;exact q
theorem xG{pa:Bool}{al:List Nat}{ZV:L2.St}{b:Addr}(h:exB Y old pa b):exV RT Y old Z ZV pa al b:=.inr h
theorem Ro.rtv{H H':Hp}{ZV:L2.St}{v:Vl}{u:V}(S:Sx X.K RT Y old Z ZV H)(ro:Ro X.K RT Y old Z ZV H H' v u):Rtv X.K Y old H' v u:=by unfold Rtv;by_cases g:v.fr=true;rw[if_pos g];obtain⟨s,h⟩:=ro;rw[if_pos g] at h;obtain⟨a,xs,ds,q,B,G,I,r⟩:=h;exact⟨a,xs,ds,q,B,λz=>S.trk a (.inr (.inr z)) G,I,r.weak λb z=>z.elim .inl λz=>.inr (xG z)⟩;rw[if_neg g];exact Rep.weak (ro.rv S) λb z=>xG z
theorem aId{c:E}{e:A6}(q:PE X e (WE X P n RT Y old Z c)):PS X (.Return (some e) pos) (wS X RT Y old Z (ex P (call P n) Z (.ret c))):=by
 refine bJ (zL q) λD ZV H t ⟨S,h⟩=>?_;have h:=OE.from (show OE X.K RT Y old H (O.from Z (ev P (call P n) Z c) .ret) D from h)
 exact wE.one S h λx u H1 B G I g _=>(show mF X.K RT Y old H x D.rt from B) u H1 (Kp.same g.1) G (g.rtv S)
theorem aFK:PS X (.Return none pos) (wS X RT Y old Z (ex P (call P n) Z .retN)):=bJ aBW λD ZV H t ⟨S,h⟩ _=>(show mF X.K RT Y old H (.cl .non) D.rt from h) .non H (Kp.refl RT H) t rfl
theorem aFL{i:Nat}{x:Str}{p:Eg}(M:Mc X P Γ n)(I:bE Γ i x=true):PS X (.Return (some (.Name x p)) pos) (wS X RT Y old Z (ex P (call P n) Z (.retv i))):=by
 have G:PE X (.Name x p) (aBR i):=by unfold bE at I;obtain⟨q,g,B⟩:=dS I;exact iL (by rw[M.N];exact eq_of_beq q) (M.vis g) (aP B) (dD B)
 refine bJ (zL G) λD ZV H t ⟨S,h⟩=>?_;have h:OE X.K RT Y old H (match Z[i]? with|some (.own pa ds)=>.ret ⟨.lst ds,true,pa,[]⟩|_=>O.from Z (cR Z i) .ret) D:=h;unfold cR at h;cases e:Z[i]? with
 | none=>rw[e] at h;exact h.elim|some sl=>
  rw[e] at h;cases sl with
  | dead=>exact h.elim|dct _=>exact h.elim|own pa ds=>obtain⟨a,xs,q,g,B,L,U⟩:=S.own i pa ds e;refine⟨.ref a,q,λ_=>(show mF X.K RT Y old H ⟨.lst ds,true,pa,[]⟩ D.rt from h) _ H (Kp.refl RT H) t ?_⟩;unfold Rtv;rw[if_pos rfl];exact⟨a,xs,ds,rfl,rfl,L,g,U.weak λb z=>z.elim (λz=>.inl (by rw[z];exact B)) .inr⟩|sh pa d=>
   obtain⟨v,q,g⟩:=S.sh i pa d e;refine⟨v,q,λ_=>(show mF X.K RT Y old H ⟨d,false,pa&&!noL d,[]⟩ D.rt from h) v H (Kp.refl RT H) t ?_⟩;unfold Rtv;rw[if_neg bN];show Rep X.K H (exB Y old (pa&&!noL d)) d v;cases W:noL d with
   | true=>exact Rep.free d v W g|false=>refine g.weak λb z=>.inr ?_;rw[Ew,FW] at z;exact z
theorem aJQ{c:E}{e:A6}(q:PE X e (WE X P n RT Y old Z c))(hs:fC e=false):PS X (.Expr e pos) (wS X RT Y old Z (ex P (call P n) Z (.ex c))):=by
 refine bJ (jU q (by cases e <;> first|rfl|cases hs)) λD ZV H t ⟨S,h⟩=>?_;have h:=OE.from (show OE X.K RT Y old H (O.from Z (ev P (call P n) Z c) λ_=>.next Z) D from h)
 exact wE.one S h λx u H1 B I g G _=>(show cD X.K RT Y old H Z D.nx from B) RT ZV H1 (Kp.same G.1) aV g
theorem aJR{c:E}{a b:Ss}{e:A6}{B G:List CK}(M:PT X e (WT X P n RT Y old Z c))(I:∀RT Z,PSs X B (wS X RT Y old Z (exs P (call P n) Z a)))(L:∀RT Z,PSs X G (wS X RT Y old Z (exs P (call P n) Z b))) :
 PS X (.If e B G pos) (wS X RT Y old Z (ex P (call P n) Z (.iff c a b))):=by
 refine bJ (aGB M (I RT Z) (L RT Z)) λD ZV H t ⟨S,h⟩=>?_;have h:=OE.from (show OE X.K RT Y old H (O.from Z (tst P (call P n) Z c) λk=>if k=true then exs P (call P n) Z a else exs P (call P n) Z b) D from h)
 refine⟨S,h.mono λk g H1 q s1=>?_⟩;cases k with
 | true=>rw[if_pos rfl] at g ⊢;exact⟨S.grow s1 q,(OE.mono (Kp.same s1) aV g).tkE⟩|false=>rw[if_neg bN] at g ⊢;exact⟨S.grow s1 q,(OE.mono (Kp.same s1) aV g).tkE⟩
theorem qM{ZV:L2.St}{H H1:Hp}{v:Vl}{u:V}{t:T}{D:Ends}(S:Sx X.K RT Y old Z ZV H)(M:Tk X.K H1)(g:Ro X.K RT Y old Z ZV H H1 v u)(h:OE X.K RT Y old H (O.from Z (setT (freeze Z v.al) v t) .next) D):gT X.K t u ZV H1 D.nx:=by
 obtain⟨Z2,e,B⟩:=(OE.from h).eq;have B:cD X.K RT Y old H Z2 D.nx:=B;clear h;cases t with
 | n i=>obtain⟨I,U,G⟩:=S.store g M i;rw[lL e] at B;exact B I _ H1 (Kp.same g.1) G U|t is=>
  obtain⟨ds,hd,hl,e'⟩:=lK e;have Sf:=(S.grow g.1 M).frz v.al;have hr:Rep X.K H1 (λa=>rtF RT Z ZV v.al a\/exB Y old v.pa a) v.d u:=g.rv S;have q:v.fr=false\/v.fr=true:=by cases v.fr <;> simp
  rcases q with q|q;exact wG Sf q hr e λq0 W _=>B _ _ _ (Kp.same g.1) (λb z=>.inl z.1) W;have:=g.2;rw[if_pos q] at this;obtain⟨a,xs,ds',_,L,_⟩:=this;rw[hd] at L;cases L
theorem aFM{c:E}{e:A6}{i:Nat}{x:Str}{p:Eg}(M:Mc X P Γ n)(q:bB Γ i x=true)(G:PE X e (WE X P n RT Y old Z c))(hs:fC e=false):PS X (.Assign [.Name x p] e pos) (wS X RT Y old Z (ex P (call P n) Z (.set (.n i) c))):=by
 unfold bB at q;obtain⟨B,g,h3⟩:=dS q;refine bJ (oX (i:=i) M.nd (by rw[M.N];exact eq_of_beq B) (M.loc g) G (by cases e <;> first|rfl|cases hs) (M.st x g)) λD ZV H t ⟨S,h⟩=>?_;have h:=OE.from (show OE X.K RT Y old H (O.from Z (ev P (call P n) Z c) λv=>O.from Z (setT (freeze Z v.al) v (.n i)) .next) D from h)
 exact wE.one S h λv u H1 I U W L=>qM (t:=.n i) S U L (OE.tkE I)
theorem aFN{c:E}{e:A6}{is:List Nat}{es:List A6}{k:Nat}{p:Eg}(M:Mc X P Γ n)(B:jP Γ (.t is) (.Tuple es k p)=true)(g:PE X e (WE X P n RT Y old Z c))(hs:lB e=false):PS X (.Assign [.Tuple es k p] e pos) (wS X RT Y old Z (ex P (call P n) Z (.set (.t is) c))):=by
 refine bJ (tW g (aAO M B) (by cases e <;> rfl) (by cases e <;> first|rfl|cases hs)) λD ZV H t ⟨S,h⟩=>?_;have h:=OE.from (show OE X.K RT Y old H (O.from Z (ev P (call P n) Z c) λv=>O.from Z (setT (freeze Z v.al) v (.t is)) .next) D from h)
 exact wE.one S h λv u H1 q I L G=>qM (t:=.t is) S I G (OE.tkE q)
theorem yT{i:Nat}{x:Str}{p G:Eg}(M:Mc X P Γ n)(hx:bB Γ i x=true){k:Nat}{caps:List Nat}{t:T}{it:Hp.It}{cond:Es}{elt:E}{e tg B:A6}{L:List A6}{scope:DB}{N':List Str}(CS:bY X scope k caps N')(q1:caps.Nodup)(hk:∀i∈tIx t,i<k)
 (hi:PI X tg B (wI X P n RT Y old Z it))
 (q0:∀C s₀ H₀ ex,PG (cI X scope N' C s₀ H₀ ex) tg (gT X.K t)/\(∀RT Y old q,PTs (cI X scope N' C s₀ H₀ ex) L (wTs X P n RT Y old q cond))/\∀RT Y old q,PE (cI X scope N' C s₀ H₀ ex) e (WE X P n RT Y old q elt))
 (hs:∀x,Cu B X.env x=pure x):PS X (.Assign [.Name x p] (.ListComp e [⟨tg,B,L,0⟩] scope G) pos) (wS X RT Y old Z (ex P (call P n) Z (.set (.n i) (.comp k caps t it cond elt)))):=by
 unfold bB at hx;obtain⟨W,U,h3⟩:=dS hx;refine bJ (uO (g:=gT X.K t) (tt:=λZV H Q=>∃RT Y old q,wTs X P n RT Y old q cond ZV H Q) (te:=λZV H Q=>∃RT Y old q,WE X P n RT Y old q elt ZV H Q) CS M.calm hi (λC s₀ H₀ ex=>?_) hs M.nd (by rw[M.N];exact eq_of_beq W) (M.loc U) (M.st x U)) λD ZV H t0 ⟨S,h⟩=>?_;obtain⟨W,U,h3⟩:=q0 C s₀ H₀ ex;exact⟨W,λpins s ZV H Q I ⟨RT,Y,old,q,hw⟩=>U RT Y old q pins s ZV H Q I hw,λpins s ZV H Q I ⟨RT,Y,old,q,hw⟩=>h3 RT Y old q pins s ZV H Q I hw⟩;have h:=OE.from (show OE X.K RT Y old H (O.from Z (ev P (call P n) Z (.comp k caps t it cond elt)) λv=>O.from Z (setT (freeze Z v.al) v (.n i)) .next) D from h)
 exact aAQ (Q:=λv H'=>nI i v ZV H' D.nx) q1 hk ⟨S,h.mono λv hv u H1 t1 r1=>qM (t:=.n i) S t1 r1 hv⟩
theorem Sx.mut{K:Fg}{ZV:L2.St}{H:Hp}(S:Sx K RT Y old Z ZV H){i:Nat}{pa pa':Bool}{ds ds':List D}{a:Addr}{g:List V}(e:Z[i]? = some (.own pa ds))(W:ZV[i]? = some (some (.ref a)))(r:Reps K H (λb=>RT b\/exB Y old pa' b) ds' g) :
 Sx K RT Y old (Z.set i (.own pa' ds')) ZV (upd H a (.lst g)):=by
 obtain⟨a',xs,h1,M,h3,h4,h5⟩:=S.own i pa ds e;rw[W] at h1;cases h1;have ks:∀{ex:Addr->Prop},∀b o,H b=some o->(∀ys,o=.lst ys->¬ (RT b\/ex b))->(∀φ,o≠.ext φ)->upd H a (.lst g) b=some o:=λ{ex} b o q hl _=>by rw[aJ λz=>by subst z;rw[M] at q;cases q;exact hl xs rfl (.inl h3)];exact q
 exact {
  sh:=λj G d q=>by
   rcases set_some q with⟨_,z,_⟩|⟨_,q⟩
   cases z;obtain⟨v,L,U⟩:=S.sh j G d q;exact⟨v,L,U.keep ks⟩
  own:=λj G I q=>by
   rcases set_some q with⟨rfl,z,_⟩|⟨q0,q⟩
   cases z;exact⟨a,g,W,bG,h3,h4,r.keep ks⟩;obtain⟨b,ys,L,U,g3,g4,g5⟩:=S.own j G I q;have B:b≠a:=λz=>by subst z;exact q0 (S.inj i j pa G ds I b e q W L)
   exact⟨b,ys,L,by rw[aJ B];exact U,g3,g4,g5.keep ks⟩
  trk:=λb z q=>by by_cases B:b=a;rw[B,bG] at q;cases q;rw[aJ B] at q;exact S.trk b z q
  yo:=S.yo
  tk:=λb z=>by by_cases B:b=a;rw[B];exact S.tk a (by rw[M];simp);rw[aJ B] at z;exact S.tk b z
  rt:=λb z=>by by_cases B:b=a;rw[B];exact .inl ⟨g,bG⟩;unfold RtO;rw[aJ B];exact S.rt b z
  inj:=λj j' G q4 I q3 b q1 q2=>by
   have get:∀{j:Nat} {G:Bool} {I:List D},(Z.set i (.own pa' ds'))[j]? = some (.own G I)->∃p2 d2,Z[j]? = some (.own p2 d2):=λ{j G I} q=>by
    rcases set_some q with⟨rfl,_,_⟩|⟨_,q⟩
    exact⟨pa,ds,e⟩;exact⟨G,I,q⟩
   obtain⟨_,_,z1⟩:=get q1;obtain⟨_,_,z2⟩:=get q2;exact S.inj j j' _ _ _ _ b z1 z2
  len:=by rw[AW];exact S.len
  dx:=S.dx.imp id (λj I q=>by
   rcases set_some q with⟨_,z,_⟩|⟨_,q⟩
   cases z;exact⟨q,rfl⟩) (λ_ _ _ _ _ _ e=>e) (λb ys q z _=>⟨by rw[aJ λw=>by rw[w,M] at q;cases q];exact q,z⟩) λb ks z=>Kp.seqT (R:=λb=>b=a) (λb o q n=>by rw[aJ n];exact q) (λb z=>.inl ⟨xs,by rw[z];exact M⟩) z }
theorem Kp.upd{H H1:Hp}{a:Addr}{xs:List V}(s:aG H H1)(h:RT a):Kp RT H (upd H1 a (.lst xs)):=λb o e g=>by rw[aJ λz=>g (by rw[z];exact h)];exact s b o e
theorem mH{i:Nat}{pa:Bool}{ds:List D}(h:jG Z i=some (pa,ds)):Z[i]? = some (.own pa ds):=by unfold jG at h;split at h;rename_i q;cases h;exact q;cases h
theorem aBi{i:Nat}{v:Vl}{f:List D->Option (List D)}{H:Hp}{D:Ends}(h:OE X.K RT Y old H (put Z i v f) D):∃pa ds ds',Z[i]? = some (.own pa ds)/\i∉v.al/\f ds=some ds'/\ds'.length<=lim/\cD X.K RT Y old H ((freeze Z v.al).set i (.own (pa||v.pa) ds')) D.nx:=by unfold put at h;split at h;rename_i pa ds q;have q:=dJ (mH q);split at h;rename_i ds' B;split at h;rename_i g;exact⟨pa,ds,ds',q.1,q.2,B,g,h⟩;exact h.elim;exact h.elim;exact h.elim
theorem xH{pa g:Bool}{b:Addr}(h:exB Y old (pa||g) b):exB Y old pa b:=h.imp_right λz=>⟨by cases pa <;> simp_all,z.2⟩
theorem xI{pa g:Bool}{b:Addr}(h:exB Y old (pa||g) b):exB Y old g b:=h.imp_right λz=>⟨by cases g <;> simp_all,z.2⟩
theorem kE{i:Nat}{m:Str}{c:A6}{xs:List A6}(h:gX Γ i m c=some xs):∃x p g B,c=.Call (.Attribute (.Name x p) m g) xs [] B/\bE Γ i x=true/\(g.endLine==B.line)=true:=by unfold gX at h;split at h;rename_i x p a g M B;split at h;rename_i q;obtain⟨G,I,L⟩:=dS q;cases h;have e:a=m:=eq_of_beq G;subst e;exact⟨x,p,g,B,rfl,I,L⟩;cases h;cases h
theorem iD{i:Nat}{x:Str}{p:Eg}(M:Mc X P Γ n)(q:bE Γ i x=true):PE X (.Name x p) (aBR i):=by unfold bE at q;obtain⟨B,G,g⟩:=dS q;exact iL (by rw[M.N];exact eq_of_beq B) (M.vis G) (aP g) (dD g)
theorem vF:lim<sizeLine:=by rw[BV];decide
theorem sX{i:Nat}{al:List Nat}{pa:Bool}{ds:List D}{ZV:L2.St}{H H1:Hp}{b:Addr}{xs:List V}(S:Sx X.K RT Y old Z ZV H)(s1:aG H H1)(L:Z[i]? = some (.own pa ds))(G:ZV[i]? = some (some (.ref b)))(I:H b=some (.lst xs)) :
 Reps X.K H1 (λc=>rtF RT Z ZV al c\/exB Y old pa c) ds xs:=by obtain⟨U,M,g,q,W,g4,B⟩:=S.own i pa ds L;rw[G] at g;cases g;rw[I] at q;cases q;exact(B.grow s1).weak λc z=>z.elim (λz=>.inl z.1) .inr
theorem sY{i:Nat}{v:Vl}{pa:Bool}{ds ds':List D}{ZV:L2.St}{H H1:Hp}{b:Addr}{q:List V}{Q:L2.St->Hp->Prop}(S:Sx X.K RT Y old Z ZV H)(s1:aG H H1)(W:Tk X.K H1)(I:Z[i]? = some (.own pa ds))(U:i∉v.al)(G:ZV[i]? = some (some (.ref b)))
 (r:Reps X.K H1 (λc=>rtF RT Z ZV v.al c\/exB Y old (pa||v.pa) c) ds' q) (g:cD X.K RT Y old H ((freeze Z v.al).set i (.own (pa||v.pa) ds')) Q):Q ZV (upd H1 b (.lst q)):=by
 obtain⟨b',xs,B,g2,M,g4,g5⟩:=S.own i pa ds I;rw[G] at B;cases B;have L:(freeze Z v.al)[i]? = some (.own pa ds):=by rw[dI,I];simp[U]
 exact g _ ZV _ (Kp.upd s1 M) (λc z=>.inl z.1) (((S.grow s1 W).frz v.al).mut L G r)
theorem aFO{ZV:L2.St}{H1:Hp}{v:Vl}{u:V}{pa:Bool}(h:Rv X.K RT Y old Z ZV H1 v u):Rep X.K H1 (λc=>rtF RT Z ZV v.al c\/exB Y old (pa||v.pa) c) v.d u:=Rep.weak h λc z=>z.imp id xI
theorem aIe{i:Nat}{c:E}{e a:A6}(M:Mc X P Γ n)(hc:gX Γ i "append" e=some [a])(ha:PE X a (WE X P n RT Y old Z c))(I:aS a=true):PS X (.Expr e pos) (wS X RT Y old Z (ex P (call P n) Z (.app i c))):=by
 obtain⟨x,p,ap,cp,rfl,hx,hl⟩:=kE hc;refine bJ (jU (aDA Eo PySem.F.slot_list_append PySem.F.type_list_append yB (iD M hx) (gO ha kM (aC I)) rfl (by rw[aC I];rfl) hl (aC I) rfl)) λD ZV H t ⟨S,h⟩=>?_;have h:=OE.from (show OE X.K RT Y old H (O.from Z (ev P (call P n) Z c) λv=>put Z i v λds=>some (ds++[v.d])) D from h)
 obtain⟨v,W,h⟩:=h.eq;obtain⟨pa,ds,ds',L,q2,q3,q4,g⟩:=aBi h;cases q3;obtain⟨b,xs,B,G,h3,h4,h5⟩:=S.own i pa ds L;refine⟨.ref b,B,.inl ⟨rfl,xs,SqL.of G⟩,S,?_⟩;rw[W];intro u H1 t1 q;have U:=h5.length;refine⟨b,xs,u,rfl,rfl,q.1 _ _ G,?_,λ_=>?_⟩;rw[lA,GM] at q4;have:=vF;omega;exact sY S q.1 t1 L q2 B (((sX S q.1 L B G).weak λc z=>z.imp id xH).append (.cons (aFO (q.rv S)) .nil)) g
theorem aIf{i:Nat}{c:E}{e a:A6}(M:Mc X P Γ n)(hc:gX Γ i "extend" e=some [a])(ha:PE X a (WE X P n RT Y old Z c))(U:aS a=true):PS X (.Expr e pos) (wS X RT Y old Z (ex P (call P n) Z (.ext i c))):=by
 obtain⟨x,p,ap,cp,rfl,hx,hl⟩:=kE hc;refine bJ (jU (aDA Eo PySem.F.slot_list_extend PySem.F.type_list_extend yC (iD M hx) (gO ha kM (aC U)) rfl (by rw[aC U];rfl) hl (aC U) rfl)) λD ZV H t ⟨S,h⟩=>?_;have h:=OE.from (show OE X.K RT Y old H (O.from Z (ev P (call P n) Z c) λv=>(match kY v with|some (v',ds')=>put Z i v' λds=>some (ds++ds')|none=>.bad)) D from h)
 obtain⟨v,ee,h⟩:=h.eq;unfold kY at h;cases I:v.fr with
 | false=>rw[I] at h;exact h.elim|true=>
  rw[I] at h;cases hd:v.d with
  | lst es=>rw[hd] at h;obtain⟨pa,ds,ds',W,q2,q3,q4,g⟩:=aBi h;cases q3;obtain⟨b,xs,B,G,h3,h4,h5⟩:=S.own i pa ds W;refine⟨.ref b,B,.inl ⟨rfl,xs,SqL.of G⟩,S,?_⟩;rw[ee];intro u H1 t1 q;have hr:=q.2;rw[if_pos I] at hr;obtain⟨a',ys,q5,e1,e2,e3,e4,r⟩:=hr;rw[hd] at e2;cases e2;subst e1;have q0:=h5.length;have L:=r.length;refine⟨b,a',xs,ys,rfl,rfl,q.1 _ _ G,e4,?_,λ_=>?_⟩;rw[lA] at q4;have:=vF;omega;refine sY S q.1 t1 W q2 B (((sX S q.1 W B G).weak λc z=>z.imp id xH).append ?_) g;have rr:=eI (r.weak λb z=>.inr z);exact rr.weak λc z=>z.imp id xI|_=>rw[hd] at h;exact h.elim
theorem sZ{i:Nat}{k:Option Int}{v:Vl}{Z':Sg}(h:gW Z i k=.ok (v,Z')):∃pa ds j d,Z[i]? = some (.own pa ds)/\ixN ds.length (k.getD (-1))=some j/\ds[j]? = some d/\v=Vl.sub ⟨.non,false,pa,[]⟩ d/\Z'=Z.set i (.own pa (ds.eraseIdx j)):=by
 unfold gW at h;cases q:jG Z i with
 | none=>rw[q] at h;cases h|some pd=>
  obtain⟨pa,ds⟩:=pd;rw[q] at h;cases k with
  | none=>
   have h:(match ixN ds.length (-1) with|some j=>(match ds[j]? with|some d=>R.ok (Vl.sub ⟨.non,false,pa,[]⟩ d,Z.set i (.own pa (ds.eraseIdx j)))|none=>.bad)|none=>.bad)=R.ok (v,Z'):=h;cases g:ixN ds.length (-1) with
   | none=>rw[g] at h;cases h|some j=>
    rw[g] at h;have h:(match ds[j]? with|some d=>R.ok (Vl.sub ⟨.non,false,pa,[]⟩ d,Z.set i (.own pa (ds.eraseIdx j)))|none=>.bad)=R.ok (v,Z'):=h;cases hd:ds[j]? with
    | none=>rw[hd] at h;cases h|some d=>rw[hd] at h;cases h;exact⟨pa,ds,j,d,mH q,g,hd,rfl,rfl⟩
  | some k=>
   have h:(match ixN ds.length k with|some j=>(match ds[j]? with|some d=>R.ok (Vl.sub ⟨.non,false,pa,[]⟩ d,Z.set i (.own pa (ds.eraseIdx j)))|none=>.bad)|none=>.bad)=R.ok (v,Z'):=h;cases g:ixN ds.length k with
   | none=>rw[g] at h;cases h|some j=>
    rw[g] at h;have h:(match ds[j]? with|some d=>R.ok (Vl.sub ⟨.non,false,pa,[]⟩ d,Z.set i (.own pa (ds.eraseIdx j)))|none=>.bad)=R.ok (v,Z'):=h;cases hd:ds[j]? with
    | none=>rw[hd] at h;cases h|some d=>rw[hd] at h;cases h;exact⟨pa,ds,j,d,mH q,g,hd,rfl,rfl⟩
theorem aBj{i:Nat}{pa:Bool}{ds:List D}{j:Nat}{d:D}{ZV:L2.St}{H H1:Hp}{b:Addr}{xs:List V}(S:Sx X.K RT Y old Z ZV H)(s1:aG H H1)(t1:Tk X.K H1)(q1:Z[i]? = some (.own pa ds))(U:ZV[i]? = some (some (.ref b)))(W:H b=some (.lst xs))(hd:ds[j]? = some d) :
 ∃y,xs[j]? = some y/\Kp RT H (upd H1 b (.lst (xs.eraseIdx j)))/\Sx X.K RT Y old (Z.set i (.own pa (ds.eraseIdx j))) ZV (upd H1 b (.lst (xs.eraseIdx j))) /\
  Rep X.K (upd H1 b (.lst (xs.eraseIdx j))) (λa=>RT a\/exB Y old (Vl.sub ⟨.non,false,pa,[]⟩ d).pa a) (Vl.sub ⟨.non,false,pa,[]⟩ d).d y:=by
 have B:=S.grow s1 t1;obtain⟨b',q0,G,I,L,g4,M⟩:=B.own i pa ds q1;rw[U] at G;cases G;rw[s1 _ _ W] at I;cases I;obtain⟨y,hy,ry⟩:=M.get hd;refine⟨y,hy,Kp.upd s1 L,B.mut q1 U (M.eraseIdx j),?_⟩;have g:Rep X.K (upd H1 b (.lst (xs.eraseIdx j))) (λa=>RT a\/exB Y old pa a) d y:=ry.keep λc o e hl _=>by rw[aJ λz=>by subst z;rw[s1 _ _ W] at e;cases e;exact hl xs rfl (.inl L)];exact e
 unfold Vl.sub;by_cases q:noL d=true;rw[if_pos q];exact Rep.free d y q g;rw[if_neg q];exact g
noncomputable def aCX(X:Cx)(P:Pg)(n:Nat)(RT Y old:Addr->Prop)(Z:Sg)(i:Nat)(k:Option E):TE:=λZV H Q=>Sx X.K RT Y old Z ZV H/\RE (vT (k.map λe=>ev P (call P n) Z e)) λk=>RE (gW Z i k) λr=>∀u H',Kp RT H H'->Sx X.K RT Y old r.2 ZV H'->Rep X.K H' (λa=>RT a\/exB Y old r.1.pa a) r.1.d u->Q u H'
theorem aBk{i:Nat}{e:A6}(M:Mc X P Γ n)(hc:gX Γ i "pop" e=some []):PE X e (aCX X P n RT Y old Z i none):=by
 obtain⟨x,p,ap,cp,rfl,hx,hl⟩:=kE hc;refine(aED Eo PySem.F.slot_list_pop PySem.F.type_list_pop aEE (iD M hx) rfl hl).imp λZV H Q t ⟨S,h⟩=>?_;obtain⟨⟨v,Z'⟩,ep,h⟩:=(show RE (gW Z i none) _ from h).eq;obtain⟨pa,ds,j,d,L,g,hd,W,e2⟩:=sZ ep;obtain⟨b,xs,G,B,h3,h4,h5⟩:=S.own i pa ds L;obtain⟨y,hy,kp,U,ry⟩:=aBj S (aG.refl H) t L G B hd;have I:=h5.length;have q:j=xs.length-1:=by unfold ixN at g;rw[EC,if_neg (by decide)] at g;split at g;have:=Av g;omega;cases g
 refine⟨.ref b,G,.inl ⟨rfl,xs,SqL.of B⟩,b,xs,y,rfl,rfl,B,by rw[<-q];exact hy,λ_=>?_⟩;rw[<-kP,<-q];subst W e2;exact h y _ kp U ry
theorem aFP{i:Nat}{k:Option E}{e:A6}(q:PE X e (aCX X P n RT Y old Z i k))(hs:fC e=false):PS X (.Expr e pos) (wS X RT Y old Z (ex P (call P n) Z (.pop none i k))):=by
 refine bJ (jU q (by cases e <;> first|rfl|cases hs)) λD ZV H t ⟨S,h⟩=>?_;have h:=OE.from (show OE X.K RT Y old H (O.from Z (vT (k.map λe=>ev P (call P n) Z e)) λk=>O.from Z (gW Z i k) λ(v,Z')=>.next Z') D from h)
 exact⟨S,h.mono λk B=>(OE.from B).mono λr G u H' kp g I _=>(show cD X.K RT Y old H r.2 D.nx from G) RT ZV H' kp aV g⟩
theorem aFQ{i:Nat}{k:Option E}{tt:T}{e tg:A6}(M:Mc X P Γ n)(G:jP Γ tt tg=true)(he:PE X e (aCX X P n RT Y old Z i k))(hs:fC e=false)(B:lB e=false):PS X (.Assign [tg] e pos) (wS X RT Y old Z (ex P (call P n) Z (.pop (some tt) i k))):=by
 have key:∀(D:Ends) (ZV:L2.St) (H:Hp),wS X RT Y old Z (ex P (call P n) Z (.pop (some tt) i k)) D ZV H->aBY (aCX X P n RT Y old Z i k) (gT X.K tt) D ZV H:=λD ZV H ⟨S,h⟩=>by
  have h:=OE.from (show OE X.K RT Y old H (O.from Z (vT (k.map λe=>ev P (call P n) Z e)) λk=>O.from Z (gW Z i k) λ(v,Z')=>O.from Z' (setT Z' v tt) .next) D from h)
  refine⟨S,h.mono λk hk=>?_⟩;obtain⟨⟨v,Z'⟩,ep,q⟩:=(OE.from hk).eq;rw[ep];intro u H' kp L ry;obtain⟨W,e2,q⟩:=(OE.from (show OE X.K RT Y old H (O.from Z' (setT Z' v tt) .next) D from q)).eq;obtain⟨pa,ds,j,d,q1,hj,hd,e3,e4⟩:=sZ ep;exact wG L (by rw[e3];exact pQ) ry e2 λg U _=>(show cD X.K RT Y old H W D.nx from q) RT g H' kp aV U
 refine bJ (tW he (aAO M G) (by cases e <;> first|rfl|cases hs) (by
  cases tg with
  | Tuple es k p=>cases e <;> first|rfl|cases B
  | List es p=>cases tt <;> cases G|_=>rfl) (by cases tg <;> first|rfl|(cases tt <;> cases G))) λD ZV H t I=>key _ ZV H ⟨I.1,OE.tkE I.2⟩
theorem Sx.move{K:Fg}{ZV:L2.St}{H:Hp}(S:Sx K RT Y old Z ZV H){i j:Nat}{pa:Bool}{ds:List D}{a:Addr}(e:Z[j]? = some (.own pa ds))(q3:i≠j)(W:ZV[j]? = some (some (.ref a))):Sx K RT Y old ((Z.set j .dead).set i (.own pa ds)) (ZV.set i (some (.ref a))) H where
 sh:=λk B d q=>by
  rcases set_some q with⟨_,z,_⟩|⟨g,q⟩
  cases z;rcases set_some q with⟨_,z,_⟩|⟨L,q⟩
  cases z;obtain⟨v,I,M⟩:=S.sh k B d q;exact⟨v,by rw[Aq g];exact I,M⟩
 own:=λk B G q=>by
  rcases set_some q with⟨rfl,z,U⟩|⟨g,q⟩
  cases z;obtain⟨b,xs,I,M,g3⟩:=S.own j pa ds e;rw[W] at I;cases I;rw[AW] at U;exact⟨a,xs,AU (by rw[<-S.len];exact U),M,g3⟩;rcases set_some q with⟨_,z,_⟩|⟨L,q⟩
  cases z;obtain⟨b,xs,I,M⟩:=S.own k B G q;exact⟨b,xs,by rw[Aq g];exact I,M⟩
 trk:=S.trk
 yo:=S.yo
 tk:=S.tk
 rt:=S.rt
 inj:=λk k' B q4 G q0 b q1 q2 v1 v2=>by
  have get:∀{k:Nat} {B:Bool} {G:List D},((Z.set j .dead).set i (.own pa ds))[k]? = some (.own B G)->(ZV.set i (some (.ref a)))[k]? = some (some (.ref b))->(k=i/\b=a)\/(k≠i/\k≠j/\Z[k]? = some (.own B G)/\ZV[k]? = some (some (.ref b))):=λ{k B G} q v=>by
   rcases set_some q with⟨rfl,z,U⟩|⟨g,q⟩
   rw[AW] at U;rw[AU (by rw[<-S.len];exact U)] at v;cases v;exact .inl ⟨rfl,rfl⟩;rcases set_some q with⟨_,z,_⟩|⟨L,q⟩
   cases z;rw[Aq g] at v;exact .inr ⟨DR g,DR L,q,v⟩
  rcases get q1 v1 with⟨e1,b1⟩|⟨g,m1,o1,w1⟩
  rcases get q2 v2 with⟨e2,_⟩|⟨L,m2,o2,w2⟩
  rw[e1,e2];subst b1;exact absurd (S.inj k' j _ _ _ _ b o2 e w2 W) m2;rcases get q2 v2 with⟨e2,b2⟩|⟨L,m2,o2,w2⟩
  subst b2;exact absurd (S.inj k j _ _ _ _ b o1 e w1 W) m1;exact S.inj k k' _ _ _ _ b o1 o2 w1 w2
 len:=by rw[AW,AW,AW];exact S.len
 dx:=S.dx.imp id (λk G q=>by
  rcases set_some q with⟨_,z,_⟩|⟨g,q⟩
  cases z;rcases set_some q with⟨_,z,_⟩|⟨L,q⟩
  cases z;exact⟨q,Aq g⟩) (λ_ _ _ _ _ _ e=>e) (λ_ _ e z _=>⟨e,z⟩) λ_ _ r=>r
theorem aIg{i j:Nat}{x y:Str}{p p2:Eg}(M:Mc X P Γ n)(I:bB Γ i x=true)(W:bE Γ j y=true):PS X (.Assign [.Name x p] (.Name y p2) pos) (wS X RT Y old Z (ex P (call P n) Z (.mov i j))):=by
 unfold bB at I;obtain⟨L,G,h3⟩:=dS I;refine bJ (oX (i:=i) M.nd (by rw[M.N];exact eq_of_beq L) (M.loc G) (iD M W) rfl (M.st x G)) λD ZV H t ⟨S,h⟩=>?_;have h:OE X.K RT Y old H (match Z[j]? with
  | some (.own pa ds)=>if i=j then .bad else .next ((Z.set j .dead).set i (.own pa ds))|some (.sh pa d)=>.next (Z.set i (.sh (pa&&!noL d) d))|_=>.bad) D:=h
 cases e:Z[j]? with
 | none=>rw[e] at h;exact h.elim|some sl=>
  rw[e] at h;cases sl with
  | dead=>exact h.elim|dct _=>exact h.elim|own pa ds=>by_cases g:i=j;have h:OE X.K RT Y old H (if i=j then .bad else .next ((Z.set j .dead).set i (.own pa ds))) D:=h;rw[if_pos g] at h;exact h.elim;have h:OE X.K RT Y old H (if i=j then .bad else .next ((Z.set j .dead).set i (.own pa ds))) D:=h;rw[if_neg g] at h;obtain⟨a,xs,q,B⟩:=S.own j pa ds e;exact⟨.ref a,q,λ_=>(show cD X.K RT Y old H _ D.nx from h) RT _ H (Kp.refl RT H) aV (S.move e g q)⟩|sh pa d=>
   obtain⟨v,q,B⟩:=S.sh j pa d e;refine⟨v,q,λ_=>(show cD X.K RT Y old H (Z.set i (.sh (pa&&!noL d) d)) D.nx from h) RT _ H (Kp.refl RT H) aV (S.setSh ?_)⟩;cases U:noL d with
   | true=>exact Rep.free d v U B|false=>rw[Ew,FW];exact B
theorem aIh{t:T}{it:Hp.It}{b:Ss}{tg q4:A6}{body:List CK}(M:Mc X P Γ n)(hx:jP Γ t tg=true)(hi:PI X tg q4 (wI X P n RT Y old Z it))(hb:∀RT Z,PSs X body (wS X RT Y old Z (exs P (call P n) Z b)))(hs:∀x,Cu q4 X.env x=pure x) :
 PS X (.For tg q4 body [] pos) (wS X RT Y old Z (ex P (call P n) Z (.for t it b))):=by
 have hp:PassesOwn (A4 X.prog X.w) X.A X.env X.xe:=by rw[M.xe];exact LR
 refine bJ (aEn hp M.calm hi (aAO M hx) (xF hb) hs) λD0 ZV H t0 ⟨S,h⟩=>?_;have h:=OE.tkE h;revert h;generalize tkE X.K D0=D;intro h
 let f:Sg->Vl->O:=λZ x=>O.from Z (setT Z x t) λZ'=>exs P (call P n) Z' b
 have h:=OE.from (show OE X.K RT Y old H (O.from Z (walk P (call P n) Z it) λxs=>dY f xs.1 (freeze Z xs.2)) D from h)
 refine⟨S,h.mono λxs hx J H1 t1 s1 ok=>?_⟩;have S1:=S.grow s1 t1;have Sf:=S1.frz xs.2;refine⟨λi m q6 W=>m=xs.1.length-i/\i<=xs.1.length/\∃g B,Kp (rtF RT Z ZV xs.2) H1 W/\(∀b,g b->rtF RT Z ZV xs.2 b\/H1 b=none)/\Sx X.K g Y old B q6 W/\OE X.K g Y old W (dY f (xs.1.drop i) B) D,
  ⟨_,rfl,AS _,rtF RT Z ZV xs.2,freeze Z xs.2,Kp.refl _ _,aV,Sf,OE.mono (Kp.same s1) (λb z=>.inl z.1) hx⟩,?_⟩
 rintro i m q6 W ⟨hm,hi,g,B,kp,q3,Sc,G⟩;have q7:=ok.ok (rtF RT Z ZV xs.2) (λ_ z=>z) i W kp;by_cases q2:i<xs.1.length;refine .inr ⟨q7.1 q2,λZ' H'=>xs.1.length-(i+1)=xs.1.length-(i+1)/\i+1<=xs.1.length/\∃g B,Kp (rtF RT Z ZV xs.2) H1 H'/\(∀b,g b->rtF RT Z ZV xs.2 b\/H1 b=none)/\Sx X.K g Y old B Z' H'/\OE X.K g Y old H' (dY f (xs.1.drop (i+1)) B) D,
  λZ' H' hN=>⟨_,by omega,hN⟩,λx H' hy=>?_⟩
 have w0:xs.1[i]? = some xs.1[i]:=Ah q2;obtain⟨sm,w1,rv⟩:=q7.2.2 x H' hy xs.1[i] w0;have q5:xs.1[i]∈xs.1:=BD q2;rw[DY q2] at G;have q8:=Sc.grow sm (w1 Sc.tk);have rep:Rep X.K H' (λa=>g a\/exB Y old xs.1[i].pa a) xs.1[i].d x:=rv.weak λa z=>by rcases z with z|z;rcases q3 a z with q|q;exact .inl (.inl ⟨q.1,λw=>q.2 (w.mono (ok.sub _ q5))⟩);exact .inr ⟨q,Sc.tk a (Sc.trk a (.inl z))⟩;exact .inl (.inr z)
 have G:OE X.K g Y old W (match f B xs.1[i] with
  | .next Z'=>dY f (xs.1.drop (i+1)) Z'|.cnt Z'=>dY f (xs.1.drop (i+1)) Z'|.brk Z'=>.next Z'|o=>o) D:=G
 cases U:setT B xs.1[i] t with
 | exc e=>rw[show f B xs.1[i]=.exc e B by show O.from B (setT B xs.1[i] t) _=_;rw[U];rfl] at G;exact G.elim|bad=>rw[show f B xs.1[i]=.bad by show O.from B (setT B xs.1[i] t) _=_;rw[U];rfl] at G;exact G.elim|ok Z2=>
  rw[show f B xs.1[i]=exs P (call P n) Z2 b by show O.from B (setT B xs.1[i] t) _=_;rw[U];rfl] at G;refine wG q8 (ok.nofr _ q5) rep U λw3 S2 _=>⟨g,Z2,S2,?_⟩
  have kS:Kp g W H':=Kp.same sm;have q1:∀{Z':Sg} {L:Addr->Prop} {q0:L2.St} {I:Hp},Kp g H' I->(∀b,L b->g b\/H' b=none)->Sx X.K L Y old Z' q0 I->OE X.K g Y old W (dY f (xs.1.drop (i+1)) Z') D ->
   (xs.1.length-(i+1)=xs.1.length-(i+1)/\i+1<=xs.1.length/\∃g B,Kp (rtF RT Z ZV xs.2) H1 I/\(∀b,g b->rtF RT Z ZV xs.2 b\/H1 b=none)/\Sx X.K g Y old B q0 I/\OE X.K g Y old I (dY f (xs.1.drop (i+1)) B) D):=λ{Z' L q0 I} k2 s2 S3 h3=>by have k3:Kp g W I:=kS.chain aV k2;have s3:∀b,L b->g b\/W b=none:=jB kS aV s2;exact⟨rfl,q2,L,Z',kp.chain q3 k3,jB kp q3 s3,S3,OE.mono k3 s3 h3⟩
  cases q:exs P (call P n) Z2 b with
  | next Z'=>rw[q] at G;exact λL q0 I k2 s2 S3=>q1 k2 s2 S3 G|cnt Z'=>rw[q] at G;exact λL q0 I k2 s2 S3=>q1 k2 s2 S3 G|brk Z'=>rw[q] at G;exact cD.mono kS aV (show cD X.K g Y old W Z' D.nx from G)|ret v=>rw[q] at G;exact OE.mono (o:=.ret v) kS aV G|exc e Z'=>rw[q] at G;exact G.elim|bad=>rw[q] at G;exact G.elim
 have q9:i=xs.1.length:=by omega
 subst q9;rw[Gi] at G;exact .inl ⟨q7.2.1 (Ak _),(show cD X.K g Y old W B D.nx from G) g q6 W (Kp.refl _ _) aV Sc⟩
end
section
variable {X:Cx} {P:Pg} {Γ:Ct} {n:Nat} {RT Y old:Addr->Prop} {Z:Sg} {pos:Eg} {l:Nat} {K:Fg} {H:Hp} {ZV:L2.St}
theorem Sx.putDct(S:Sx K RT Y old Z ZV H){p:Addr}(hn:H p=none){g:List NE}{q0:List (NK×D)}(t:Tk K (upd H p (cB p g)))(q2:g.map pj=q0.map kV)(q3:∀x∈g,aY K H x.1 x.2.1)(i:Nat):Sx K (λb=>RT b\/b=p) Y old (Z.set i (.dct q0)) (ZV.set i (some (.ref p))) (upd H p (cB p g)):=by
 have s:aG H (upd H p (cB p g)):=aG.new hn;have ha:upd H p (cB p g) p=some (cB p g):=bG;have hk:=t p (by rw[ha];simp);have w:∀{pa:Bool} b,(RT b\/b=p)\/exB Y old pa b->b=p\/RT b\/exB Y old pa b:=λ{pa} b z=>by rcases z with(z|z)|z;exact .inr (.inl z);exact .inl z;exact .inr (.inr z)
 exact {
  sh:=λj pa d e=>by
   rcases set_some e with⟨_,z,_⟩|⟨B,e⟩
   cases z;obtain⟨v,U,W⟩:=S.sh j pa d e;exact⟨v,by rw[Aq B];exact U,((W.out hn hk).grow s).weak w⟩
  own:=λj pa ds e=>by
   rcases set_some e with⟨_,z,_⟩|⟨B,e⟩
   cases z;obtain⟨b,ys,U,W,h3,h4,h5⟩:=S.own j pa ds e;exact⟨b,ys,by rw[Aq B];exact U,s _ _ W,.inl h3,h4,((h5.out hn hk).grow s).weak w⟩
  trk:=λb z q=>by rcases z with(z|z)|z;exact S.trk b (.inl z) (s.free q);rw[z,ha] at q;cases q;exact S.trk b (.inr z) (s.free q)
  yo:=S.yo
  tk:=t
  rt:=λb z=>by rcases z with z|z;exact(S.rt b z).grow s;rw[z];exact .inr ⟨g,ha⟩
  inj:=λj j' pa' q1 ds ds' a L G M I=>by
   rcases set_some L with⟨_,e,_⟩|⟨n1,L⟩
   cases e;rcases set_some G with⟨_,e,_⟩|⟨n2,G⟩
   cases e;rw[Aq n1] at M;rw[Aq n2] at I;exact S.inj j j' pa' q1 ds ds' a L G M I
  len:=by rw[AW,AW];exact S.len
  dx:={
   at':=λj ds e=>by
    rcases set_some e with⟨rfl,z,hl⟩|⟨B,e⟩
    cases z;exact⟨p,g,AU (by rw[<-S.len];exact hl),ha,.inr rfl,λz=>S.trk p (.inr (.inr z)) hn,q2,λx hx=>aY.imp (λ_ _ r=>aG.seqT s r) (q3 x hx)⟩;obtain⟨a,xs,U,W,h3,h4,h5,h6⟩:=S.dx.at' j ds e;exact⟨a,xs,by rw[Aq B];exact U,s _ _ W,.inl h3,h4,h5,λx hx=>aY.imp (λ_ _ r=>aG.seqT s r) (h6 x hx)⟩
   inj:=λj j' ds ds' a L G M I=>by
    have fr:∀{j:Nat} {ds:List (NK×D)},Z[j]? = some (.dct ds)->ZV[j]? = some (some (.ref p))->False:=λ{j ds} e q=>by obtain⟨a',q4,U,W,_⟩:=S.dx.at' j ds e;rw[q] at U;cases U;rw[hn] at W;cases W
    rcases set_some L with⟨rfl,e,hl⟩|⟨n1,L⟩
    rcases set_some G with⟨rfl,_,_⟩|⟨n2,G⟩
    rfl;rw[AU (by rw[<-S.len];exact hl)] at M;cases M;rw[Aq n2] at I;exact(fr G I).elim;rw[Aq n1] at M;rcases set_some G with⟨rfl,e,hl⟩|⟨n2,G⟩
    rw[AU (by rw[<-S.len];exact hl)] at I;cases I;exact(fr L M).elim;rw[Aq n2] at I;exact S.dx.inj j j' ds ds' a L G M I } }
theorem aFR{i:Nat}{x:Str}{p L:Eg}(M:Mc X P Γ n)(g:bB Γ i x=true):PS X (.Assign [.Name x p] (.Dict [] [] L) pos) (wS X RT Y old Z (ex P (call P n) Z (.dnew i))):=by unfold bB at g;obtain⟨I,G,U⟩:=dS g;refine bJ (oX (i:=i) M.nd (by rw[M.N];exact eq_of_beq I) (M.loc G) aAd rfl (M.st x G)) λD ZV H t ⟨S,h⟩=>?_;exact λq B t'=>(show cD X.K RT Y old H (Z.set i (.dct [])) D.nx from h) (λb=>RT b\/b=q) _ _ (Kp.same (aG.new B)) (λb z=>z.imp id λz=>by rw[z];exact B) (S.putDct B t' rfl (λx g=>by cases g) i)
theorem Sx.mutD(S:Sx K RT Y old Z ZV H){i:Nat}{kvs B:List (NK×D)}{a:Addr}{xs g:List NE}(e:Z[i]? = some (.dct kvs))(ha:ZV[i]? = some (some (.ref a)))(L:H a=some (cB a xs))(I:RT a)(q0:¬ old a)(r1:g.map pj=B.map kV)(r:∀x∈g,aY K H x.1 x.2.1) :
 Sx K RT Y old (Z.set i (.dct B)) ZV (upd H a (cB a g)):=by
 have kp:Kp (λb=>b=a) H (upd H a (cB a g)):=λb o q n=>by rw[aJ n];exact q
 have hR:∀b,b=a->RtO H b:=λb z=>.inr ⟨xs,by rw[z];exact L⟩;have hl:∀{b:Addr} {ys:List V},H b=some (.lst ys)->b≠a:=λ{b ys} q z=>by rw[z,L] at q;cases q
 exact {
  sh:=λj pb d q=>by
   rcases set_some q with⟨_,z,_⟩|⟨_,q⟩
   cases z;obtain⟨v,g1,W⟩:=S.sh j pb d q;exact⟨v,g1,W.kp kp hR λb z=>.inl (by rw[z];exact I)⟩
  own:=λj pb M q=>by
   rcases set_some q with⟨_,z,_⟩|⟨_,q⟩
   cases z;obtain⟨b,ys,g1,W,g3,g4,g5⟩:=S.own j pb M q;exact⟨b,ys,g1,kp b _ W (hl W),g3,g4,g5.kp kp hR λb z=>.inl (by rw[z];exact I)⟩
  trk:=λb z q=>by by_cases G:b=a;rw[G,bG] at q;cases q;rw[aJ G] at q;exact S.trk b z q
  yo:=S.yo
  tk:=λb z=>by by_cases G:b=a;rw[G];exact S.tk a (by rw[L];simp);rw[aJ G] at z;exact S.tk b z
  rt:=λb z=>by by_cases G:b=a;rw[G];exact .inr ⟨g,bG⟩;unfold RtO;rw[aJ G];exact S.rt b z
  inj:=λj j' pa' U ds ds' b e1 e2 e3 e4=>by
   rcases set_some e1 with⟨_,e,_⟩|⟨n1,e1⟩
   cases e;rcases set_some e2 with⟨_,e,_⟩|⟨n2,e2⟩
   cases e;exact S.inj j j' pa' U ds ds' b e1 e2 e3 e4
  len:=by rw[AW];exact S.len
  dx:={
   at':=λj ds q=>by
    rcases set_some q with⟨rfl,z,_⟩|⟨q3,q⟩
    cases z;exact⟨a,g,ha,bG,I,q0,r1,λx hx=>aY.imp (λ_ _ z=>kp.seqT hR z) (r x hx)⟩;obtain⟨b,ys,h1,h2,h3,h4,h5,h6⟩:=S.dx.at' j ds q;have G:b≠a:=λz=>by subst z;exact q3 (S.dx.inj i j kvs ds b e q ha h1)
    exact⟨b,ys,h1,kp b _ h2 G,h3,h4,h5,λx hx=>aY.imp (λ_ _ z=>kp.seqT hR z) (h6 x hx)⟩
   inj:=λj j' M q4 b q1 q2=>by
    have get:∀{j:Nat} {M:List (NK×D)},(Z.set i (.dct B))[j]? = some (.dct M)->∃d2,Z[j]? = some (.dct d2):=λ{j M} q=>by
     rcases set_some q with⟨rfl,_,_⟩|⟨_,q⟩
     exact⟨kvs,e⟩;exact⟨M,q⟩
    obtain⟨_,z1⟩:=get q1;obtain⟨_,z2⟩:=get q2;exact S.dx.inj j j' _ _ b z1 z2 } }
theorem aFS(ks:List (NK×D))(k:NK×D):aCr (ks.map kV) (kV k)=(putK ks k).map kV:=by
 have e:(ks.map kV).map (·.1)=ks.map (·.1):=by rw[AM];rfl
 unfold aCr putK;rw[e];show(if k.1∈_ then _ else _)=_;split;rw[AM,AM];refine Dl λx _=>?_;show(if x.1=k.1 then _ else _)=kV (if x.1=k.1 then _ else _);split <;> rfl;rw[BM];rfl
theorem putN_mem{xs:List NE}{k:NK}{b:Addr}{v:V}{x:NE}(h:x∈jO xs k b v):(∃y∈xs,y.1=x.1/\y.2.1=x.2.1)\/x=(k,b,v):=by unfold jO at h;split at h;obtain⟨y,g,e⟩:=Ag.mp h;refine .inl ⟨y,g,?_⟩;rw[<-e];split <;> exact⟨rfl,rfl⟩;rcases AO.mp h with z|z;exact .inl ⟨x,z,rfl,rfl⟩;exact .inr (A3.mp z)
theorem aFT{i:Nat}{c:E}{x:Str}{p p2:Eg}{ix v:A6}(M:Mc X P Γ n)(B:bE Γ i x=true)(hk:PE X ix (WE X P n RT Y old Z c))(he:PE X v (WE X P n RT Y old Z (.c (.bl true))))(L:aS ix=true) :
 PS X (.Assign [.Subscript (.Name x p) ix p2] v pos) (wS X RT Y old Z (ex P (call P n) Z (.dput i c))):=by
 refine bJ (tW he (aEm (iD M B) hk (aEH (by have:=M.units;omega)) (by intro _;cases ix <;> first|rfl|cases L)) (by cases v <;> rfl) (by cases v <;> rfl)) λD ZV H t ⟨S,h⟩=>?_;have h:=OE.from (show OE X.K RT Y old H (O.from Z (ev P (call P n) Z c) λv=>(match Z[i]?,eX v.d with
  | some (.dct ks),some k=>if ks.length<lim then .next (Z.set i (.dct (putK ks (k,.bl true)))) else .bad|_,_=>.bad)) D from h)
 obtain⟨kv,ek,h⟩:=h.eq;refine wE.one (p:=λx=>x=.cl (.bl true)) S rfl λw u H1 hw t1 U r1=>?_;subst hw;have hu:u=.bl true:=(r1.rv S)
 subst hu;split at h;rename_i ks k G I;split at h;rename_i hl;obtain⟨ad,xs,W,g2,g3,g4,g5,g6⟩:=S.dx.at' i ks G;refine⟨.ref ad,W,U,?_⟩;rw[ek];intro uk H2 t2 r2;have s2:=r1.1.trans r2.1;have S2:=S.grow s2 t2;obtain⟨b,rfl,hb⟩:=uQ I (r2.rv U);have g:∀x∈xs,aY X.K H2 x.1 x.2.1:=λx B=>aY.imp (λ_ _ r=>aG.seqT s2 r) (g6 x B);have q0:xs.length=ks.length:=by have:=congrArg GW g5;rwa [lM,lM] at this
 refine⟨ad,b,xs,k,rfl,rfl,s2 _ _ g2,g,hb,by have:=vF;omega,λt3=>?_⟩;refine(show cD X.K RT Y old H (Z.set i (.dct (putK ks (k,.bl true)))) D.nx from h) RT _ _ (λb' o q nn=>by rw[aJ λz=>nn (by rw[z];exact g3)];exact s2 _ _ q) aV ?_;refine S2.mutD G W (s2 _ _ g2) g3 g4 (by rw[aAe,g5];exact aFS ks (k,.bl true)) λx B=>?_;rcases putN_mem B with z|z;obtain⟨y,hy,G,I⟩:=z;rw[<-G,<-I];exact g y hy;rw[z];exact hb;exact h.elim;exact h.elim
end
section
variable {P:Pg} {n:Nat} {Y old:Addr->Prop}
theorem aBl{Γ:Ct}{is:List Nat}{tg:A6}(h:jP Γ (.t is) tg=true):∃es k p,tg=.Tuple es k p:=by
 cases tg with
 | Tuple es k p=>exact⟨es,k,p,rfl⟩|_=>cases h
theorem yU{Γ:Ct}{i:Nat}{tg:A6}(h:jP Γ (.n i) tg=true):∃x p,tg=.Name x p/\bB Γ i x=true:=by
 cases tg with
 | Name x p=>exact⟨x,p,rfl,h⟩|_=>cases h
theorem jC{Γ:Ct}{i:Nat}{m:Str}{c:A6}{xs:List A6}(h:gX Γ i m c=some xs):fC c=false/\lB c=false:=by obtain⟨x,p,g,q,rfl,_⟩:=kE h;exact⟨rfl,rfl⟩
theorem yV{Γ:Ct}{c:E}{e:A6}(h:aL Γ c e=true)(g:fC e=true):∃k caps t it cond elt,c=.comp k caps t it cond elt:=by
 cases c with
 | comp k caps t it cond elt=>exact⟨k,caps,t,it,cond,elt,rfl⟩|c d=>rcases(B8 _ _).mp (show(oS (asC e) (eqC d)||oS (asN e) λx=>bX Γ x&&bU x&&oB (Γ.cns.lookup x) (eqK d))=true from h) with h|h;obtain⟨_,⟨_,_,rfl⟩,_⟩:=aB h;cases g;obtain⟨_,⟨_,rfl⟩,_⟩:=aB h;cases g
 | v i=>obtain⟨_,⟨_,rfl⟩,_⟩:=aB h;cases g|op o a b=>obtain⟨_,⟨_,rfl⟩,_⟩:=aB h;cases g|neg _=>cases h|nt a=>obtain⟨_,⟨_,rfl⟩,_⟩:=aB h;cases g|an a b=>obtain⟨_,rfl,_⟩:=aB h;cases g|orr a b=>obtain⟨_,rfl,_⟩:=aB h;cases g|ife t a b=>obtain⟨_,⟨_,rfl⟩,_⟩:=aB h;cases g|cmp o a b=>obtain⟨_,⟨_,rfl⟩,_⟩:=aB h;cases g|dnin a j=>obtain⟨_,⟨_,rfl⟩,_⟩:=aB h;cases g|dget _ _=>cases h|dlen _=>cases h|din _ _=>cases h|dgd _ _ _=>cases h|srtD j=>obtain⟨_,⟨_,_,rfl⟩,_⟩:=aB h;cases g|sst a=>obtain⟨_,⟨_,_,rfl⟩,_⟩:=aB h;cases g|sop o a b=>obtain⟨_,⟨_,_,rfl⟩,_⟩:=aB h;cases g|cmp2 _ _ _ _ _=>cases h|idx a b=>obtain⟨_,⟨_,rfl⟩,_⟩:=aB h;cases g|sli a lo hi=>obtain⟨_,⟨_,rfl⟩,_⟩:=aB h;cases g|tup es=>obtain⟨_,⟨_,_,rfl⟩,_⟩:=aB h;cases g|lst es=>obtain⟨_,⟨_,rfl⟩,_⟩:=aB h;cases g|call f es=>obtain⟨_,⟨_,_,rfl⟩,_⟩:=aB h;cases g|bi b es=>obtain⟨_,⟨_,_,rfl⟩,_⟩:=aB h;cases g|mth _ _ _=>cases h|isi a cs=>obtain⟨_,⟨_,_,rfl⟩,_⟩:=aB h;cases g|numset _=>cases h|tget _ _=>cases h|lzip _ _=>cases h|dic ks vs=>cases h|attr _ _=>cases h
theorem m1{Γ:Ct}{i:Nat}{m:Str}{c:A6}{f:A6->Bool}(h:(match gX Γ i m c with|some [a]=>f a|_=>false)=true):∃a,gX Γ i m c=some [a]/\f a=true:=by split at h;rename_i a q;exact⟨a,q,h⟩;cases h
theorem m0{Γ:Ct}{i:Nat}{m:Str}{c:A6}(h:(match gX Γ i m c with|some []=>true|_=>false)=true):gX Γ i m c=some []:=by split at h;rename_i q;exact q;cases h
abbrev QS(P:Pg)(n:Nat)(Y old:Addr->Prop)(c:S):Prop:=∀{X:Cx} {Γ:Ct},Mc X P Γ n->∀{st:CK},dZ Γ c st=true->∀(RT:Addr->Prop) (Z:Sg),PS X st (wS X RT Y old Z (ex P (call P n) Z c))
abbrev QSs(P:Pg)(n:Nat)(Y old:Addr->Prop)(c:Ss):Prop:=∀{X:Cx} {Γ:Ct},Mc X P Γ n->∀{st:List CK},chkSs Γ c st=true->∀(RT:Addr->Prop) (Z:Sg),PSs X st (wS X RT Y old Z (exs P (call P n) Z c))
theorem aIi{t:T}{e:E}:QS P n Y old (.set t e):=λ{X Γ} M {st} h RT Z=>by
 unfold dZ at h;obtain⟨⟨tg,v⟩,⟨p,rfl⟩,g⟩:=aB h;clear h;obtain⟨h1,I,h3⟩:=dS g;clear g;cases t with
 | n i=>
  obtain⟨x,p,q,hx⟩:=yU h1;have q:tg=.Name x p:=q;subst q;cases hc:fC v with
  | false=>exact aFM M hx (sE e M I RT Y old Z) hc|true=>obtain⟨k,caps,t,it,cond,elt,rfl⟩:=yV I hc;obtain⟨el,tg,G,q0,scope,B,W,O,g1,g2,g3,g4,g5⟩:=xD I;have W:v=.ListComp el [⟨tg,G,q0,0⟩] scope B:=W;subst W;refine yT M hx (O.scope M) O.ndc O.tk (sI it M g3 RT Y old Z) (λC s₀ H₀ ex=>?_) (iR (gL g3));have L:=O.mc M C s₀ H₀ ex;exact⟨aAO L g2,λRT Y old U=>sTs cond L g1 g4 RT Y old U,λRT Y old U=>sE elt L g5 RT Y old U⟩
 | t is=>obtain⟨es,k,p,q⟩:=aBl h1;have q:tg=.Tuple es k p:=q;subst q;refine aFN M h1 (sE e M I RT Y old Z) ?_;have:(false||!lB v)=true:=h3;simpa using this
theorem aIj{i j:Nat}:QS P n Y old (.mov i j):=λ{X Γ} M {st} h RT Z=>by unfold dZ at h;obtain⟨⟨tg,v⟩,⟨p,rfl⟩,g⟩:=aB h;clear h;obtain⟨x,⟨L,q⟩,g⟩:=aB g;obtain⟨y,⟨U,B⟩,g⟩:=aB g;have q:tg=.Name x L:=q;have B:v=.Name y U:=B;subst q B;obtain⟨G,I⟩:=cO g;exact aIg M G I
theorem aFU{i:Nat}:QS P n Y old (.dnew i):=λ{X Γ} M {st} h RT Z=>by unfold dZ at h;obtain⟨⟨tg,v⟩,⟨p,rfl⟩,g⟩:=aB h;clear h;obtain⟨x,⟨L,q⟩,g⟩:=aB g;have q:tg=.Name x L:=q;subst q;obtain⟨G,I⟩:=cO g;obtain⟨_,⟨U,B⟩,_⟩:=aB I;have B:v=.Dict [] [] U:=B;subst B;exact aFR M G
theorem aFV{i:Nat}{e:E}:QS P n Y old (.dput i e):=λ{X Γ} M {st} h RT Z=>by unfold dZ at h;obtain⟨⟨tg,v⟩,⟨p,rfl⟩,g⟩:=aB h;clear h;obtain⟨⟨o,ix⟩,⟨U,q⟩,g⟩:=aB g;obtain⟨x,⟨W,B⟩,g⟩:=aB g;have q:tg=.Subscript o ix U:=q;have B:o=.Name x W:=B;subst q B;obtain⟨I,G,L⟩:=dS g;exact aFT M I (sE e M G RT Y old Z) (sE (.c (.bl true)) M L RT Y old Z) (aN G)
theorem aIk{i:Nat}{e:E}:QS P n Y old (.app i e):=λ{X Γ} M {st} h RT Z=>by unfold dZ at h;obtain⟨c,⟨p,rfl⟩,g⟩:=aB h;obtain⟨a,B,q⟩:=m1 (f:=λa=>aL Γ e a) g;exact aIe M B (sE e M q RT Y old Z) (aN q)
theorem aIl{i:Nat}{e:E}:QS P n Y old (.ext i e):=λ{X Γ} M {st} h RT Z=>by unfold dZ at h;obtain⟨c,⟨p,rfl⟩,g⟩:=aB h;obtain⟨a,B,q⟩:=m1 (f:=λa=>aL Γ e a) g;exact aIf M B (sE e M q RT Y old Z) (aN q)
theorem aCY{i:Nat}:QS P n Y old (.pop none i none):=λ{X Γ} M {st} h RT Z=>by unfold dZ at h;obtain⟨c,⟨p,rfl⟩,g⟩:=aB h;have q:=m0 (Γ:=Γ) (i:=i) (m:= "pop") (c:=c) g;exact aFP (aBk M q) (jC q).1
theorem aCZ{i:Nat}{t:T}:QS P n Y old (.pop (some t) i none):=λ{X Γ} M {st} h RT Z=>by unfold dZ at h;obtain⟨⟨tg,c⟩,⟨p,rfl⟩,g⟩:=aB h;obtain⟨h0,g⟩:=cO g;have q:=m0 g;exact aFQ M h0 (aBk M q) (jC q).1 (jC q).2
theorem aIm{e:E}:QS P n Y old (.ret e):=λ{X Γ} M {st} h RT Z=>by unfold dZ at h;obtain⟨r,⟨p,rfl⟩,g⟩:=aB h;clear h;obtain⟨v,q,g⟩:=aAC g;subst q;exact aId (sE e M g RT Y old Z)
theorem aFW{i:Nat}:QS P n Y old (.retv i):=λ{X Γ} M {st} h RT Z=>by unfold dZ at h;obtain⟨r,⟨p,rfl⟩,g⟩:=aB h;clear h;obtain⟨v,B,g⟩:=aAC g;subst B;obtain⟨x,⟨G,q⟩,g⟩:=aB g;have q:v=.Name x G:=q;subst q;exact aFL M g
theorem aFX:QS P n Y old .retN:=λ{X Γ} M {st} h RT Z=>by
 unfold dZ at h;obtain⟨r,⟨p,rfl⟩,g⟩:=aB h;cases r with
 | none=>exact aFK|some _=>cases g
theorem aIn{c:E}{a b:Ss}(I:QSs P n Y old a)(L:QSs P n Y old b):QS P n Y old (.iff c a b):=λ{X Γ} M {st} h RT Z=>by unfold dZ at h;obtain⟨⟨t,x,y⟩,⟨p,rfl⟩,g⟩:=aB h;obtain⟨q,B,G⟩:=dS g;exact aJR (sT c M q RT Y old Z) (I M B) (L M G)
theorem aIo{t:T}{it:Hp.It}{b:Ss}(L:QSs P n Y old b):QS P n Y old (.for t it b):=λ{X Γ} M {st} h RT Z=>by unfold dZ at h;obtain⟨⟨tg,B,body⟩,⟨p,rfl⟩,g⟩:=aB h;obtain⟨G,q,I⟩:=dS g;exact aIh M G (sI it M q RT Y old Z) (L M I) (iR (gL q))
theorem aIp:QS P n Y old .brk:=λ{X Γ} M {st} h RT Z=>by unfold dZ at h;obtain⟨_,⟨p,rfl⟩,_⟩:=aB h;exact aIa
theorem aIq:QS P n Y old .cnt:=λ{X Γ} M {st} h RT Z=>by unfold dZ at h;obtain⟨_,⟨p,rfl⟩,_⟩:=aB h;exact aIb
theorem aFY:QS P n Y old .pass:=λ{X Γ} M {st} h RT Z=>by unfold dZ at h;obtain⟨_,⟨p,rfl⟩,_⟩:=aB h;exact aFJ
theorem aJS{e:E}:QS P n Y old (.ex e):=λ{X Γ} M {st} h RT Z=>by unfold dZ at h;obtain⟨v,⟨p,rfl⟩,g⟩:=aB h;obtain⟨q,B⟩:=cO g;exact aJQ (sE e M q RT Y old Z) (by simpa using B)
theorem aIr{c:Nat}{k:Bool}{es:Es}:QS P n Y old (.rse c k es):=by intro X Γ M st h RT Z;exact aIc
theorem fJ{c:S}(z:∀Γ st,dZ Γ c st=false):QS P n Y old c:=by intro X Γ M st h RT Z;rw[z] at h;cases h
theorem aIs:QSs P n Y old .nil:=λ{X Γ} M {st} h RT Z=>by
 cases st with
 | nil=>exact aHZ|cons _ _=>exact nf h
theorem aFZ{c:S}{cs:Ss}(B:QS P n Y old c)(hs:QSs P n Y old cs):QSs P n Y old (.cons c cs):=λ{X Γ} M {st} h RT Z=>by
 cases st with
 | nil=>exact nf h|cons x xs=>obtain⟨g,q⟩:=cO h;exact aFI (B M g) (hs M q)
mutual
theorem sS:(c:S)->QS P n Y old c
 | .set _ _=>aIi|.mov _ _=>aIj|.setIx _ _ _=>fJ λ_ _=>rfl|.dnew _=>aFU|.dput _ _=>aFV|.dpv _ _ _=>fJ λ_ _=>rfl|.dfrom _ _=>fJ λ_ _=>rfl|.app _ _=>aIk|.ext _ _=>aIl|.pop none _ none=>aCY|.pop none _ (some _)=>fJ λ_ _=>rfl|.pop (some _) _ none=>aCZ|.pop (some _) _ (some _)=>fJ λ_ _=>rfl|.clr _=>fJ λ_ _=>rfl|.ins _ _ _=>fJ λ_ _=>rfl|.rev _=>fJ λ_ _=>rfl|.appCall _ _ _=>fJ λ_ _=>rfl|.ret _=>aIm|.retv _=>aFW|.retN=>aFX|.iff _ a b=>aIn (sSs a) (sSs b)|.for _ _ b=>aIo (sSs b)|.whl _ _=>fJ λ_ _=>rfl|.brk=>aIp|.cnt=>aIq|.pass=>aFY|.ex _=>aJS|.rse _ _ _=>aIr|.try _ _=>fJ λ_ _=>rfl
theorem sSs:(c:Ss)->QSs P n Y old c
 | .nil=>aIs|.cons c cs=>aFZ (sS c) (sSs cs)
end
end
structure Tx where
 x:Str
 qual:Str
 st:CK
 N:List Str
noncomputable def oF(Γ:Ct)(F:Fn)(t:Tx):Bool:=
 t.N.length==F.ns&&decide (F.np<=F.ns)&&decide t.N.Nodup&&(aX t.st).kind==.function&&!(aX t.st).isCoroutine&&!(aX t.st).isGenerator &&
 ((t.N.take F.np).all λx=>(aX t.st).names.lookup x==some .local||(aX t.st).names.lookup x==some .cell)&&((aX t.st).names.all λp=>p.2 != .free) &&
 chkSs { Γ with N:=t.N,sc:=(aX t.st).names,fn:=true } F.body (fO t.st)
noncomputable def fK(Γ:Ct):List Fn->List Tx->Bool
 | [],[]=>true|F::Fs,t::ts=>oF Γ F t&&fK Γ Fs ts|_,_=>false
theorem eN{Γ:Ct}:∀{g:List Fn} {ts:List Tx},fK Γ g ts=true->∀{f:Nat} {t:Tx},ts[f]? = some t->∃F,g[f]? = some F/\oF Γ F t=true
 | [],[],_,_,_,e=>by simp at e|[],_::_,h,_,_,_=>by cases h|_::_,[],h,_,_,_=>by cases h|F::g,t::ts,h,0,t',e=>by
  obtain⟨q,B⟩:=cO (show(oF Γ F t&&fK Γ g ts)=true from h);have I:t=t':=by simpa using e
  subst I;exact⟨F,rfl,q⟩
 | F::g,t::ts,h,f+1,t',e=>by obtain⟨q,B⟩:=cO (show(oF Γ F t&&fK Γ g ts)=true from h);obtain⟨G,L,M⟩:=eN B (f:=f) (t:=t') (by simpa using e);exact⟨G,by simpa using L,M⟩
section
variable {prog:A0} {w:AR} {K:Fg} {mg:Str->Option Ad} {base:Heap} {P:Pg} {Γ:Ct} {txs:List Tx}
structure Top (prog:A0) (w:AR) (K:Fg) (mg:Str->Option Ad) (P:Pg) (Γ:Ct) (txs:List Tx):Prop where
 fn:∀(f:Nat) (t:Tx),txs[f]? = some t->∃fa fd,mg t.x=some (.ref fa)/\Fun K t.x t.qual t.st fa fd/\∀F,P.fns[f]? = some F->gC K fd (t.N.take F.np) []
 fns:∀(f:Nat) (x:Str),Γ.fns[f]? = some x->∃t,txs[f]? = some t/\t.x=x
 blt:∀x∈bltNames,mg x=none
 cns:∀(x:Str) (d:D),Γ.cns.lookup x=some d->∃u v,mg x=some u/\aQ v u/\∀H ex,Rep K H ex d v
 tab:∀(i:Nat) (x:Str),Γ.tbs[i]? = some x->∃a t,mg x=some (.ref a)/\P.tabs[i]? = some t/\aAu prog w K a t
 chk:fK Γ P.fns txs=true
theorem xJ{k f:Nat}{F:Fn}(g:P.fns[f]? = some F){vs:List V}{H:Hp}{Q:VK}{E:XK}(h:spF K P (k+1) f vs H Q E):vs.length=F.np:=by obtain⟨ds,Y,_,r,B⟩:=h;obtain⟨x,e,_⟩:=B.eq;have e:uJ P (call P k) f ds=.ok x:=e;unfold uJ at e;rw[g] at e;have e:(if ds.length=F.np then _ else R.bad)=R.ok x:=e;split at e;rename_i q;rw[<-r.length];exact q;cases e
theorem aBm{ds:List D}{vs:List V}{H:Hp}{Y:Addr->Prop}{m:Nat}(G:∀a,Y a->H a≠none)(t:Tk K H)(r:Reps K H Y ds vs):Sx K (λ_=>False) Y (λb=>H b≠none) ((ds.map λd=>Sl.sh true d)++An m Sl.dead) (vs.map some++An m none) H:=by
 have len:=r.length;have get:∀{i:Nat} {s:Sl},((ds.map λd=>Sl.sh true d)++An m Sl.dead)[i]? = some s->s=.dead\/∃d,s=.sh true d/\ds[i]? = some d:=λ{i s} e=>by by_cases hi:i<ds.length;rw[AE (by simpa using hi),A5,Ah hi] at e;cases e;exact .inr ⟨ds[i],rfl,Ah hi⟩;rw[AD (by simpa using hi),Cv] at e;split at e;cases e;exact .inl rfl;cases e
 exact {
  sh:=λi pa d e=>by
   rcases get e with z|⟨d',z,q⟩
   cases z;cases z;obtain⟨v,I,rv⟩:=r.get q;have hi:i<vs.length:=(Au.mp I).1;refine⟨v,?_,rv.weak λa z=>?_⟩;rw[AE (by simpa using hi),A5,I];rfl;rcases z with z|z|⟨z,_⟩
   exact z.elim;exact z;cases z
  own:=λi pa ds' e=>by
   rcases get e with z|⟨d',z,q⟩
   cases z;cases z
  trk:=λa z=>by rcases z with z|z|z;exact z.elim;exact G a z;exact z
  yo:=G
  tk:=t
  rt:=λ_ z=>z.elim
  inj:=λi j pa pa' g B a e=>by
   rcases get e with z|⟨d',z,q⟩
   cases z;cases z
  len:=by rw[lA,lA,lM,lM,Be,Be,len]
  dx:={
   at':=λi ds' e=>by
    rcases get e with z|⟨d',z,q⟩
    cases z;cases z
   inj:=λi j g B a e=>by
    rcases get e with z|⟨d',z,q⟩
    cases z;cases z } }
theorem xK{k f:Nat}{t:Tx}{F:Fn}{fa:Addr}{fd:DC}(q0:∀(f:Nat) (x:Str),Γ.fns[f]? = some x->∃fa fd ps,mg x=some (.ref fa)/\DD K (.ref fa)=true/\gC K fd ps []/\jM prog w K mg base CX0 k fa fd ps (spF K P k f))
 (G:∀x∈bltNames,mg x=none) (I:∀(x:Str) (d:D),Γ.cns.lookup x=some d->∃u v,mg x=some u/\aQ v u/\∀H ex,Rep K H ex d v) (U:∀(i:Nat) (x:Str),Γ.tbs[i]? = some x->∃a t,mg x=some (.ref a)/\P.tabs[i]? = some t/\aAu prog w K a t) (h2:Fun K t.x t.qual t.st fa fd) (hF:P.fns[f]? = some F) (hc:oF Γ F t=true) :
 jM prog w K mg base CX0 (k+1) fa fd (t.N.take F.np) (spF K P (k+1) f):=by
 unfold oF at hc;simp only[bA,beq_iff_eq,Ax,Cd,BE,B8,bne_iff_ne,ne_eq] at hc;obtain⟨⟨⟨⟨⟨⟨⟨⟨c1,c2⟩,c3⟩,c4⟩,c5⟩,c6⟩,c7⟩,c8⟩,c9⟩:=hc;have lt:(t.N.take F.np).length=F.np:=by rw[Bo];omega
 have sc:jV t.N (t.N.take F.np) (aX t.st):=⟨c4,c5,c6,c3,by rw[lt],c7,c8⟩
 refine h2.ok sc (λvs H Q E h=>by rw[lt];exact xJ hF h) λcdv A outer s H vs Q E hr h=>?_;have B:=xJ hF h;obtain⟨ds,Y,hY,r,W⟩:=h;have M:Mc (uC CX0 prog w K mg base t.N t.qual (aX t.st) fa cdv A outer s H E).nox P { Γ with N:=t.N,sc:=(aX t.st).names,fn:=true } k:={
  md:=⟨q0,G,I,U⟩
  N:=rfl
  nd:=c3
  sc:=rfl
  calm:=rfl
  room:=hr
  xe:=rfl
  st:=λ_ _=>.inl rfl
  fk:=c4 }
 obtain⟨res,g,W⟩:=W.eq;have g:uJ P (call P k) f ds=.ok res:=g;unfold uJ at g;rw[hF] at g;have g:(if ds.length=F.np then (match exs P (call P k) ((ds.map λd=>Sl.sh true d)++An (F.ns-F.np) Sl.dead) F.body with
  | .ret v=>R.ok (v.d,v.fr,v.pa)|.next _=>R.ok (.non,false,false)|.exc x _=>R.exc x|_=>R.bad) else R.bad)=R.ok res:=g
 have hdl:ds.length=F.np:=by rw[r.length];exact B
 rw[if_pos hdl] at g;refine⟨_,qL (t':=λD ZV H'=>Tk K H'->wS _ (λ_=>False) Y (λb=>H b≠none) ((ds.map λd=>Sl.sh true d)++An (F.ns-F.np) Sl.dead) (exs P (call P k) ((ds.map λd=>Sl.sh true d)++An (F.ns-F.np) Sl.dead) F.body) D ZV H') (sSs (Y:=Y) (old:=λb=>H b≠none) F.body M c9 (λ_=>False) ((ds.map λd=>Sl.sh true d)++An (F.ns-F.np) Sl.dead)) (λD ZV H' tk hw=>⟨(hw tk).1,OE.tkE (hw tk).2⟩),λtk=>⟨?_,?_⟩⟩;have e:L2.start t.N vs=vs.map some++An (F.ns-F.np) none:=by unfold L2.start;rw[B,c1]
 rw[e];exact aBm hY tk r;have same:∀{H':Hp},Kp (λ_=>False) H H'->aG H H':=λk b o e=>k b o e id;show OE K (λ_=>False) Y (λb=>H b≠none) H (exs P (call P k) ((ds.map λd=>Sl.sh true d)++An (F.ns-F.np) Sl.dead) F.body) _;cases q:exs P (call P k) ((ds.map λd=>Sl.sh true d)++An (F.ns-F.np) Sl.dead) F.body with
 | next Z'=>rw[q] at g;cases(show R.ok (D.non,false,false)=R.ok res from g);exact λq2 q3 H' kp sub S'=>W .non H' S'.tk (same kp) (show(if false=true then _ else _) from aGX rfl)|ret v=>
  rw[q] at g;cases(show R.ok (v.d,v.fr,v.pa)=R.ok res from g);refine λu H' kp q1 rt=>W u H' q1 (same kp) ?_;unfold Rr;unfold Rtv at rt;cases L:v.fr with
  | true=>rw[L,if_pos rfl] at rt;obtain⟨a,xs,ds',e1,e2,e3,e4,rr⟩:=rt;exact aJs ⟨a,xs,ds',e1,e2,LB.mp e3,e4,rr⟩|false=>rw[L,if_neg bN] at rt;exact aGX rt
 | brk Z'=>rw[q] at g;cases g|cnt Z'=>rw[q] at g;cases g|exc e Z'=>rw[q] at g;cases g|bad=>rw[q] at g;cases g
theorem aBn(T:Top prog w K mg P Γ txs):∀(k f:Nat) (x:Str),Γ.fns[f]? = some x->∃fa fd ps,mg x=some (.ref fa)/\DD K (.ref fa)=true/\gC K fd ps []/\jM prog w K mg base CX0 k fa fd ps (spF K P k f)
 | 0,f,x,g=>by
  obtain⟨t,q,rfl⟩:=T.fns f x g;obtain⟨fa,fd,I,B,L⟩:=T.fn f t q;obtain⟨F,G,_⟩:=eN T.chk q;have M:∀vs H Q E,¬ spF K P 0 f vs H Q E:=λvs H Q E h=>by obtain⟨ds,Y,_,r,W⟩:=h;exact W
  exact⟨fa,fd,_,I,B.kp,L F G,λvs H Q E h=>absurd h (M vs H Q E),λA outer s H args us vs Q E _ _ _ _ h=>absurd h (M vs H Q E)⟩
 | k+1,f,x,g=>by obtain⟨t,q,rfl⟩:=T.fns f x g;obtain⟨fa,fd,I,B,L⟩:=T.fn f t q;obtain⟨F,G,U⟩:=eN T.chk q;exact⟨fa,fd,_,I,B.kp,L F G,xK (λf x g=>aBn T k f x g) T.blt T.cns T.tab B G U⟩
theorem aGa(T:Top prog w K mg P Γ txs){f:Nat}{t:Tx}{F:Fn}{fa:Addr}{fd:DC}(I:txs[f]? = some t)(q:P.fns[f]? = some F)(B:Fun K t.x t.qual t.st fa fd)(k:Nat):jM prog w K mg base CX0 (k+1) fa fd (t.N.take F.np) (spF K P (k+1) f):=by obtain⟨L,g,G⟩:=eN T.chk I;rw[q] at g;cases g;exact xK (aBn T k) T.blt T.cns T.tab B q G
theorem aGb{k f:Nat}{K:Fg}{H:Hp}{a:Addr}{ns:List Int}(I:aCo H)(B:SqL K H a (ns.map V.int))(h:∃fr pa,call P k f [.lst (ns.map D.int)]=.ok (.bl true,fr,pa)) :
 spF K P k f [.ref a] H (λv _=>v=.bl true) λ_ _ _=>False:=by
 obtain⟨fr,pa,e⟩:=h;have ri:∀(ns:List Int),Reps K H (λ_=>False) (ns.map D.int) (ns.map V.int):=by
  intro ns
  induction ns with
  | nil=>exact .nil|cons i ns G=>exact .cons rfl G
 refine⟨[.lst (ns.map D.int)],λ_=>False,λ_ z=>z.elim,.cons ⟨a,_,rfl,B,id,ri ns⟩ .nil,?_⟩;rw[e];intro u H' _ _ g;unfold Rr at g;cases fr with
 | true=>rw[if_pos rfl] at g;obtain⟨_,_,_,_,q,_⟩:=g;cases q|false=>rw[if_neg bN] at g;exact g
end
end Hp
end
namespace Hh
open PySem PySem.W PySem.Calls PyProof.Rows
noncomputable def go(st:Hj->JT->Option (Hj×JT))(ok:JT->Bool)(n:Nat):Hj->JT->Option Hj:=
 @Nat.rec (λ_=>Hj->JT->Option Hj) (λ_ _=>none) (λ_ ih s t=>match LC t with
  | true=>some s|false=>match ok t with
   | false=>none|true=>match st s t with
    | some (s',t')=>ih s' t'|none=>none) n
theorem kJ{G:String->Option BL}{p:A0}{w:AR}{g:Nat}{q:Option Ad}:∀(n:Nat) (s B:Hj) (t:JT),go (LD (KC G) p w) (KD g q) n s t=some B->topRun G p w g q n s.abs t=some B.abs
 | 0,_,_,_,h=>by cases h|n+1,s,B,t,h=>by
  have h:(match LC t with
   | true=>some s|false=>match KD g q t with
    | false=>none|true=>match LD (KC G) p w s t with
     | some (B,t')=>go (LD (KC G) p w) (KD g q) n B t'|none=>none)=some B:=h
  unfold topRun;cases L:LC t with
  | true=>rw[L] at h;cases h;rfl|false=>
   rw[L] at h;cases I:KD g q t with
   | false=>rw[I] at h;cases h|true=>
    rw[I] at h;cases hs:LD (KC G) p w s t with
    | none=>rw[hs] at h;cases h|some r=>obtain⟨M,U⟩:=r;rw[hs] at h;rw[stepT_spec hs];exact kJ n _ _ _ h
noncomputable def bt(l:List Obj)(n:Nat):Nat->Nat->BT:=
 @Nat.rec (λ_=>Nat->Nat->BT) (λ_ _=>.nil) (λ_ ih a b=>match l[b]? with
  | some o=>.node o (ih (2*a) (a+b)) (ih (2*a) (2*a+b))|none=>.nil) n
noncomputable def aBo{α:Type}(p q:A0)(loose:List Str)(Xt:Ac->Bool)(Yf:Ac->α)(h0:Heap)(s:Ac):=
 ((Kv (GL p.main.body) h0 s.heap&&JU p s.heap&&Lg s&&Lh h0 s.heap),openSeen q loose (GL p.main.body) Xt true s,Yf s)
theorem aDa{p q:A0}{B:List Str}{U:Ac->Bool}{α:Type}{Yf:Ac->α}{W:AR->α}{N g:Nat}{L:Option Ad}{G:JA->BT}{I:Life}(e:opening p=plainProg p.main.scope.names)(hN:Nat.ble 600 N=true)(f:∀s,Km p s=some s)
 (hb:∀P,absHeap (G P) g I=Cn P) (hz:∀P:JA,((Cn P).isNs Bx,(Cn P).objs.size,(Cn P).nsMap Bx "__annotations__")=(true,g,L))
 (h:∀(w:AR) (os:OsState),(go (LD (KC IZ) p w) (KD g L) N ⟨G w.params,g,I,JV [],HV,Ja,os⟩ (LE p)).map (λs=>aBo p q B U Yf (Cn w.params) s.abs)=some (true,openGood q B,W w)):LT p q B U Yf W N:=λw=>by
 obtain⟨⟨hh,gs,d,k,os⟩,e1,e2⟩:=Bt.mp (boot_open e hN f w);simp only[Ef] at e2;obtain⟨rfl,rfl,rfl,rfl⟩:=e2;obtain⟨s,g1,M⟩:=Bt.mp (h w os);have r:=kJ N _ _ _ g1;have r:topRun IZ p w g L N ⟨Cn w.params,JV [],HV,Ja,os⟩ (LE p)=some s.abs:=by rw[<-hb];exact r
 have z:=hz w.params;simp only[Ef] at z;obtain⟨z1,z2,z3⟩:=z;unfold aBo at M;simp only[Ef] at M;obtain⟨l1,l2,l3⟩:=M;have t:LF IZ p w N ⟨Cn w.params,JV [],HV,Ja,os⟩=some s.abs:=by unfold LF;dsimp only;rw[z1,z2,z3,r];show(match Kv (GL p.main.body) (Cn w.params) s.abs.heap&&JU p s.abs.heap&&Lg s.abs&&Lh (Cn w.params) s.abs.heap with|true=>_|false=>_)=_;rw[l1]
 unfold openEnds;rw[e1];show(LF IZ p w N _).map _=_;rw[t];exact congrArg some (KM l2 l3)
noncomputable def T0(P:JA):BT:=bt (Cn P).objs.toList 5 1 0
theorem aGc:∀P,absHeap (T0 P) 11 {}=Cn P:=λP=>by kernel_rfl
theorem aDb:∀P:JA,((Cn P).isNs Bx,(Cn P).objs.size,(Cn P).nsMap Bx "__annotations__")=(true,11,some (.ref 6)):=λP=>by kernel_rfl
abbrev aIt:=@PySem.W.Fast.tw10156331382660048174
abbrev qOk:=@PySem.W.Fast.tw6613529449190102663
abbrev aJT:=@PySem.W.Fast.tw11892475500146522536
abbrev aJU:=@PySem.W.Fast.tw14364793385576792824
abbrev aIu:=@PySem.W.Fast.tw4187177175401517315
abbrev aIv:=@PySem.W.Fast.tw5923862056798008813
noncomputable def aJV{α:Type}(p q:A0)(loose:List Str)(Yf:Ac->α)(N:Nat)(w:AR)(os:OsState):=
 (go (aIt (aJT aJU) p w) (qOk 11 (some (.ref 6))) N ⟨T0 w.params,11,{},JV [],HV,Ja,os⟩ (LE p)).map λs=>((Kv (aIv p.main.body) (Cn w.params) s.abs.heap&&JU p s.abs.heap&&Lg s.abs&&Lh (Cn w.params) s.abs.heap),aIu q loose (aIv p.main.body) (λ_=>true) true s.abs,Yf s.abs)
theorem aGd{p q:A0}{g:List Str}{α:Type}{G:Ac->α}{B:AR->α}{N:Nat}(e:opening p=plainProg p.main.scope.names)(I:Nat.ble 600 N=true)(f:∀s,Km p s=some s)
 (h:∀w os,aJV p q g G N w os=some (true,openGood q g,B w)):LT p q g (λ_=>true) G B N:=by refine aDa e I f aGc aDb λw os=>?_;unfold aBo;rw[H9,HW,HA,HB,HX,HY];exact h w os
end Hh
namespace Hh
open PySem PySem.W PySem.Calls PyProof.Rows L2 Hp
noncomputable def mI(h:Heap):A1:=(AA h.objs.size).filterMap λa=>(h.get? a).map λo=>(a,o)
theorem mJ{α:Type}(f:Nat->Option α)(a:Nat):∀n,((AA n).filterMap λi=>(f i).map λo=>(i,o)).lookup a=if a<n then f a else none
 | 0=>rfl|n+1=>by
  rw[Jw,List.filterMap_append,List.lookup_append,mJ f a n];by_cases h:a<n;rw[if_pos h,if_pos (B2 h)];cases q:f a with
  | some o=>rfl|none=>
   have g:(a==n)=false:=beq_eq_false_iff_ne.mpr (A8 h);cases B:f n with
   | none=>simp[B]|some o=>simp[B,FP,g]
  rw[if_neg h];by_cases e:a=n;subst e;rw[if_pos (Ck _)];cases q:f a with
  | none=>simp[q]|some o=>simp[q,FP]
  rw[if_neg (by omega)];have g:(a==n)=false:=beq_eq_false_iff_ne.mpr e;cases B:f n with
  | none=>simp[B]|some o=>simp[B,FP,g]
theorem cZ(h:Heap)(a:Addr):(mI h).lookup a=h.get? a:=by
 unfold mI;rw[mJ];by_cases q:a<h.objs.size;rw[if_pos q];rw[if_neg q];cases e:h.get? a with
 | none=>rfl|some o=>exact absurd (Ap e) q
theorem xL{h h':Heap}(k:∀b o,h.get? b=some o->h'.get? b=some o):(mI h).In h':=λa o e=>k a o (by rw[<-cZ];exact e)
noncomputable def mK(h:Heap)(x:Str):Option (Option Ad):=match h.get? Bx with
 | some ⟨_,_,.dict es _,_⟩=>(match es.toList.find? (λe=>match e.key with|.str y _=>IF y x|_=>false) with
  | some e=>some (some e.val)|none=>if es.toList.any (·.refKey) then none else some none)
 | _=>none
theorem aBp(v:Ad)(x:Str):v.isStr x=(match v with|.str y _=>IF y x|_=>false):=by
 cases v with
 | str y t=>show(y==x)=IF y x;rw[Jl,beq_iff_eq,KF]|_=>rfl
theorem fV(h:Heap)(x:Str):nsIn (mI h) Bx x=mK h x:=by unfold nsIn mK;rw[cZ];simp only[aBp];rfl
noncomputable def mL(h:Heap)(cd:Ad):Option Str:=match cd with
 | .ref c=>(match h.get? c with
  | some ⟨_,_,.fields vs,_⟩=>(match vs.toList with|_::.str n _::_=>some n|_=>none)
  | _=>none)
 | _=>none
theorem yW{h:Heap}{g:Ad}{q:Str}(e:mL h g=some q):codeIn (mI h) g q=true:=by unfold mL at e;unfold codeIn;split at e;rename_i c;simp only[cZ];split at e;rename_i vs _ B;rw[B];split at e;rename_i a n t r G;cases e;simp only[G,beq_self_eq_true];cases e;cases e;cases e
abbrev Pin:=Str×Str×Hi×FuncBody×DB×Addr×List (Str×Addr)×Ad×Addr×Option Str
noncomputable def vG(h:Heap)(x:Str):Option Pin:=match mK h x with
 | some (some (.ref a))=>(match h.get? a with
  | some ⟨_,_,.func fd,_⟩=>some (fd.name,fd.qualname,fd.params,fd.body,fd.scope,fd.globals,fd.closure,fd.defaults,fd.builtins,mL h fd.code)|_=>none)
 | _=>none
noncomputable def bQ(s:CK):Str:=match s with|.FunctionDef x _ _ _ _ _ _ _ _ _=>x|_=>⟨#[]⟩
noncomputable def aBq(st:CK):Pin:=(bQ st,bQ st,fN st,.stmts (fO st),aX st,Bx,[],.none,HC,some (bQ st))
theorem aDc{h:Heap}{st:CK}(e:vG h (bQ st)=some (aBq st)):∃fa fd,nsIn (mI h) Bx (bQ st)=some (some (.ref fa))/\Fun (mI h) (bQ st) (bQ st) st fa fd:=by unfold vG at e;split at e;rename_i a I;split at e;rename_i c d fd sl q;obtain⟨n,U,ps,b,sc,g,W,M,kd,doc,pm,an,B,ct,L⟩:=fd;unfold aBq at e;simp only[CY,Ef] at e;obtain⟨rfl,rfl,rfl,rfl,rfl,rfl,rfl,rfl,rfl,G⟩:=e;refine⟨a,_,by rw[fV];exact I,⟨⟨c,d,kd,doc,pm,an,B,ct,sl,rfl,by rw[cZ];exact q,yW G⟩,?_⟩⟩;unfold keepIn;simp only[cZ,q];cases e;cases e
theorem tB{α:Type}{x:Str}{u:α}:∀{ps:List Str} {us:List α},ps.Nodup->ps.length=us.length->(x,u)∈ps.zip us->(ps.zip us).lookup x=some u
 | [],_,_,_,h=>by simp at h|p::ps,[],_,h,_=>by simp at h|p::ps,v::us,hn,hl,h=>by rw[AY] at h ⊢;obtain⟨g,q⟩:=Bu.mp hn;rcases Al.mp h with h|h;cases h;simp[FP];have B:x∈ps:=(EU h).1;have:(x==p)=false:=beq_eq_false_iff_ne.mpr λz=>g (z▸B);simp only[FP,this];exact tB q (by simpa using hl) h
theorem aBr{α:Type}(L:List (Str×α)):∀{ps:List Str} {us:List α},ps.length=us.length->(∀p∈ps.zip us,L.lookup p.1=some p.2)->(ps.filterMap λn=>(L.lookup n).map (n,·))=ps.zip us
 | [],_,_,_=>by simp|p::ps,[],h,_=>by simp at h|p::ps,v::us,hl,h=>by rw[AY,Dk,h (p,v) (by simp),aBr L (ps:=ps) (us:=us) (by simpa using hl) λq g=>h q (by rw[AY];exact Af _ g)];rfl
theorem aBs{α:Type}(L:List (Str×α)):∀{ps:List Str} {us:List α},ps.length=us.length->(∀p∈ps.zip us,L.lookup p.1=some p.2)->(ps.filter λn=>(L.lookup n).isNone)=[]
 | [],_,_,_=>by simp|p::ps,[],h,_=>by simp at h|p::ps,v::us,hl,h=>by rw[List.filter_cons,h (p,v) (by simp),aBs L (ps:=ps) (us:=us) (by simpa using hl) λq g=>h q (by rw[AY];exact Af _ g)];rfl
noncomputable def fW(a:Hi)(ps:List Str):Bool:=match a with|⟨[],as,none,[],[],none,[]⟩=>decide (as.map (·.arg)=ps)&&decide ps.Nodup|_=>false
theorem mM{x q:Str}{a:Hi}{b:List CK}{sc:DB}{kV doc pm:Ad}{an:Option Addr}{cdv ct:Ad}{ps:List Str}{us:List Ad}(h:fW a ps=true)(g:us.length=ps.length) :
 J3 (fnOf x q a b sc .none kV doc pm an cdv ct) ⟨us,[]⟩=pure (ps.zip us):=by
 unfold fW at h;split at h;rename_i as;obtain⟨B,G⟩:=Bool.and_eq_true_iff.mp h;have B:=of_decide_eq_true B;have G:=of_decide_eq_true G;have z:∀p∈ps.zip us,(ps.zip us).lookup p.1=some p.2:=λp U=>tB G g.symm U;have I:=aBs (ps.zip us) g.symm z;have L:=aBr (ps.zip us) g.symm z;unfold J3;have M:∀s:Ad,s=.none->(seqItems? s)=pure none:=λs e=>by subst e;rfl
 simp only[mN,Dz,B,M,GZ,pure_bind,g,gt_iff_lt,AL,decide_false,J0,EC,lN,Nat.zero_sub,List.drop_nil,G6,DU,I,EG,B7,Gi,Fu,Bg,L,if_false,bF];cases h
noncomputable def tD(s:CK):Bool:=match s with|.FunctionDef _ _ _ _ _ _ _ _ _ _=>true|_=>false
noncomputable def aBt:D->Ad->Bool
 | .int i,.int j _=>decide (i=j)|.str a,.str b _=>IF a b|.non,.none=>true|.bl a,.bool b=>a==b|_,_=>false
noncomputable def vH(h:Heap)(c:Str×D):Bool:=match mK h c.1 with|some (some u)=>aBt c.2 u|_=>false
noncomputable def iE(p:A0)(cns:List (Str×D))(h:Heap):List (Option Pin)×List (Option (Option Ad))×Bool:=
 ((p.main.body.filter tD).map (λst=>vG h (bQ st)),bltNames.map (mK h),cns.all (vH h))
noncomputable def mO(p:A0):List (Option Pin)×List (Option (Option Ad))×Bool:=
 ((p.main.body.filter tD).map (λst=>some (aBq st)),bltNames.map (λ_=>some none),true)
noncomputable def tE(p:A0)(i:Nat):CK:=p.main.body.getD i (.Pass ⟨0,0,0,0⟩)
noncomputable def jT(p:A0)(c:Nat×List Str):Tx:=⟨bQ (tE p c.1),bQ (tE p c.1),tE p c.1,c.2⟩
theorem aGe{p:A0}{i:Nat}(h:tD (tE p i)=true):tE p i∈p.main.body:=by
 unfold tE at h ⊢;rw[CH] at h ⊢;cases e:p.main.body[i]? with
 | none=>rw[e] at h;cases h|some s=>exact mG e
theorem aDd{h:Heap}{c:Str×D}(e:vH h c=true):∃u v,nsIn (mI h) Bx c.1=some (some u)/\aQ v u/\∀H ex,Rep (mI h) H ex c.2 v:=by unfold vH at e;split at e;rename_i u g;obtain⟨x,d⟩:=c;have e:aBt d u=true:=e;unfold aBt at e;split at e;cases of_decide_eq_true e;exact⟨_,.int _,(fV _ _).trans g,⟨_,rfl⟩,λ_ _=>rfl⟩;cases KF.mp e;exact⟨_,.str _,(fV _ _).trans g,⟨_,rfl⟩,λ_ _=>rfl⟩;exact⟨_,.non,(fV _ _).trans g,rfl,λ_ _=>rfl⟩;cases eq_of_beq e;exact⟨_,.bl _,(fV _ _).trans g,rfl,λ_ _=>rfl⟩;cases e;cases e
theorem aGf{prog p:A0}{w:AR}{h0 h:Heap}{mg:Str->Option Ad}{P:Pg}{Γ:Ct}{ix:List (Nat×List Str)}{cns:List (Str×D)}(S:iE p cns h0=mO p)(k:∀b o,h0.get? b=some o->h.get? b=some o)(G:h.Ns Bx mg)
 (hi:(ix.all λc=>tD (tE p c.1))=true) (U:Γ.fns=(ix.map (jT p)).map (·.x)) (W:Γ.cns=cns) (h3:Γ.tbs=[]) (hb:((P.fns.zip (ix.map (jT p))).all λq=>fW (fN q.2.st) (q.2.N.take q.1.np))=true) (chk:fK Γ P.fns (ix.map (jT p))=true) :
 Top prog w (mI h0) mg P Γ (ix.map (jT p)):=by
 unfold iE mO at S;simp only[Ef] at S;obtain⟨s1,s2,s3⟩:=S;have X:=xL k;exact {
  fn:=λf t I=>by rw[A5] at I;obtain⟨c,M,rfl⟩:=Bt.mp I;have hd:=BE.mp hi c (mG M);obtain⟨fa,fd,L,B⟩:=aDc (IG.mp s1 _ (B6.mpr ⟨aGe hd,hd⟩));refine⟨fa,fd,mg_of X G L,B,λF hF=>B.binds λkV doc pm an cdv ct us hl=>mM (BE.mp hb (F,jT p c) (mG (i:=f) ?_)) hl⟩;rw[FE];exact⟨hF,by rw[A5,M];rfl⟩
  fns:=λf x g=>by rw[U,A5] at g;obtain⟨t,I,rfl⟩:=Bt.mp g;exact⟨t,I,rfl⟩
  blt:=λx g=>mg_none_of X G ((fV h0 x).trans (IG.mp s2 x g))
  cns:=λx d g=>by rw[W] at g;obtain⟨u,v,L,B⟩:=aDd (BE.mp s3 _ (BH g));exact⟨u,v,mg_of X G L,B⟩
  tab:=λi x g=>by rw[h3] at g;simp at g
  chk:=chk }
theorem aBu{l:Jx}{n k:Nat}{q:A0}{I:List Str}{XP:(Str->Option Ad)->Heap->Prop}{YP:AR->Heap->Prop}{d:DefRec}{sp:A1->Sp}{x:Str}(hn:l.most=some n)(W:n<=sizeLine)(M:d.params.defaults=[])(hr:gF k Gy)
 (F:∀(w:AR) (mg:Str->Option Ad) (fa:Addr) (h:Heap),YP w h->h.Ns Bx mg->mg d.name=some (.ref fa)->∃K:A1,K.In h/\∃fd:DC,(∀(s:Ac) (u:Ad),Kw s fd ⟨[u],[]⟩ [(x,u)])/\∀base:Heap,K.In base->base.Ns Bx mg->jM l.prog w K mg base CX0 k fa fd [x] (sp K))
 (q0:∀(K:A1) (H:Hp) (a:Addr) (ns:List Int),ns.length<=n->aCo H->SqL K H a (ns.map V.int)->sp K [.ref a] H (λv _=>v=.bl true) λ_ _ _=>False):PySem.W.WalkO q I XP YP l.row.toRowW d [] (λf vs=>Gz f vs):=by refine Att.attach_call hn M λw s₀ q1 mg mb fa o pm cd doc a vs ns G Y ho hd q2 U L B g hg=>?_;obtain⟨K,KX,fd,hb,hF⟩:=F w mg fa _ Y G.T.g U;exact aAa KX G.T.g G.T.b G.T.builtins G.T.nolimit hg L B (A2 g W) hr hF hb (λH hO hS=>q0 K H a ns g hO hS) λ_ _ _ z=>z
noncomputable def lst(p:A0):CK:=p.main.body.getLastD (.Pass ⟨0,0,0,0⟩)
noncomputable def xM(p:A0):A0:={ p with main:={ p.main with body:=[lst p] } }
noncomputable def aBv(p:A0):List Str:=(p.main.scope.names.map (·.1)).filter λx=>!(IF x (bQ (lst p)))
noncomputable def aGg(s:CK):Eg:=match s with|.FunctionDef _ _ _ _ _ _ _ _ _ p=>p|_=>⟨0,0,0,0⟩
noncomputable def gM(p:A0):DefRec:=⟨bQ (lst p),fN (lst p),fO (lst p),aX (lst p),aGg (lst p)⟩
theorem aGh{l:Jx}{P:Pg}{cns:List (Str×D)}{ix:List (Nat×List Str)}{k f N:Nat}{x:Str}{sl:List Str}(M:l.row.wellSaid=true)(L:LT l.prog (xM l.prog) (aBv l.prog) (λ_=>true) (λs=>iE l.prog cns s.heap) (λ_=>mO l.prog) N)
 (I:defOf (xM l.prog) l.name=some (gM l.prog,[])) (hp:l.prog.theDef l.name=some ((gM l.prog).params,(gM l.prog).body,(gM l.prog).scope)) (hk:kwWritten? (gM l.prog).params.kwonlyargs (gM l.prog).params.kw_defaults=some []) (q2:(!l.writes||([]:WRecords).isEmpty)=true)
 (ok:(chainsOk (xM l.prog)&&opensWell l.prog&&(frees l.row.toRowW&&l.row.within.isEmpty))=true) (hb:l.prog.bare) (hw:l.row.toRowW.promised) (hn:l.most=some 63) (W:(gM l.prog).params.defaults=[])
 (hi:(ix.all λc=>tD (tE l.prog c.1))=true) (B:((P.fns.zip (ix.map (jT l.prog))).all λq=>fW (fN q.2.st) (q.2.N.take q.1.np))=true) (chk:fK ⟨[],[],(ix.map (jT l.prog)).map (·.x),cns,[],true,[]⟩ P.fns (ix.map (jT l.prog))=true)
 (hr:gF (k+1) Gy) (hx:(ix.map (jT l.prog))[f]? = some ⟨bQ (lst l.prog),bQ (lst l.prog),lst l.prog,x::sl⟩) (q1:(P.fns[f]?).map (·.np)=some 1)
 (pure:∀ns:List Int,ns.length<=63->∃fr pa,Hp.call P (k+1) f [.lst (ns.map D.int)]=.ok (.bl true,fr,pa)):l.row.Holds:=by refine holds_open (XP:=λ_ _=>True) (YP:=λ_ h=>∃h0,iE l.prog cns h0=mO l.prog/\∀b o,h0.get? b=some o->h.get? b=some o) L (λw s e=>⟨s.heap,e,λ_ _ z=>z⟩) (λw h h' ⟨h0,e,k⟩ k'=>⟨h0,e,λb o z=>k' b o (k b o z)⟩) (λ_ _=>trivial) (λ_ _ _ _ _=>trivial) I hp hk (λ_ _=>recFacts_nil rfl) q2 M ok hb hw ?_;obtain⟨F,U,g⟩:=Bt.mp q1;refine aBu (sp:=λK=>spF K P (k+1) f) (x:=x) hn (by decide) W hr (λw mg fa h ⟨h0,e,kk⟩ G q0=>?_) λK H a ns hl hO hS=>aGb hO hS (pure ns hl);have T:=aGf (prog:=l.prog) (w:=w) (P:=P) (Γ:=⟨[],[],(ix.map (jT l.prog)).map (·.x),cns,[],true,[]⟩) e kk G hi rfl rfl rfl B chk;obtain⟨q3,fd,g1,g2,g3⟩:=T.fn f _ hx;have e:=q0.symm.trans g1;cases e;have b:=g3 F U;refine⟨mI h0,xL kk,fd,λs u=>?_,λbase _ _=>?_⟩;obtain⟨oc,od,kV,doc,pm,an,cdv,ct,osl,rfl,lk,q4⟩:=g2.ex;refine .of_eq ((mM (ps:=[x]) ?_ rfl).trans rfl);have:=BE.mp B (F,_) (mG (i:=f) (FE.mpr ⟨U,hx⟩));rw[g] at this;exact this;have:=aGa (base:=base) T hx U g2 k;rw[g] at this;exact this
end Hh
namespace Hp
open PySem (Str Operator CmpOp)
section
variable {P:Pg} {W:Caller} {Z:Sg}
@[simp] theorem aA {α g:Type} (a:α) (f:α->R g):((R.ok a:R α) >>= f)=f a:=id rfl
@[simp] theorem tF {α:Type} (x:R α):R.iff true x=x:=id rfl
@[simp] theorem aKv {α:Type} (x:α):R.of (some x)=.ok x:=id rfl
@[simp] theorem aW {α:Type} (a:α) (f:α->O):O.from Z (.ok a) f=f a:=id rfl
@[simp] theorem aIw (f:Sg->O):(O.next Z).on f=f Z:=id rfl
@[simp] theorem aKn (v:Vl) (f:Sg->O):(O.ret v).on f=.ret v:=id rfl
@[simp] theorem cE (d:D):ev P W Z (.c d)=.ok (.cl d):=id rfl
@[simp] theorem qN (i:Nat):ev P W Z (.v i)=cR Z i:=id rfl
@[simp] theorem cQ (o:Operator) (a b:E):ev P W Z (.op o a b)=(ev P W Z a >>= λx=>ev P W Z b >>= λy=>opD o x y):=id rfl
@[simp] theorem aJW (a:E):ev P W Z (.neg a)=(ev P W Z a >>= λx=>match x.d with|.int i=>.ok (.cl (.int (-i)))|_=>.bad):=id rfl
@[simp] theorem aKo (a:E):ev P W Z (.nt a)=(ev P W Z a >>= λx=>dO x >>= λk=>.ok (.cl (.bl (!k)))):=id rfl
@[simp] theorem aBw (a b:E):ev P W Z (.an a b)=(ev P W Z a >>= λx=>match x.d with|.bl true=>ev P W Z b|.bl false=>.ok (.cl (.bl false))|_=>.bad):=id rfl
@[simp] theorem aJX (a b:E):ev P W Z (.orr a b)=(ev P W Z a >>= λx=>match x.d with|.bl true=>.ok (.cl (.bl true))|.bl false=>ev P W Z b|_=>.bad):=id rfl
@[simp] theorem aJY (t a b:E):ev P W Z (.ife t a b)=(tst P W Z t >>= λx=>if x then ev P W Z a else ev P W Z b):=id rfl
@[simp] theorem aBx (o:CmpOp) (a b:E):ev P W Z (.cmp o a b)=(ev P W Z a >>= λx=>ev P W Z b >>= λy=>match cF o x.d y.d with|some k=>.ok (.cl (.bl k))|none=>.bad):=id rfl
@[simp] theorem aII (o o':CmpOp) (a b c:E):ev P W Z (.cmp2 o o' a b c)=(ev P W Z a >>= λx=>ev P W Z b >>= λy=>match cF o x.d y.d with
 | some true=>ev P W Z c >>= λz=>(match cF o' y.d z.d with|some k=>.ok (.cl (.bl k))|none=>.bad)
 | some false=>.ok (.cl (.bl false))|none=>.bad):=id rfl
@[simp] theorem dU (a b:E):ev P W Z (.idx a b)=(ev P W Z a >>= λx=>ev P W Z b >>= λy=>cS x y):=id rfl
@[simp] theorem aGi (es:Es):ev P W Z (.tup es)=(evs P W Z es >>= λvs=>.ok (kW vs)):=id rfl
@[simp] theorem jD (es:Es):ev P W Z (.lst es)=(evs P W Z es >>= λvs=>.ok (cK vs)):=id rfl
@[simp] theorem cM (f:Nat) (es:Es):ev P W Z (.call f es)=(evs P W Z es >>= λvs=>W f (vs.map (·.d)) >>= λr=>.ok (dX vs r)):=id rfl
@[simp] theorem jJ (b:Bi) (es:Es):ev P W Z (.bi b es)=(evs P W Z es >>= λvs=>biD b vs):=id rfl
@[simp] theorem aJZ (m:Mt) (o:E) (es:Es):ev P W Z (.mth m o es)=(ev P W Z o >>= λx=>evs P W Z es >>= λys=>mtD m x ys):=id rfl
@[simp] theorem aBy (a:E) (cs:List Cl):ev P W Z (.isi a cs)=(ev P W Z a >>= λx=>match isI cs P x.d with|some k=>.ok (.cl (.bl k))|none=>.bad):=id rfl
@[simp] theorem aDe (a:E) (h:E):ev P W Z (.sli a .nil (.cons h .nil))=(ev P W Z a >>= λx=>ev P W Z h >>= λh=>match h.d with|.int h=>.iff (aF h) (dH x none (some h))|_=>.bad):=by
 show(ev P W Z a >>= λx=>evs P W Z .nil >>= λl=>evs P W Z (.cons h .nil) >>= λh=>_)=_;cases ev P W Z a with
 | ok x=>
  show(evs P W Z (.cons h .nil) >>= λh=>_)=(ev P W Z h >>= λh=>_)
  show((ev P W Z h >>= λx=>evs P W Z .nil >>= λxs=>R.ok (x::xs)) >>= λh=>_)=_;cases ev P W Z h <;> rfl
 | exc e=>rfl|bad=>rfl
theorem qO(k:Nat)(caps:List Nat)(t:T)(it:It)(cond:Es)(elt:E):ev P W Z (.comp k caps t it cond elt)=(walk P W Z it >>= λxs=>
 cL (λx=>setT (An k .dead++caps.map λi=>((freeze Z xs.2)[i]?).getD .dead) x t >>= λg=>tsts P W g cond >>= λk=>if k then (ev P W g elt >>= λy=>.ok (some y)) else .ok none) xs.1 >>= λvs=>
 .iff (decide (vs.length<=lim)) (.ok (gU k caps xs.2 vs))):=rfl
@[simp] theorem aGs (a:E):ev P W Z (.numset a)=(ev P W Z a >>= λx=>match x.d with
 | .lst ds=>(match pL ds with|some ks=>.iff (decide (ds.length<=1000)) (.ok (.cl (.int (aAg ks).length)))|none=>.bad)
 | _=>.bad):=id rfl
@[simp] theorem aT:evs P W Z .nil=.ok []:=id rfl
@[simp] theorem aI (e:E) (es:Es):evs P W Z (.cons e es)=(ev P W Z e >>= λx=>evs P W Z es >>= λxs=>.ok (x::xs)):=id rfl
@[simp] theorem aBz (a:E):tst P W Z (.nt a)=(tst P W Z a >>= λx=>.ok (!x)):=id rfl
@[simp] theorem aGj (a b:E):tst P W Z (.an a b)=(tst P W Z a >>= λx=>if x then tst P W Z b else .ok false):=id rfl
@[simp] theorem xN (a b:E):tst P W Z (.orr a b)=(tst P W Z a >>= λx=>if x then .ok true else tst P W Z b):=id rfl
@[simp] theorem aKp (d:D):tst P W Z (.c d)=dO (.cl d):=id rfl
@[simp] theorem aKq (i:Nat):tst P W Z (.v i)=(cR Z i >>= λx=>dO x):=id rfl
@[simp] theorem bR (o:CmpOp) (a b:E):tst P W Z (.cmp o a b)=(ev P W Z a >>= λx=>ev P W Z b >>= λy=>match cF o x.d y.d with|some k=>.ok k|none=>.bad):=id rfl
@[simp] theorem aIx (o o':CmpOp) (a b c:E):tst P W Z (.cmp2 o o' a b c)=(ev P W Z a >>= λx=>ev P W Z b >>= λy=>match cF o x.d y.d with
 | some true=>ev P W Z c >>= λz=>(match cF o' y.d z.d with|some k=>.ok k|none=>.bad)
 | some false=>.ok false|none=>.bad):=id rfl
@[simp] theorem aBA (f:Nat) (es:Es):tst P W Z (.call f es)=(evs P W Z es >>= λvs=>W f (vs.map (·.d)) >>= λr=>dO (dX vs r)):=id rfl
@[simp] theorem aDf (a:E) (cs:List Cl):tst P W Z (.isi a cs)=(ev P W Z a >>= λx=>match isI cs P x.d with|some k=>.ok k|none=>.bad):=id rfl
@[simp] theorem aIJ (a b:E):tst P W Z (.idx a b)=(ev P W Z a >>= λx=>ev P W Z b >>= λy=>cS x y >>= λz=>dO z):=id rfl
@[simp] theorem aBB:tsts P W Z .nil=.ok true:=id rfl
@[simp] theorem yX (e:E) (es:Es):tsts P W Z (.cons e es)=(tst P W Z e >>= λx=>if x then tsts P W Z es else .ok false):=id rfl
@[simp] theorem aBC (a b:E):walk P W Z (.rng a b)=(ev P W Z a >>= λx=>ev P W Z b >>= λy=>match x.d,y.d with|.int i,.int j=>.iff (aF i&&aF j) (.ok ((eH i j).map .cl,[]))|_,_=>.bad):=id rfl
@[simp] theorem aBD (e:E):walk P W Z (.seq e)=(ev P W Z e >>= λx=>match x.d with
 | .lst ds=>.ok (items x ds,x.al)|.tup ds=>.ok (items x ds,x.al)|.str a=>.iff (decide (a.length<=lim)) (.ok (a.cps.toList.map λn=>.cl (.str ⟨#[n]⟩),[]))|_=>.bad):=id rfl
@[simp] theorem aIy (a b:E):walk P W Z (.zip a b)=(ev P W Z a >>= λx=>ev P W Z b >>= λy=>match nB x.d,nB y.d with
 | some as,some bs=>.ok (items ⟨.non,false,x.pa||y.pa,x.al++y.al⟩ (aAj as bs),x.al++y.al)|_,_=>.bad):=id rfl
@[simp] theorem cA (t:T) (e:E):ex P W Z (.set t e)=O.from Z (ev P W Z e) λv=>O.from Z (setT (freeze Z v.al) v t) .next:=id rfl
@[simp] theorem aKa (i:Nat) (e:E):ex P W Z (.app i e)=O.from Z (ev P W Z e) λv=>put Z i v λds=>some (ds++[v.d]):=id rfl
@[simp] theorem aBE (i:Nat) (e:E):ex P W Z (.ext i e)=O.from Z (ev P W Z e) λv=>match kY v with|some (v',ds')=>put Z i v' λds=>some (ds++ds')|none=>.bad:=id rfl
@[simp] theorem aKb (i:Nat):ex P W Z (.clr i)=put Z i (.cl .non) λ_=>some []:=id rfl
@[simp] theorem aIz (i:Nat) (k e:E):ex P W Z (.setIx i k e)=O.from Z (ev P W Z e) λv=>O.from Z (ev P W Z k) λg=>match g.d with
 | .int k=>put Z i v λds=>(match ixN ds.length k with|some j=>some (ds.set j v.d)|none=>none)
 | _=>.bad:=id rfl
@[simp] theorem dW (e:E):ex P W Z (.ret e)=O.from Z (ev P W Z e) .ret:=id rfl
@[simp] theorem bV (c:E) (a b:Ss):ex P W Z (.iff c a b)=O.from Z (tst P W Z c) λk=>if k then exs P W Z a else exs P W Z b:=id rfl
theorem aGk(t:T)(it:It)(b:Ss):ex P W Z (.for t it b)=O.from Z (walk P W Z it) λxs=>dY (λZ x=>O.from Z (setT Z x t) λZ'=>exs P W Z' b) xs.1 (freeze Z xs.2):=rfl
@[simp] theorem aKc (i j:Nat):ex P W Z (.mov i j)=(match Z[j]? with
 | some (.own pa ds)=>if i=j then .bad else .next ((Z.set j .dead).set i (.own pa ds))|some (.sh pa d)=>.next (Z.set i (.sh (pa&&!noL d) d))|_=>.bad):=id rfl
@[simp] theorem aIK (i:Nat):ex P W Z (.retv i)=(match Z[i]? with|some (.own pa ds)=>.ret ⟨.lst ds,true,pa,[]⟩|_=>O.from Z (cR Z i) .ret):=id rfl
@[simp] theorem aIA (i:Nat) (k:E):ex P W Z (.pop none i (some k))=O.from Z (ev P W Z k >>= λv=>match v.d with|.int k=>.iff (aF k) (.ok (some k))|_=>.bad) λk=>O.from Z (gW Z i k) λr=>.next r.2:=id rfl
@[simp] theorem eO:exs P W Z .nil=.next Z:=id rfl
@[simp] theorem aU (s:S) (ss:Ss):exs P W Z (.cons s ss)=(ex P W Z s).on λZ'=>exs P W Z' ss:=id rfl
end
theorem bS{P:Pg}{W:Caller}{f:Nat}{F:Fn}{ds:List D}(g:P.fns[f]? = some F)(q:ds.length=F.np){v:Vl}
 (h:exs P W ((ds.map λd=>Sl.sh true d)++An (F.ns-F.np) Sl.dead) F.body=.ret v):uJ P W f ds=.ok (v.d,v.fr,v.pa):=by unfold uJ;rw[g];simp only[q,if_true,h]
theorem tG{f:Sg->Vl->O}:∀(xs:List Vl) (I:Nat->Sg->Prop) (Z:Sg),I 0 Z->(∀(i:Nat) (h:i<xs.length) (Z:Sg),I i Z->∃Z',f Z xs[i]=.next Z'/\I (i+1) Z')->∃Z',dY f xs Z=.next Z'/\I xs.length Z'
 | [],I,Z,h0,_=>⟨Z,rfl,h0⟩
 | x::xs,I,Z,h0,hs=>by
  obtain⟨q,g,L⟩:=hs 0 (by simp) Z h0;obtain⟨B,G,M⟩:=tG xs (λi=>I (i+1)) q L λi h Z U=>by have:=hs (i+1) (by simpa using h) Z U;simpa using this
  refine⟨B,?_,by simpa using M⟩;have g:f Z x=.next q:=by simpa using g
  unfold dY;rw[g];exact G
theorem mP{f:Vl->R (Option Vl)}{g:Vl->Vl}:∀{xs:List Vl},(∀x∈xs,f x=.ok (some (g x)))->cL f xs=.ok (xs.map g)
 | [],_=>rfl|x::xs,h=>by have q:=h x Ai;have B:=mP (f:=f) (g:=g) (xs:=xs) λy G=>h y (Af _ G);show(f x >>= λy=>cL f xs >>= λys=>(match y with|some y=>R.ok (y::ys)|none=>R.ok ys))=_;rw[q,B];rfl
theorem aGl(n:Nat):(eH 0 (n:Int)).map Vl.cl=(AA n).map λ(k:Nat)=>Vl.cl (.int (k:Int)):=by unfold eH;rw[AM];simp
theorem aDg{P:Pg}{W:Caller}{Z:Sg}{k:Nat}{caps:List Nat}{t:T}{it:It}{elt:E}{xs:List Vl}{al:List Nat}(g:Vl->Vl)(U:walk P W Z it=.ok (xs,al))(M:xs.length<=lim)
 (L:∀x∈xs,∃q,setT (An k .dead++caps.map λi=>((freeze Z al)[i]?).getD .dead) x t=.ok q/\ev P W q elt=.ok (g x)):ev P W Z (.comp k caps t it .nil elt)=.ok (gU k caps al (xs.map g)):=by
 rw[qO,U,aA,mP (g:=g) λx hx=>by
  obtain⟨q,G,I⟩:=L x hx;show(setT _ x t >>= λq=>_)=_;rw[G];show(ev P W q elt >>= λy=>R.ok (some y))=_;rw[I];rfl]
 have B:decide ((xs.map g).length<=lim)=true:=Aw (by rw[lM];exact M);rw[aA,B,tF]
theorem gN{P:Pg}{W:Caller}{Z:Sg}{t:T}{it:It}{b:Ss}{xs:List Vl}{al:List Nat}(I:Nat->Sg->Prop)(L:walk P W Z it=.ok (xs,al))(h0:I 0 (freeze Z al))
 (hs:∀(i:Nat) (h:i<xs.length) (Z:Sg),I i Z->∃g Z',setT Z xs[i] t=.ok g/\exs P W g b=.next Z'/\I (i+1) Z'):∃Z',ex P W Z (.for t it b)=.next Z'/\I xs.length Z':=by rw[aGk,L];refine tG xs I _ h0 λi h Z G=>?_;obtain⟨g,Z',q,B,h'⟩:=hs i h Z G;refine⟨Z',?_,h'⟩;show O.from Z (setT Z xs[i] t) _=_;rw[q];exact B
theorem aDh:aF 0=true:=by decide
theorem xO{n:Nat}(g:n<=1000000):aF (n:Int)=true:=by unfold aF;rw[bA,Ax,Ax];exact⟨KG (b:=0) (by decide) (HZ n),Int.lt_of_le_of_lt (b:=1000000) (by omega) (by decide)⟩
theorem qP{n:Int}(h0:0<=n)(g:n<=1000000):aF n=true:=by have:=xO (n:=n.toNat) (by omega);rwa [Ea h0] at this
theorem eP{P:Pg}{W:Caller}{Z:Sg}{a:E}{v:Vl}{n:Nat}(h:ev P W Z a=.ok v)(hd:v.d=.int n)(g:n<=1000000):walk P W Z (.rng (.c (.int 0)) a)=.ok ((AA n).map λ(k:Nat)=>Vl.cl (.int (k:Int)),[]):=by rw[aBC,h,cE,aA,aA,hd,<-aGl];show R.iff (aF 0&&aF (n:Int)) _=_;rw[aDh,xO g];rfl
theorem oG{k:Nat}{caps al:List Nat}{vs:List Vl}(h:noLs (vs.map (·.d))=true):gU k caps al vs=⟨.lst (vs.map (·.d)),true,false,[]⟩:=by unfold gU;rw[if_pos h]
end Hp
namespace HpS
open Hp PySem
noncomputable def box(b:Str×Int):D:=.tup [.str b.1,.int b.2]
noncomputable def bW(bs:List (Str×Int)):List D:=bs.map box
noncomputable def aR(is:List Int):D:=.tup (is.map D.int)
structure yY (bs:List (Str×Int)):Prop where
 few:bs.length<=5
 one:∀b∈bs,1<=b.2/\b.2<=7
 room:(bs.map λb=>b.2+1).foldl (·*·) 1<=24
noncomputable def iF(bs:List (Str×Int)):Int:=(bs.map λb=>b.2+1).foldl (·*·) 1
theorem mQ:∀is:List Int,noLs (is.map D.int)=true
 | []=>rfl|i::is=>by simp[noLs,noL,mQ is]
@[simp] theorem mR (is:List Int):noL (aR is)=true:=by simp[aR,noL,mQ]
@[simp] theorem aDi (b:Str×Int):noL (box b)=true:=by simp[box,noL,noLs]
theorem fL:∀ss:List (List Int),noLs (ss.map aR)=true
 | []=>rfl|s::ss=>by simp[noLs,fL ss]
theorem tH{v:Vl}(bs:List (Str×Int)):items v (bW bs)=bs.map λb=>Vl.cl (box b):=by simp[items,bW,Vl.sub,E4]
theorem kF:∀(xs:List Int) (a:Int),1<=a->(∀x∈xs,1<=x)->a<=xs.foldl (·*·) a
 | [],a,_,_=>Int.le_refl _|x::xs,a,ha,h=>by
  have q:=h x Ai;have g:a<=a*x:=by have:=Int.mul_le_mul_of_nonneg_left q (show 0<=a by omega);omega
  exact KG g (kF xs (a*x) (by omega) λy B=>h y (Af _ B))
theorem qQ(bs:List (Str×Int))(h:∀b∈bs,1<=b.2)(i:Nat):1<=iF (bs.take i)/\iF (bs.take i)<=iF bs:=by
 have pos:∀(l:List (Str×Int)),(∀b∈l,1<=b.2)->∀x∈l.map (λb=>b.2+1),1<=x:=λl B x G=>by obtain⟨b,g,rfl⟩:=Ag.mp G;have:=B b g;omega
 have e:bs=bs.take i++bs.drop i:=(AV i bs).symm;have q:1<=iF (bs.take i):=kF _ 1 (by omega) (pos _ λb g=>h b (BX g));refine⟨q,?_⟩;have:iF bs=((bs.drop i).map λb=>b.2+1).foldl (·*·) (iF (bs.take i)):=by
  unfold iF
  conv=>lhs;rw[e,BM,FQ]
 rw[this];exact kF _ _ q (pos _ λb g=>h b (ER g))
theorem yZ{bs:List (Str×Int)}{i:Nat}(h:i<bs.length):iF (bs.take (i+1))=iF (bs.take i)*(bs[i].2+1):=by rw[B4 h];unfold iF;rw[BM,FQ];rfl
noncomputable def qR:Fn:=⟨1,6,
 (.cons (.set (.n 1) (.lst (.cons (.tup .nil) .nil)))
 (.cons (.for (.t [2,3]) (.seq (.v 0))
  (.cons (.set (.n 4) (.lst .nil))
  (.cons (.for (.n 5) (.seq (.v 1))
   (.cons (.ext 4 (.comp 1 [5] (.n 0) (.rng (.c (.int 0)) (.op .Add (.v 3) (.c (.int 1)))) .nil (.op .Add (.v 1) (.tup (.cons (.v 0) .nil)))))
   .nil))
  (.cons (.mov 1 4)
  .nil))))
 (.cons (.retv 1)
 .nil)))⟩
noncomputable def bO(b:List Int)(top:Int):List (List Int):=(AA (top+1).toNat).map λ(h:Nat)=>b++[(h:Int)]
noncomputable def extend(found:List (List Int))(top:Int):List (List Int):=found.flatMap λb=>bO b top
noncomputable def aE(bs:List (Str×Int)):List (List Int):=bs.foldl (λfound b=>extend found b.2) [[]]
theorem eQ{bs:List (Str×Int)}{i:Nat}(h:i<bs.length):aE (bs.take (i+1))=extend (aE (bs.take i)) bs[i].2:=by rw[B4 h];unfold aE;rw[FQ];rfl
theorem vI(found:List (List Int))(top:Int):(extend found top).length=found.length*(top+1).toNat:=by
 induction found with
 | nil=>simp[extend]|cons b r g=>unfold extend at g ⊢;rw[FR,lA,g,lC,Ik];simp[bO];omega
theorem qS{bs:List (Str×Int)}(h:yY bs):∀i,i<=bs.length->((aE (bs.take i)).length:Int)=iF (bs.take i)/\∀s∈aE (bs.take i),s.length=i
 | 0,_=>by simp[aE,iF]|i+1,hi=>by
  have g:i<bs.length:=by omega
  obtain⟨q,B⟩:=qS h i (by omega);obtain⟨I,L⟩:=h.one bs[i] (BD g);rw[eQ g,yZ g,vI];refine⟨?_,λs hs=>?_⟩;rw[GI,q,Ea (by omega)];obtain⟨b,G,hs⟩:=DT.mp hs;obtain⟨k,_,rfl⟩:=Ag.mp hs;rw[lA,B b G];rfl
theorem aDV{bs:List (Str×Int)}(h:yY bs)(i:Nat)(hi:i<=bs.length):(aE (bs.take i)).length<=24:=by have q:=(qS h i hi).1;have B:=(qQ bs (λb g=>(h.one b g).1) i).2;have G:iF bs<=24:=h.room;omega
theorem jK{found:List (List Int)}{top:Int}{j:Nat}(h:j<found.length):(found.take (j+1)).flatMap (λb=>bO b top)=(found.take j).flatMap (λb=>bO b top)++bO found[j] top:=by rw[B4 h,Fd];simp
theorem aDj{found:List (List Int)}{top:Int}(j:Nat):((found.take j).flatMap λb=>bO b top).length<=(extend found top).length:=by
 have e:found=found.take j++found.drop j:=(AV j found).symm;unfold extend
 conv=>rhs;rw[e,Fd,lA]
 omega
theorem iG{v:Vl}(ss:List (List Int)):items v (ss.map aR)=ss.map λs=>Vl.cl (aR s):=by simp[items,Vl.sub,E4]
theorem aBF{P:Pg}(n:Nat){s0 s1 s2 s4:Sl}{b:List Int}{top:Int}(M:1<=top)(q:top<=7)(I:b.length<=10) :
 ev P (call P n) [s0,s1,s2,.sh false (.int top),s4,.sh false (aR b)] (.comp 1 [5] (.n 0) (.rng (.c (.int 0)) (.op .Add (.v 3) (.c (.int 1)))) .nil (.op .Add (.v 1) (.tup (.cons (.v 0) .nil))))=.ok ⟨.lst ((bO b top).map aR),true,false,[]⟩:=by
 have B:walk P (call P n) [s0,s1,s2,.sh false (.int top),s4,.sh false (aR b)] (.rng (.c (.int 0)) (.op .Add (.v 3) (.c (.int 1))))=.ok ((AA (top+1).toNat).map λ(k:Nat)=>Vl.cl (.int (k:Int)),[]):=by refine eP (v:=.cl (.int (top+1))) ?_ ?_ (by omega);simp[cR,Sl.val,opD,Vl.cl,noL];show D.int (top+1)=D.int ((top+1).toNat:Int);rw[Ea (by omega)]
 rw[aDg (λv=>match v.d with|.int k=>.cl (aR (b++[k]))|_=>.cl .non) B];have e:(((AA (top+1).toNat).map λ(k:Nat)=>Vl.cl (.int (k:Int))).map λv=>(match v.d with|.int k=>Vl.cl (aR (b++[k]))|_=>Vl.cl .non)).map (·.d)=(bO b top).map aR:=by simp[bO,Vl.cl,E4]
 rw[oG (by rw[e];exact fL _),e];simp only[lM,B3];unfold lim;omega;intro y G;obtain⟨k,L,rfl⟩:=Ag.mp G;have g:b.length+1<=lim:=by unfold lim;omega
 refine⟨[.sh false (.int k),.sh false (aR b)],?_,?_⟩;simp[setT,Vl.cl,Vl.slot,freeze];simp[cR,Sl.val,Vl.cl,opD,kW,dM,bM,aR,noL,g,mQ]
theorem zA{P:Pg}{f:Nat}(hF:P.fns[f]? = some qR)(n:Nat){bs:List (Str×Int)}(h:yY bs):call P (n+1) f [.lst (bW bs)]=.ok (.lst ((aE bs).map aR),true,false):=by
 obtain⟨Z',e,hI⟩:=gN (P:=P) (W:=call P n) (Z:=[.sh true (.lst (bW bs)),.own false [.tup []],.dead,.dead,.dead,.dead]) (t:=.t [2,3]) (it:=.seq (.v 0))
  (b:=.cons (.set (.n 4) (.lst .nil)) (.cons (.for (.n 5) (.seq (.v 1)) (.cons (.ext 4 (.comp 1 [5] (.n 0) (.rng (.c (.int 0)) (.op .Add (.v 3) (.c (.int 1)))) .nil (.op .Add (.v 1) (.tup (.cons (.v 0) .nil))))) .nil)) (.cons (.mov 1 4) .nil)))
  (xs:=bs.map λb=>Vl.cl (box b)) (al:=[])
  (λi Z=>∃s2 s3 s4 q,Z=[.sh true (.lst (bW bs)),.own false ((aE (bs.take i)).map aR),s2,s3,s4,q])
  (by simp[cR,Sl.val,tH]) ⟨_,_,_,_,rfl⟩ (λi hi Z G=>by
   obtain⟨s2,s3,s4,q,rfl⟩:=G;have g:i<bs.length:=by simpa using hi
   obtain⟨g2,g3⟩:=h.one bs[i] (BD g);have I:=aDV h (i+1) g;rw[eQ g] at I;obtain⟨_,L⟩:=qS h i (by omega);have q2:=h.few;obtain⟨Z2,e2,hJ⟩:=gN (P:=P) (W:=call P n) (Z:=[.sh true (.lst (bW bs)),.own false ((aE (bs.take i)).map aR),.sh false (.str bs[i].1),.sh false (.int bs[i].2),.own false [],q]) (t:=.n 5) (it:=.seq (.v 1))
    (b:=.cons (.ext 4 (.comp 1 [5] (.n 0) (.rng (.c (.int 0)) (.op .Add (.v 3) (.c (.int 1)))) .nil (.op .Add (.v 1) (.tup (.cons (.v 0) .nil))))) .nil)
    (xs:=(aE (bs.take i)).map λs=>Vl.cl (aR s)) (al:=[1])
    (λj Z=>∃q,Z=[.sh true (.lst (bW bs)),.sh false (.lst ((aE (bs.take i)).map aR)),.sh false (.str bs[i].1),.sh false (.int bs[i].2),.own false ((((aE (bs.take i)).take j).flatMap λb=>bO b bs[i].2).map aR),q])
    (by simp[cR,Sl.val,iG]) ⟨_,by simp[freeze,Sl.freeze];rfl⟩ (λj hj Z G=>by
     obtain⟨q,rfl⟩:=G;have B:j<(aE (bs.take i)).length:=by simpa using hj
     have hb:(aE (bs.take i))[j].length<=10:=by rw[L _ (BD B)];omega
     have hc:=aBF (P:=P) n (s0:=.sh true (.lst (bW bs))) (s1:=.sh false (.lst ((aE (bs.take i)).map aR))) (s2:=.sh false (.str bs[i].1)) (s4:=.own false ((((aE (bs.take i)).take j).flatMap λb=>bO b bs[i].2).map aR)) (b:=(aE (bs.take i))[j]) g2 g3 hb;have q0:=aDj (found:=aE (bs.take i)) (top:=bs[i].2) (j+1);rw[jK B,lA] at q0;have M:((((aE (bs.take i)).take j).flatMap λb=>bO b bs[i].2).map aR++(bO (aE (bs.take i))[j] bs[i].2).map aR).length<=lim:=by rw[lA,lM,lM];unfold lim;omega
     refine⟨[.sh true (.lst (bW bs)),.sh false (.lst ((aE (bs.take i)).map aR)),.sh false (.str bs[i].1),.sh false (.int bs[i].2),.own false ((((aE (bs.take i)).take j).flatMap λb=>bO b bs[i].2).map aR),.sh false (aR (aE (bs.take i))[j])],
      [.sh true (.lst (bW bs)),.sh false (.lst ((aE (bs.take i)).map aR)),.sh false (.str bs[i].1),.sh false (.int bs[i].2),.own false ((((aE (bs.take i)).take (j+1)).flatMap λb=>bO b bs[i].2).map aR),.sh false (aR (aE (bs.take i))[j])],?_,?_,⟨_,rfl⟩⟩
     simp[setT,Vl.cl,Vl.slot];rw[aU,aBE,hc,aW];show(match kY ⟨.lst ((bO (aE (bs.take i))[j] bs[i].2).map aR),true,false,[]⟩ with|some (v',ds')=>put _ 4 v' λds=>some (ds++ds')|none=>.bad).on _=_;simp only[kY,fL,if_true];unfold put;simp only[freeze,jG,gS,gZ];rw[if_pos M];simp[jK B])
   obtain⟨q1,rfl⟩:=hJ;refine⟨[.sh true (.lst (bW bs)),.own false ((aE (bs.take i)).map aR),.sh false (.str bs[i].1),.sh false (.int bs[i].2),s4,q],[.sh true (.lst (bW bs)),.own false ((aE (bs.take (i+1))).map aR),.sh false (.str bs[i].1),.sh false (.int bs[i].2),.dead,q1],?_,?_,⟨_,_,_,_,rfl⟩⟩;simp[setT,box,Vl.cl,Vl.sub,noL,Vl.slot];have U:(aE (bs.take i)).take ((aE (bs.take i)).map λs=>Vl.cl (aR s)).length=aE (bs.take i):=by simp
   rw[U] at e2;simp[cK,dM,bM,setT,freeze,Vl.slot,e2,eQ g,extend])
 obtain⟨s2,s3,s4,q,rfl⟩:=hI;have U:bs.take (bs.map λb=>Vl.cl (box b)).length=bs:=by simp
 rw[U] at e;refine bS (F:=qR) hF rfl (v:=⟨.lst ((aE bs).map aR),true,false,[]⟩) ?_;simp[qR,cK,kW,dM,bM,setT,freeze,Vl.slot,e]
end HpS
namespace Hp
open PySem (Str)
@[simp] theorem aIL (d:D):(⟨d,false,false,[]⟩:Vl)=.cl d:=id rfl
@[simp] theorem mS (d:D):(Vl.cl d).d=d:=id rfl
@[simp] theorem aKr (d:D):(Vl.cl d).fr=false:=id rfl
@[simp] theorem aKs (d:D):(Vl.cl d).pa=false:=id rfl
@[simp] theorem aKt (d:D):(Vl.cl d).al=[]:=id rfl
@[simp] theorem aIM (d:D):(Vl.cl d).slot=.sh false d:=by cases d <;> rfl
@[simp] theorem iH (ds:List D) (pa:Bool) (al:List Nat):(⟨.lst ds,true,pa,al⟩:Vl).slot=.own pa ds:=id rfl
@[simp] theorem qT (i:Nat) (d:D):Sl.val i (.sh false d)=.ok (.cl d):=id rfl
@[simp] theorem aIN (i:Nat) (pa:Bool) (k:Int):Sl.val i (.sh pa (.int k))=.ok (.cl (.int k)):=by cases pa <;> rfl
@[simp] theorem aIO (i:Nat) (pa:Bool) (k:Str):Sl.val i (.sh pa (.str k))=.ok (.cl (.str k)):=by cases pa <;> rfl
@[simp] theorem aKd (i:Nat) (pa:Bool) (k:Bool):Sl.val i (.sh pa (.bl k))=.ok (.cl (.bl k)):=by cases pa <;> rfl
@[simp] theorem aIP (i:Nat) (pa:Bool):Sl.val i (.sh pa .non)=.ok (.cl .non):=by cases pa <;> rfl
@[simp] theorem kG (i:Nat) (ds:List D):Sl.val i (.sh true (.lst ds))=.ok ⟨.lst ds,false,true,[]⟩:=id rfl
@[simp] theorem kH (i:Nat) (pa:Bool) (ds:List D):Sl.val i (.own pa ds)=.ok ⟨.lst ds,false,pa,[i]⟩:=id rfl
@[simp] theorem tI (Z:Sg) (v:Vl) (i:Nat):setT Z v (.n i)=.ok (Z.set i v.slot):=id rfl
@[simp] theorem iI (Z:Sg):freeze Z []=Z:=id rfl
@[simp] theorem aKe (b:Bool):dO (.cl (.bl b))=.ok b:=id rfl
@[simp] theorem aGm (args:List Vl) (d:D):dX args (d,false,false)=.cl d:=id rfl
@[simp] theorem mT (args:List Vl) (d:D):dX args (d,true,false)=⟨d,true,false,[]⟩:=id rfl
@[simp] theorem aGn (a b:D):cF .Eq a b=eqD a b:=id rfl
@[simp] theorem aKf (a b:D):cF .NotEq a b=(eqD a b).map (!·):=id rfl
@[simp] theorem aKg (a b:Int):cF .Lt (.int a) (.int b)=some (decide (a<b)):=id rfl
@[simp] theorem aKh (a b:Int):cF .Gt (.int a) (.int b)=some (decide (b<a)):=id rfl
@[simp] theorem aKi (a b:Int):cF .LtE (.int a) (.int b)=some (decide (a<=b)):=id rfl
@[simp] theorem aKj (a b:Int):cF .GtE (.int a) (.int b)=some (decide (b<=a)):=id rfl
theorem aDk(n:Nat)(a b:Int):eqF (n+1) (.int a) (.int b)=some (a==b):=rfl
theorem xP(n:Nat)(a b:List D):eqF (n+1) (.tup a) (.tup b)=cX n a b:=pJ n a b
@[simp] theorem aDl (a b:Int):eqD (.int a) (.int b)=some (a==b):=id rfl
@[simp] theorem aIQ (a b:Str):eqD (.str a) (.str b)=some (a==b):=id rfl
@[simp] theorem aKk (a b:Bool):eqD (.bl a) (.bl b)=some (a==b):=id rfl
@[simp] theorem aIR (P:Pg) (k:Int):isI [.tInt] P (.int k)=some true:=id rfl
@[simp] theorem aIB (P:Pg) (k:Int):isI [.tBool] P (.int k)=some false:=id rfl
@[simp] theorem aIS (P:Pg) (k:Str):isI [.tStr] P (.str k)=some true:=id rfl
@[simp] theorem aIT (P:Pg) (k:List D):isI [.tTuple] P (.tup k)=some true:=id rfl
@[simp] theorem aIU (P:Pg) (k:List D):isI [.tList] P (.lst k)=some true:=id rfl
@[simp] theorem aKl (P:Pg) (k:Bool):isI [.tBool] P (.bl k)=some true:=id rfl
@[simp] theorem add_int (i j:Int):opD .Add (.cl (.int i)) (.cl (.int j))=.ok (.cl (.int (i+j))):=id rfl
@[simp] theorem sub_int (i j:Int):opD .Sub (.cl (.int i)) (.cl (.int j))=.ok (.cl (.int (i-j))):=id rfl
theorem mul_int{i j:Int}(h:kT i j=true):opD .Mult (.cl (.int i)) (.cl (.int j))=.ok (.cl (.int (i*j))):=by show R.iff (kT i j) _=_;rw[h];rfl
theorem kI{i j:Int}(h:rQ j=true):opD .FloorDiv (.cl (.int i)) (.cl (.int j))=.ok (.cl (.int (i / j))):=by show R.iff (rQ j) _=_;rw[h];rfl
theorem cV{i j:Int}(h:0<j):opD .Mod (.cl (.int i)) (.cl (.int j))=.ok (.cl (.int (i % j))):=by show R.iff (decide (0<j)) _=_;rw[Aw h];rfl
@[simp] theorem qU (ds:List D) (fr pa:Bool) (al:List Nat):biD .len [⟨.lst ds,fr,pa,al⟩]=.ok (.cl (.int ds.length)):=id rfl
@[simp] theorem aIV (ds:List D):biD .len [.cl (.tup ds)]=.ok (.cl (.int ds.length)):=id rfl
@[simp] theorem aIC (ds:List D):biD .len [.cl (.lst ds)]=.ok (.cl (.int ds.length)):=id rfl
theorem cN{α:Type}{g:α->D}(q:∀t,noL (g t)=true):∀ts:List α,noLs (ts.map g)=true
 | []=>rfl|t::ts=>by rw[mC,noLs,q t,cN q ts];rfl
theorem mU{α:Type}{F:Vl->R (Option Vl)}{f:α->Vl}{g:α->D}{p:α->Bool}:∀{ts:List α},(∀t∈ts,F (f t)=.ok (if p t then some (.cl (g t)) else none))->cL F (ts.map f)=.ok ((ts.filter p).map λt=>.cl (g t))
 | [],_=>rfl|t::ts,h=>by
  have B:=h t Ai;have G:=mU (F:=F) (f:=f) (g:=g) (p:=p) (ts:=ts) λy I=>h y (Af _ I);show(F (f t) >>= λy=>cL F (ts.map f) >>= λys=>(match y with|some y=>R.ok (y::ys)|none=>R.ok ys))=_;rw[B,G];cases q:p t with
  | true=>rw[List.filter_cons_of_pos q];rfl|false=>rw[List.filter_cons_of_neg (by rw[q];exact bN)];rfl
theorem xQ{α:Type}{g:α->D}(q:∀t,noL (g t)=true){k:Nat}{caps al:List Nat}(ts:List α):gU k caps al (ts.map λt=>Vl.cl (g t))=⟨.lst (ts.map g),true,false,[]⟩:=by
 have e:(ts.map λt=>Vl.cl (g t)).map (·.d)=ts.map g:=by rw[AM];rfl
 rw[oG (by rw[e];exact cN q ts),e]
theorem aGo{P:Pg}{W:Caller}{Z:Sg}{k:Nat}{caps al:List Nat}{T:T}{it:It}{elt:E}{α:Type}{ts:List α}(f:α->Vl)(g:α->D)(ng:∀t,noL (g t)=true)(hw:walk P W Z it=.ok (ts.map f,al))(U:ts.length<=lim)
 (L:∀t∈ts,∃q,setT (An k .dead++caps.map λi=>((freeze Z al)[i]?).getD .dead) (f t) T=.ok q/\ev P W q elt=.ok (.cl (g t))):ev P W Z (.comp k caps T it .nil elt)=.ok ⟨.lst (ts.map g),true,false,[]⟩:=by
 rw[qO,hw,aA,mU (f:=f) (g:=g) (p:=λ_=>true) λt ht=>by
  obtain⟨q,G,I⟩:=L t ht;show(setT _ (f t) T >>= λq=>_)=_;rw[G];show(ev P W q elt >>= λy=>R.ok (some y))=_;rw[I];rfl]
 have M:ts.filter (λ_=>true)=ts:=List.filter_eq_self.mpr λ_ _=>rfl;have B:decide ((ts.map λt=>Vl.cl (g t)).length<=lim)=true:=Aw (by rw[lM];exact U);rw[aA,M,B,tF,xQ ng]
theorem qV{P:Pg}{W:Caller}{Z:Sg}{k:Nat}{caps al:List Nat}{T:T}{it:It}{c elt:E}{α:Type}{ts:List α}(f:α->Vl)(g:α->D)(p:α->Bool)(ng:∀t,noL (g t)=true)(hw:walk P W Z it=.ok (ts.map f,al))(U:ts.length<=lim)
 (M:∀t∈ts,∃q,setT (An k .dead++caps.map λi=>((freeze Z al)[i]?).getD .dead) (f t) T=.ok q/\tst P W q c=.ok (p t)/\ev P W q elt=.ok (.cl (g t))):ev P W Z (.comp k caps T it (.cons c .nil) elt)=.ok ⟨.lst ((ts.filter p).map g),true,false,[]⟩:=by
 rw[qO,hw,aA,mU (f:=f) (g:=g) (p:=p) λt ht=>by
  obtain⟨q,G,I,L⟩:=M t ht;show(setT _ (f t) T >>= λq=>_)=_;rw[G];show(tsts P W q (.cons c .nil) >>= λk=>if k then (ev P W q elt >>= λy=>R.ok (some y)) else R.ok none)=_;rw[yX,I,aA];cases hp:p t with
  | true=>rw[if_pos rfl,aBB,aA,if_pos rfl,L];rfl|false=>rfl]
 have B:decide (((ts.filter p).map λt=>Vl.cl (g t)).length<=lim)=true:=Aw (by rw[lM];exact A2 (CJ _ _) U);rw[aA,B,tF,xQ ng]
theorem oH{α:Type}{v:Vl}{g:α->D}(q:∀t,noL (g t)=true)(ts:List α):items v (ts.map g)=ts.map λt=>Vl.cl (g t):=by unfold items;rw[AM];refine Dl λt _=>?_;show Vl.sub v (g t)=_;unfold Vl.sub;rw[if_pos (q t)]
@[simp] theorem aIW {P:Pg} {W:Caller} {Z:Sg} (a b:E):ev P W Z (.lzip a b)=(ev P W Z a >>= λx=>ev P W Z b >>= λy=>match nB x.d,nB y.d with
 | some as,some bs=>.iff (decide (as.length<=lim)) (.ok (aDH x y (aAj as bs)))|_,_=>.bad):=id rfl
end Hp
namespace Hp
open PySem (Str Operator CmpOp)
section
variable {P:Pg} {W:Caller} {Z:Sg}
@[simp] theorem aIX (a l:E):ev P W Z (.sli a (.cons l .nil) .nil)=(ev P W Z a >>= λx=>ev P W Z l >>= λl=>match l.d with|.int l=>.iff (aF l) (dH x (some l) none)|_=>.bad):=by
 show(ev P W Z a >>= λx=>evs P W Z (.cons l .nil) >>= λl=>evs P W Z .nil >>= λh=>_)=_;cases ev P W Z a with
 | ok x=>
  show((ev P W Z l >>= λx=>evs P W Z .nil >>= λxs=>R.ok (x::xs)) >>= λl=>_)=(ev P W Z l >>= λl=>_)
  cases ev P W Z l <;> rfl
 | exc e=>rfl|bad=>rfl
@[simp] theorem aDm (a l h:E):ev P W Z (.sli a (.cons l .nil) (.cons h .nil))=(ev P W Z a >>= λx=>ev P W Z l >>= λl=>ev P W Z h >>= λh=>match l.d,h.d with|.int l,.int h=>.iff (aF l&&aF h) (dH x (some l) (some h))|_,_=>.bad):=by
 show(ev P W Z a >>= λx=>evs P W Z (.cons l .nil) >>= λl=>evs P W Z (.cons h .nil) >>= λh=>_)=_;cases ev P W Z a with
 | ok x=>
  show((ev P W Z l >>= λx=>evs P W Z .nil >>= λxs=>R.ok (x::xs)) >>= λl=>_)=(ev P W Z l >>= λl=>_)
  cases ev P W Z l with
  | ok l=>
   show((ev P W Z h >>= λx=>evs P W Z .nil >>= λxs=>R.ok (x::xs)) >>= λh=>_)=(ev P W Z h >>= λh=>_)
   cases ev P W Z h <;> rfl
  | exc e=>rfl|bad=>rfl
 | exc e=>rfl|bad=>rfl
end
theorem fX:∀is:List Int,noLs (is.map D.int)=true
 | []=>rfl|i::is=>by simp[noLs,noL,fX is]
theorem iJ{n k:Nat}(h:k<n):ixN n (k:Int)=some k:=by unfold ixN;rw[if_pos (HZ k),if_pos (by omega)];simp
theorem xR{v:Vl}{is:List Int}{k:Nat}(q:v.d=.lst (is.map D.int))(h:k<is.length):cS v (.cl (.int (k:Int)))=.ok (.cl (.int (is.getD k 0))):=by
 unfold cS;rw[q];have g:(is.map D.int).length=is.length:=by simp
 have e:(is.map D.int)[k]? = some (.int (is.getD k 0)):=by simp[h]
 simp only[mS,g,iJ h,e,Vl.sub,noL,if_true]
noncomputable def qW:Fn:=⟨2,5,
 (.cons (.set (.n 2) (.lst .nil))
 (.cons (.set (.n 3) (.op .Add (.op .Mod (.v 0) (.c (.int 2147483647))) (.c (.int 48271))))
 (.cons (.for (.n 4) (.rng (.c (.int 0)) (.op .Add (.v 1) (.c (.int 1))))
  (.cons (.set (.n 3) (.op .Mod (.op .Add (.op .Add (.op .Mult (.v 3) (.v 3)) (.op .Mult (.c (.int 48271)) (.v 3))) (.v 4)) (.c (.int 2147483647))))
  (.cons (.app 2 (.v 3))
  .nil)))
 (.cons (.ret (.sli (.v 2) (.cons (.c (.int 1)) .nil) .nil))
 .nil))))⟩
noncomputable def num(c:Int):Nat->Int
 | 0=>c % 2147483647+48271|k+1=>(num c k*num c k+48271*num c k+(k:Int)) % 2147483647
theorem aDn(c:Int):∀k,0<=num c k/\num c k<2147531918
 | 0=>by have h0:0<=c % 2147483647:=C6 _ (by decide);have g:c % 2147483647<2147483647:=BR _ (by decide);unfold num;omega|k+1=>by unfold num;have h0:=C6 (num c k*num c k+48271*num c k+(k:Int)) (show(2147483647:Int)≠0 by decide);have g:=BR (num c k*num c k+48271*num c k+(k:Int)) (show(0:Int)<2147483647 by decide);omega
noncomputable def aDo(c:Int)(m:Nat):List Int:=(AA m).map λi=>num c (i+2)
theorem oJ{P:Pg}{f:Nat}(W:P.fns[f]? = some qW)(n:Nat)(c:Int){m:Nat}(hm:m<=1000):call P (n+1) f [.int c,.int m]=.ok (.lst ((aDo c m).map D.int),true,false):=by
 have L:∀i:Int,opD .Mod (.cl (.int i)) (.cl (.int 2147483647))=.ok (.cl (.int (i % 2147483647))):=λi=>cV (by decide);have hw:walk P (call P n) [.sh true (.int c),.sh true (.int m),.own false [],.sh false (.int (num c 0)),.dead] (.rng (.c (.int 0)) (.op .Add (.v 1) (.c (.int 1))))=.ok ((AA (m+1)).map λ(k:Nat)=>Vl.cl (.int (k:Int)),[]):=by refine eP (v:=.cl (.int ((m+1:Nat):Int))) ?_ rfl (by omega);simp[cR]
 obtain⟨Z',e,hI⟩:=gN (t:=.n 4) (b:=(.cons (.set (.n 3) (.op .Mod (.op .Add (.op .Add (.op .Mult (.v 3) (.v 3)) (.op .Mult (.c (.int 48271)) (.v 3))) (.v 4)) (.c (.int 2147483647))))
  (.cons (.app 2 (.v 3))
  .nil)))
   (λk Z=>∃s4,Z=[.sh true (.int c),.sh true (.int m),.own false ((AA k).map λi=>.int (num c (i+1))),.sh false (.int (num c k)),s4]) hw ⟨_,rfl⟩ (λk hk Z I=>by
    obtain⟨s4,rfl⟩:=I;have q0:k<m+1:=by simpa using hk
    obtain⟨r0,r1⟩:=aDn c k;have m1:opD .Mult (.cl (.int (num c k))) (.cl (.int (num c k)))=.ok (.cl (.int (num c k*num c k))):=mul_int (by
     simp only[kT,B8,bA,Ax];right;omega)
    have m2:opD .Mult (.cl (.int 48271)) (.cl (.int (num c k)))=.ok (.cl (.int (48271*num c k))):=mul_int (by
     simp only[kT,B8,bA,Ax];right;omega)
    have q:k+1<=lim:=by unfold lim;omega
    have G:(AA (k+1)).map (λi=>D.int (num c (i+1)))=(AA k).map (λi=>D.int (num c (i+1)))++[.int (num c (k+1))]:=by rw[Jw];simp
    refine⟨[.sh true (.int c),.sh true (.int m),.own false ((AA k).map λi=>.int (num c (i+1))),.sh false (.int (num c k)),.sh false (.int k)],
     [.sh true (.int c),.sh true (.int m),.own false ((AA (k+1)).map λi=>.int (num c (i+1))),.sh false (.int (num c (k+1))),.sh false (.int k)],?_,?_,⟨_,rfl⟩⟩
    simp;rw[G];simp[cR,m1,m2,L,put,jG,q,num])
 obtain⟨s4,rfl⟩:=hI;have U:((AA (m+1)).map λ(k:Nat)=>Vl.cl (.int (k:Int))).length=m+1:=by simp
 rw[U] at e;have B:noLs ((AA (m+1)).map λi=>D.int (num c (i+1)))=true:=by
  have:(AA (m+1)).map (λi=>D.int (num c (i+1)))=((AA (m+1)).map λi=>num c (i+1)).map D.int:=by simp
  rw[this];exact fX _
 have g:cut ((AA (m+1)).map λi=>D.int (num c (i+1))) (some 1) none=(aDo c m).map D.int:=by
  unfold cut sIx;simp only[lM,B3];have M:min (1:Int).toNat (m+1)=1:=by simp
  rw[if_neg (by decide),M,Ce (by simp),G5];simp[aDo,E4]
 have s1:aF 1=true:=by decide
 refine bS (F:=qW) W rfl (v:=⟨.lst ((aDo c m).map D.int),true,false,[]⟩) ?_;have e:ex P (call P n) [.sh true (.int c),.sh true (.int m),.own false [],.sh false (.int (c % 2147483647+48271)),.dead] _=_:=e;simp[qW,cR,L,cK,dM,bM,e,s1,dH,B,g]
end Hp
namespace K30
open Hp
noncomputable def f0:Hp.Fn:=⟨1,6,
 (.cons (.set (.n 1) (.lst (.cons (.tup .nil) .nil)))
 (.cons (.for (.t [2,3]) (.seq (.v 0))
  (.cons (.set (.n 4) (.lst .nil))
  (.cons (.for (.n 5) (.seq (.v 1))
   (.cons (.ext 4 (.comp 1 [5] (.n 0) (.rng (.c (.int 0)) (.op .Add (.v 3) (.c (.int 1)))) .nil (.op .Add (.v 1) (.tup (.cons (.v 0) .nil)))))
   .nil))
  (.cons (.mov 1 4)
  .nil))))
 (.cons (.retv 1)
 .nil)))⟩
noncomputable def f1:Hp.Fn:=⟨2,3,
 (.cons (.set (.n 2) (.sop .Sub (.v 0) (.v 1)))
 (.cons (.ret (.ife (.v 2) (.idx (.v 2) (.c (.int 0))) (.c .non)))
 .nil))⟩
noncomputable def f2:Hp.Fn:=⟨2,2,
 (.cons (.ret (.sop .BitOr (.v 0) (.v 1)))
 .nil)⟩
noncomputable def f3:Hp.Fn:=⟨2,2,
 (.cons (.ret (.sop .BitAnd (.v 0) (.v 1)))
 .nil)⟩
noncomputable def f4:Hp.Fn:=⟨2,5,
 (.cons (.set (.n 2) (.lst .nil))
 (.cons (.set (.n 3) (.op .Add (.op .Mod (.v 0) (.c (.int 2147483647))) (.c (.int 48271))))
 (.cons (.for (.n 4) (.rng (.c (.int 0)) (.op .Add (.v 1) (.c (.int 1))))
  (.cons (.set (.n 3) (.op .Mod (.op .Add (.op .Add (.op .Mult (.v 3) (.v 3)) (.op .Mult (.c (.int 48271)) (.v 3))) (.v 4)) (.c (.int 2147483647))))
  (.cons (.app 2 (.v 3))
  .nil)))
 (.cons (.ret (.sli (.v 2) (.cons (.c (.int 1)) .nil) .nil))
 .nil))))⟩
noncomputable def f5:Hp.Fn:=⟨1,2,
 (.cons (.set (.n 1) (.sli (.lst (.cons (.op .Add (.c (.int 1)) (.op .Mod (.idx (.v 0) (.c (.int 0))) (.c (.int 4)))) (.cons (.op .Add (.c (.int 1)) (.op .Mod (.idx (.v 0) (.c (.int 1))) (.c (.int 2)))) (.cons (.c (.int 1)) .nil)))) .nil (.cons (.op .Add (.c (.int 1)) (.op .Mod (.idx (.v 0) (.c (.int 2))) (.c (.int 3)))) .nil)))
 (.cons (.iff (.an (.cmp .Eq (.bi .len (.cons (.v 1) .nil)) (.c (.int 3))) (.cmp .Gt (.op .Mult (.idx (.v 1) (.c (.int 0))) (.idx (.v 1) (.c (.int 1)))) (.c (.int 6))))
  (.cons (.pop none 1 none)
  .nil)
  .nil)
 (.cons (.iff (.cmp .Eq (.op .Mod (.op .FloorDiv (.idx (.v 0) (.c (.int 0))) (.c (.int 4))) (.c (.int 5))) (.c (.int 0)))
  (.cons (.set (.n 1) (.idx (.lst (.cons (.lst (.cons (.c (.int 7)) (.cons (.c (.int 2)) .nil))) (.cons (.lst (.cons (.c (.int 2)) (.cons (.c (.int 1)) (.cons (.c (.int 1)) (.cons (.c (.int 1)) .nil))))) (.cons (.lst (.cons (.c (.int 1)) (.cons (.c (.int 1)) (.cons (.c (.int 1)) (.cons (.c (.int 2)) .nil))))) (.cons (.lst (.cons (.c (.int 5)) (.cons (.c (.int 3)) .nil))) .nil))))) (.op .Mod (.op .FloorDiv (.idx (.v 0) (.c (.int 1))) (.c (.int 2))) (.c (.int 4)))))
  .nil)
  .nil)
 (.cons (.ret (.comp 1 [1] (.n 0) (.rng (.c (.int 0)) (.bi .len (.cons (.v 1) .nil))) .nil (.tup (.cons (.idx (.c (.str "abcd")) (.v 0)) (.cons (.idx (.v 1) (.v 0)) .nil)))))
 .nil))))⟩
noncomputable def f6:Hp.Fn:=⟨1,3,
 (.cons (.set (.n 1) (.lst .nil))
 (.cons (.for (.n 2) (.seq (.v 0))
  (.cons (.ext 1 (.comp 1 [2] (.n 0) (.seq (.v 0)) (.cons (.cmp .NotEq (.v 0) (.v 1)) .nil) (.tup (.cons (.v 1) (.cons (.v 0) .nil)))))
  .nil))
 (.cons (.retv 1)
 .nil)))⟩
noncomputable def f7:Hp.Fn:=⟨3,6,
 (.cons (.dnew 3)
 (.cons (.for (.n 4) (.seq (.sli (.v 0) (.cons (.v 1) .nil) (.cons (.op .Add (.v 1) (.c (.int 20))) .nil)))
  (.cons (.set (.n 5) (.call 4 (.cons (.v 4) (.cons (.c (.int 2)) .nil))))
  (.cons (.dput 3 (.idx (.v 2) (.op .Mod (.idx (.v 5) (.c (.int 0))) (.bi .len (.cons (.v 2) .nil)))))
  (.cons (.iff (.cmp .Gt (.op .Mod (.idx (.v 5) (.c (.int 1))) (.c (.int 3))) (.c (.int 0)))
   (.cons (.dput 3 (.idx (.v 2) (.op .Mod (.op .FloorDiv (.idx (.v 5) (.c (.int 1))) (.c (.int 3))) (.bi .len (.cons (.v 2) .nil)))))
   .nil)
   .nil)
  .nil))))
 (.cons (.ret (.srtD 3))
 .nil)))⟩
noncomputable def f8:Hp.Fn:=⟨3,5,
 (.cons (.iff (.cmp .Eq (.op .Mod (.idx (.v 0) (.c (.int 3))) (.c (.int 5))) (.c (.int 0)))
  (.cons (.retv 2)
  .nil)
  .nil)
 (.cons (.iff (.cmp .Eq (.op .Mod (.idx (.v 0) (.c (.int 3))) (.c (.int 5))) (.c (.int 1)))
  (.cons (.ret (.bi .list (.cons (.v 1) .nil)))
  .nil)
  .nil)
 (.cons (.set (.n 3) (.comp 1 [0,1] (.n 0) (.rng (.c (.int 0)) (.bi .len (.cons (.v 1) .nil))) (.cons (.cmp .Gt (.op .Mod (.op .FloorDiv (.idx (.v 1) (.c (.int 4))) (.op .Add (.v 0) (.c (.int 1)))) (.c (.int 3))) (.c (.int 0))) .nil) (.idx (.v 2) (.v 0))))
 (.cons (.set (.n 4) (.comp 1 [0,2] (.n 0) (.rng (.c (.int 0)) (.bi .len (.cons (.v 2) .nil))) (.cons (.cmp .Eq (.op .Mod (.op .FloorDiv (.idx (.v 1) (.c (.int 5))) (.op .Add (.v 0) (.c (.int 1)))) (.c (.int 3))) (.c (.int 0))) .nil) (.idx (.v 2) (.v 0))))
 (.cons (.ret (.sst (.op .Add (.v 3) (.v 4))))
 .nil)))))⟩
noncomputable def f9:Hp.Fn:=⟨1,1,
 (.cons (.iff (.orr (.nt (.isi (.v 0) [.tTuple])) (.cmp .NotEq (.bi .len (.cons (.v 0) .nil)) (.c (.int 2))))
  (.cons (.ret (.c (.bl false)))
  .nil)
  .nil)
 (.cons (.ret (.an (.isi (.idx (.v 0) (.c (.int 0))) [.tTuple]) (.isi (.idx (.v 0) (.c (.int 1))) [.tTuple])))
 .nil))⟩
noncomputable def f10:Hp.Fn:=⟨2,7,
 (.cons (.dnew 2)
 (.cons (.for (.n 3) (.seq (.v 1))
  (.cons (.dput 2 (.v 3))
  .nil))
 (.cons (.set (.n 4) (.comp 1 [2] (.n 0) (.seq (.v 0)) (.cons (.dnin (.v 0) 1) .nil) (.v 0)))
 (.cons (.set (.n 5) (.lst (.cons (.bi .list (.cons (.v 0) .nil)) (.cons (.bi .list (.cons (.v 1) .nil)) .nil))))
 (.cons (.set (.n 6) (.call 1 (.cons (.idx (.v 5) (.c (.int 0))) (.cons (.idx (.v 5) (.c (.int 1))) .nil))))
 (.cons (.iff (.cmp .NotEq (.v 5) (.lst (.cons (.v 0) (.cons (.v 1) .nil))))
  (.cons (.ret (.c (.bl false)))
  .nil)
  .nil)
 (.cons (.iff (.cmp .Eq (.v 4) (.lst .nil))
  (.cons (.ret (.cmp .Is (.v 6) (.c .non)))
  .nil)
  .nil)
 (.cons (.ret (.an (.call 9 (.cons (.v 6) .nil)) (.cmp .Eq (.v 6) (.idx (.v 4) (.c (.int 0))))))
 .nil))))))))⟩
noncomputable def f11:Hp.Fn:=⟨1,6,
 (.cons (.set (.n 1) (.call 4 (.cons (.idx (.op .Add (.v 0) (.lst (.cons (.c (.int 0)) .nil))) (.c (.int 0))) (.cons (.c (.int 7)) .nil))))
 (.cons (.set (.n 2) (.call 6 (.cons (.call 0 (.cons (.call 5 (.cons (.v 1) .nil)) .nil)) .nil)))
 (.cons (.set (.n 3) (.call 7 (.cons (.v 0) (.cons (.c (.int 1)) (.cons (.v 2) .nil)))))
 (.cons (.iff (.cmp .Eq (.op .Mod (.idx (.v 1) (.c (.int 6))) (.c (.int 9))) (.c (.int 0)))
  (.cons (.set (.n 3) (.bi .list (.cons (.v 2) .nil)))
  .nil)
  .nil)
 (.cons (.set (.n 4) (.call 8 (.cons (.v 1) (.cons (.v 3) (.cons (.call 7 (.cons (.v 0) (.cons (.c (.int 21)) (.cons (.v 2) .nil)))) .nil)))))
 (.cons (.iff (.orr (.nt (.call 10 (.cons (.v 3) (.cons (.v 4) .nil)))) (.nt (.call 10 (.cons (.v 4) (.cons (.v 3) .nil)))))
  (.cons (.ret (.c (.bl false)))
  .nil)
  .nil)
 (.cons (.for (.n 5) (.seq (.lst (.cons (.v 3) (.cons (.v 4) .nil))))
  (.cons (.iff (.orr (.cmp .IsNot (.call 1 (.cons (.v 5) (.cons (.bi .list (.cons (.v 5) .nil)) .nil))) (.c .non)) (.cmp .IsNot (.call 1 (.cons (.lst .nil) (.cons (.v 5) .nil))) (.c .non)))
   (.cons (.ret (.c (.bl false)))
   .nil)
   .nil)
  (.cons (.iff (.cmp .IsNot (.call 1 (.cons (.v 5) (.cons (.call 2 (.cons (.v 3) (.cons (.v 4) .nil))) .nil))) (.c .non))
   (.cons (.ret (.c (.bl false)))
   .nil)
   .nil)
  (.cons (.iff (.cmp .IsNot (.call 1 (.cons (.call 3 (.cons (.v 3) (.cons (.v 4) .nil))) (.cons (.v 5) .nil))) (.c .non))
   (.cons (.ret (.c (.bl false)))
   .nil)
   .nil)
  .nil))))
 (.cons (.ret (.an (.call 10 (.cons (.v 4) (.cons (.lst .nil) .nil))) (.call 10 (.cons (.call 2 (.cons (.v 3) (.cons (.v 4) .nil))) (.cons (.v 3) .nil)))))
 .nil))))))))⟩
noncomputable def pg:Hp.Pg:=⟨[f0,f1,f2,f3,f4,f5,f6,f7,f8,f9,f10,f11],[],[]⟩
end K30
namespace K30
open Hp HpS PySem L2
noncomputable def drp:Nat->Ss->Ss
 | 0,s=>s|n+1,.cons _ r=>drp n r|_+1,.nil=>.nil
noncomputable def hdS:Ss->S
 | .cons s _=>s|.nil=>.pass
theorem stp{P:Pg}{W:Caller}{Z Z':Sg}{s:S}{ss:Ss}(h:ex P W Z s=.next Z'):exs P W Z (.cons s ss)=exs P W Z' ss:=by rw[aU,h,aIw]
theorem mV:∀is:List Int,bD (is.map D.int)=some is
 | []=>rfl|i::is=>by rw[mC,bD,mV is]
theorem oK:∀k:NK,kX (k.map λt=>D.tup (t.map .int))=some k
 | []=>rfl|t::k=>by rw[mC,kX,mV,oK k]
theorem fY(k:NK):eX (nestD k)=some k:=oK k
theorem eR:∀ks:List NK,cP (ks.map nestD)=some ks
 | []=>rfl|k::ks=>by rw[mC,cP,fY,eR ks]
theorem aZ(k:NK):noL (nestD k)=true:=by show noLs (k.map λt=>D.tup (t.map .int))=true;exact cN (λt=>mR t) k
theorem oM(n:Nat):∀as bs:List Int,cX (n+1) (as.map D.int) (bs.map D.int)=some (as==bs)
 | [],[]=>rfl|[],_::_=>rfl|_::_,[]=>rfl|a::as,b::bs=>by rw[mC,mC,cX,aDk,oM n as bs];rfl
theorem tJ(n:Nat)(a b:List Int):eqF (n+2) (aR a) (aR b)=some (a==b):=by unfold aR;rw[xP,oM]
theorem aBG(a b:List Int):eqD (aR a) (aR b)=some (a==b):=tJ 118 a b
theorem jE{α:Type}(g:α->D)(n:Nat)(h:∀a,eqF n (g a) (g a)=some true):∀as:List α,cX n (as.map g) (as.map g)=some true
 | []=>rfl|a::as=>by rw[mC,cX,h a,jE g n h as];rfl
theorem tK(n:Nat)(k:NK):eqF (n+3) (nestD k) (nestD k)=some true:=by unfold nestD;rw[xP];exact jE _ _ (λt=>(tJ n t t).trans (by rw[beq_self_eq_true])) k
theorem tL(n:Nat)(ks:List NK):eqF (n+4) (.lst (ks.map nestD)) (.lst (ks.map nestD))=some true:=by show(if (ks.map nestD).length=(ks.map nestD).length then eqL (eqF (n+3)) (ks.map nestD) (ks.map nestD) else some false)=_;rw[if_pos rfl,pJ];exact jE _ _ (tK n) ks
theorem aDp(ks g:List NK):eqD (.lst [.lst (ks.map nestD),.lst (g.map nestD)]) (.lst [.lst (ks.map nestD),.lst (g.map nestD)])=some true:=by show(if 2=2 then eqL (eqF 119) [.lst (ks.map nestD),.lst (g.map nestD)] [.lst (ks.map nestD),.lst (g.map nestD)] else some false)=_;rw[if_pos rfl,pJ,cX,tL 115,cX,tL 115];rfl
theorem dF(x:NK×D)(m:List (NK×D))(k:NK):eT (x::m) k=if x.1=k then some x.2 else eT m k:=by unfold eT;rw[GH];by_cases h:x.1=k;rw[Aw h,if_pos h];rfl;rw[Ar h,if_neg h]
theorem tM(k:NK)(v:D)(B:NK):∀m:List (NK×D),eT (m.map λx=>if x.1=k then (x.1,v) else x) B=if B=k/\k∈m.map (·.1) then some v else eT m B
 | []=>by rw[if_neg (λz=>nomatch z.2)];rfl|x::m=>by
  rw[mC,dF,dF,tM k v B m];by_cases G:x.1=k;subst G;rw[if_pos rfl];by_cases g:x.1=B;rw[if_pos g,if_pos ⟨g.symm,Ai⟩];rw[if_neg g,if_neg g,if_neg λz=>g z.1.symm,if_neg λz=>g z.1.symm];rw[if_neg G];by_cases g:x.1=B;rw[if_pos g,if_pos g,if_neg λz=>G (g.trans z.1)];rw[if_neg g,if_neg g];by_cases L:B=k;have:(B=k/\k∈m.map (·.1))↔(B=k/\k∈(x::m).map (·.1)):=by rw[mC,Al];exact⟨λz=>⟨z.1,.inr z.2⟩,λz=>⟨z.1,z.2.resolve_left λq=>G q.symm⟩⟩
  by_cases I:B=k/\k∈m.map (·.1);rw[if_pos I,if_pos (this.mp I)];rw[if_neg I,if_neg λz=>I (this.mpr z)];rw[if_neg λz=>L z.1,if_neg λz=>L z.1]
theorem fM(k:NK):∀m:List (NK×D),k∈m.map (·.1)↔eT m k≠none
 | []=>⟨(λz=>absurd z EI),(λz=>absurd rfl z)⟩
 | x::m=>by rw[dF,mC,Al,fM k m];by_cases h:x.1=k;rw[if_pos h];exact⟨λ_=>nofun,λ_=>.inl h.symm⟩;rw[if_neg h];exact⟨λz=>z.resolve_left λq=>h q.symm,.inr⟩
theorem tN(k:NK)(v:D)(g:NK):∀m:List (NK×D),k∉m.map (·.1)->eT (m++[(k,v)]) g=if g=k then some v else eT m g
 | [],_=>by rw[Dz,dF];by_cases h:k=g;rw[if_pos h,if_pos h.symm];rw[if_neg h,if_neg λz=>h z.symm]|x::m,hk=>by rw[mC,Al,not_or] at hk;rw[List.cons_append,dF,dF,tN k v g m hk.2];by_cases h:x.1=g;rw[if_pos h,if_pos h,if_neg λz=>hk.1 (h.trans z).symm];rw[if_neg h,if_neg h]
theorem tO(m:List (NK×D))(k:NK)(v:D)(g:NK):eT (putK m (k,v)) g=if g=k then some v else eT m g:=by unfold putK;by_cases h:k∈m.map (·.1);rw[if_pos h];refine(tM k v g m).trans ?_;by_cases e:g=k;rw[if_pos e,if_pos ⟨e,h⟩];rw[if_neg e,if_neg λz=>e z.1];rw[if_neg h];exact tN k v g m h
theorem qX(m:List (NK×D))(p:NK×D):(putK m p).length<=m.length+1:=by unfold putK;split;rw[lM];omega;rw[lA];exact Ak _
theorem put_mem(m:List (NK×D))(p:NK×D){k:NK}(h:k∈(putK m p).map (·.1)):k=p.1\/k∈m.map (·.1):=by rw[fM,show p=(p.1,p.2) from rfl,tO] at h;by_cases e:k=p.1;exact .inl e;rw[if_neg e] at h;exact .inr ((fM k m).mpr h)
theorem qY{ks:List NK}(h:ks.Pairwise (lexN · ·=true)):ssN ks=ks:=(aBd h λ_=>LG).symm
theorem tP:∀{a b:List Int} (x y:List Int),a.length=b.length->lexJ a b=true->lexJ (a++x) (b++y)=true
 | [],[],_,_,_,h=>by cases h|[],_::_,_,_,h,_=>by cases h|_::_,[],_,_,h,_=>by cases h|p::a,q::b,x,y,hl,h=>by show(if p=q then lexJ (a++x) (b++y) else ltI p q)=true;have h:(if p=q then lexJ a b else ltI p q)=true:=h;by_cases e:p=q;rw[if_pos e] at h ⊢;exact tP x y (Nat.succ.inj hl) h;rw[if_neg e] at h ⊢;exact h
theorem tQ{p q:Int}(h:p<q):∀a:List Int,lexJ (a++[p]) (a++[q])=true
 | []=>by show(if p=q then lexJ [] [] else ltI p q)=true;rw[if_neg (by omega)];exact Aw h|x::a=>by show(if x=x then lexJ (a++[p]) (a++[q]) else ltI x x)=true;rw[if_pos rfl];exact tQ h a
theorem tR{found:List (List Int)}{n:Nat}(top:Int)(h:found.Pairwise (lexJ · ·=true))(B:∀s∈found,s.length=n):(extend found top).Pairwise (lexJ · ·=true)/\∀s∈extend found top,s.length=n+1:=by refine⟨GS.mpr ⟨λb _=>?_,?_⟩,λs hs=>?_⟩;unfold bO;exact C2.mpr (E2.imp λ{p q} z=>tQ (by omega) b);refine(E5.mpr λ{a b} z=>?_);have r:=E5.mp h z;have L:=B a (z.subset (by simp));have g:=B b (z.subset (by simp));intro x G y I;unfold bO at G I;obtain⟨i,_,rfl⟩:=Ag.mp G;obtain⟨j,_,rfl⟩:=Ag.mp I;exact tP _ _ (L.trans g.symm) r;obtain⟨b,g,hs⟩:=DT.mp hs;unfold bO at hs;obtain⟨i,_,rfl⟩:=Ag.mp hs;rw[lA,B b g];rfl
theorem oN:∀(bs:List (Str×Int)) {found:List (List Int)} {n:Nat},found.Pairwise (lexJ · ·=true)->(∀s∈found,s.length=n)->(bs.foldl (λfound b=>extend found b.2) found).Pairwise (lexJ · ·=true)
 | [],_,_,h,_=>h|b::bs,_,_,h,hl=>oN bs (tR b.2 h hl).1 (tR b.2 h hl).2
theorem jL(bs:List (Str×Int)):(aE bs).Pairwise (lexJ · ·=true):=oN bs (n:=0) (C1 _ _) λs hs=>by rw[A3.mp hs];rfl
noncomputable def pairsL(ss:List (List Int)):List NK:=ss.flatMap λa=>(ss.filter λb=>!(b==a)).map λb=>[a,b]
theorem vJ{ss:List (List Int)}(h:ss.Pairwise (lexJ · ·=true)):(pairsL ss).Pairwise (lexN · ·=true):=by refine GS.mpr ⟨λa _=>?_,?_⟩;refine C2.mpr ((h.sublist Ho).imp λ{p q} z=>?_);show(if a=a then lexN [p] [q] else lexJ a a)=true;rw[if_pos rfl];show(if p=q then lexN [] [] else lexJ p q)=true;rw[if_neg λe=>by subst e;exact bN ((qD.lex.ir _).symm.trans z)];exact z;refine h.imp λ{a b} z x g y B=>?_;obtain⟨p,_,rfl⟩:=Ag.mp g;obtain⟨q,_,rfl⟩:=Ag.mp B;show(if a=b then lexN [p] [q] else lexJ a b)=true;rw[if_neg λe=>by subst e;exact bN ((qD.lex.ir _).symm.trans z)];exact z
theorem aBH{ss:List (List Int)}{k:NK}(h:k∈pairsL ss):∃a b,k=[a,b]:=by obtain⟨a,_,h⟩:=DT.mp h;obtain⟨b,_,rfl⟩:=Ag.mp h;exact⟨a,b,rfl⟩
theorem mW{α g:Type}(f:α->List g)(c:Nat)(h:∀a,(f a).length<=c):∀l:List α,(l.flatMap f).length<=l.length*c
 | []=>AS _|a::l=>by rw[FR,lA,lC,Ik];have:=h a;have:=mW f c h l;omega
theorem zB(ss:List (List Int)):(pairsL ss).length<=ss.length*ss.length:=mW _ _ (λa=>by rw[lM];exact CJ _ _) ss
noncomputable def bsT(T:List Int):List (Str×Int):=(AA T.length).map λk=>((⟨#[97+k]⟩:Str),T.getD k 0)
theorem aDq{k:Nat}(h:k<4):cS (.cl (.str "abcd")) (.cl (.int (k:Int)))=.ok (.cl (.str ⟨#[97+k]⟩)):=by rcases(show k=0\/k=1\/k=2\/k=3 by omega) with rfl|rfl|rfl|rfl <;> rfl
theorem aDr{T:List Int}(G:T.length<=4)(W:Caller)(g s1:Sl)(h:s1=.own false (T.map D.int)\/s1=.sh false (.lst (T.map D.int))):exs pg W [g,s1] (drp 3 f5.body)=.ret ⟨.lst (bW (bsT T)),true,false,[]⟩:=by
 have q:∃v:Vl,(∀i,Sl.val i s1=.ok ⟨.lst (T.map D.int),false,false,match s1 with|.own _ _=>[i]|_=>[]⟩):=by rcases h with rfl|rfl <;> exact⟨.cl .non,λi=>rfl⟩
 obtain⟨_,q⟩:=q;have M:((T.map D.int).length:Int)=(T.length:Int):=by rw[lM]
 have L:walk pg W [g,s1] (.rng (.c (.int 0)) (.bi .len (.cons (.v 1) .nil)))=.ok ((AA T.length).map λ(k:Nat)=>Vl.cl (.int (k:Int)),[]):=by refine eP (v:=.cl (.int (T.length:Int))) ?_ rfl (by omega);simp only[jJ,aI,aT,qN,cR,gS,gZ,q,aA,qU,M]
 have I:ev pg W [g,s1] (.comp 1 [1] (.n 0) (.rng (.c (.int 0)) (.bi .len (.cons (.v 1) .nil))) .nil (.tup (.cons (.idx (.c (.str "abcd")) (.v 0)) (.cons (.idx (.v 1) (.v 0)) .nil))))=.ok ⟨.lst ((AA T.length).map λk=>box (⟨#[97+k]⟩,T.getD k 0)),true,false,[]⟩:=
  aGo (λ(k:Nat)=>Vl.cl (.int (k:Int))) (λk=>box (⟨#[97+k]⟩,T.getD k 0)) (λ_=>aDi _) L (by rw[B3];exact A2 G (by decide)) λk B=>by have B:=Bb.mp B;refine⟨[.sh false (.int (k:Int)),s1],rfl,?_⟩;have ix:∀al,cS ⟨.lst (T.map D.int),false,false,al⟩ (.cl (.int (k:Int)))=.ok (.cl (.int (T.getD k 0))):=λal=>xR rfl B;simp only[aGi,dU,aI,aT,qN,cE,cR,gS,gZ,q,qT,aA,aDq (k:=k) (by omega),ix];rfl
 show exs pg W [g,s1] (.cons (.ret _) .nil)=_;rw[aU,dW,I];show O.ret _=_;unfold bW bsT;rw[AM];rfl
structure Gd (T:List Int):Prop where
 tops:yY (bsT T)
 pos:1<=(bsT T).length
 few:T.length<=4
theorem gd1{a:Int}(h0:1<=a)(q:a<=4):Gd [a] where
 tops:=⟨show 1<=5 by decide,λb g=>by
  rw[A3.mp g];exact⟨h0,show a<=7 by omega⟩,show 1*(a+1)<=24 by omega⟩
 pos:=show 1<=1 by decide
 few:=show 1<=4 by decide
theorem gd2{a b:Int}(h0:1<=a)(G:a<=7)(q:1<=b)(B:b<=7)(I:(a+1)*(b+1)<=24):Gd [a,b] where
 tops:=⟨show 2<=5 by decide,λc g=>by
  rcases Al.mp g with rfl|g;exact⟨h0,G⟩;rw[A3.mp g];exact⟨q,B⟩,show 1*(a+1)*(b+1)<=24 by rw[Li];exact I⟩
 pos:=show 1<=2 by decide
 few:=show 2<=4 by decide
theorem gd3{a b:Int}(h0:1<=a)(I:a<=4)(q:1<=b)(G:b<=2)(B:(a+1)*(b+1)*(1+1)<=24):Gd [a,b,1] where
 tops:=⟨show 3<=5 by decide,λc g=>by
  rcases Al.mp g with rfl|g;exact⟨h0,show a<=7 by omega⟩;rcases Al.mp g with rfl|g;exact⟨q,show b<=7 by omega⟩;rw[A3.mp g];exact⟨show(1:Int)<=1 by decide,show(1:Int)<=7 by decide⟩,show 1*(a+1)*(b+1)*(1+1)<=24 by rw[Li];exact B⟩
 pos:=show 1<=3 by decide
 few:=show 3<=4 by decide
theorem gd4{a b c d:Int}(g:[a,b,c,d]=[2,1,1,1]\/[a,b,c,d]=[1,1,1,2]):Gd [a,b,c,d] where
 tops:=by rcases g with h|h <;> (rw[h];exact⟨by decide,by decide,by decide⟩)
 pos:=show 1<=4 by decide
 few:=show 4<=4 by decide
theorem aBI(n:Nat)(G q I x3 x4 x5 x6:Int):∃bs,yY bs/\1<=bs.length/\call pg (n+1) 5 [.lst ([G,q,I,x3,x4,x5,x6].map D.int)]=.ok (.lst (bW bs),true,false):=by
 have a0:0<=G % 4:=C6 _ (by decide);have a1:G % 4<4:=BR _ (by decide);have b0:0<=q % 2:=C6 _ (by decide);have b1:q % 2<2:=BR _ (by decide);have c0:0<=I % 3:=C6 _ (by decide);have c1:I % 3<3:=BR _ (by decide);have r0:0<=q / 2 % 4:=C6 _ (by decide);have r1:q / 2 % 4<4:=BR _ (by decide)
 let g:Sl:=.sh true (.lst [.int G,.int q,.int I,.int x3,.int x4,.int x5,.int x6])
 have m4:∀i:Int,opD .Mod (.cl (.int i)) (.cl (.int 4))=.ok (.cl (.int (i % 4))):=λi=>cV (by decide);have m2:∀i:Int,opD .Mod (.cl (.int i)) (.cl (.int 2))=.ok (.cl (.int (i % 2))):=λi=>cV (by decide);have m3:∀i:Int,opD .Mod (.cl (.int i)) (.cl (.int 3))=.ok (.cl (.int (i % 3))):=λi=>cV (by decide);have m5:∀i:Int,opD .Mod (.cl (.int i)) (.cl (.int 5))=.ok (.cl (.int (i % 5))):=λi=>cV (by decide);have d4:∀i:Int,opD .FloorDiv (.cl (.int i)) (.cl (.int 4))=.ok (.cl (.int (i / 4))):=λi=>kI (by decide);have d2:∀i:Int,opD .FloorDiv (.cl (.int i)) (.cl (.int 2))=.ok (.cl (.int (i / 2))):=λi=>kI (by decide);have i0:∀s1,ev pg (call pg n) [g,s1] (.idx (.v 0) (.c (.int 0)))=.ok (.cl (.int G)):=λ_=>rfl;have i1:∀s1,ev pg (call pg n) [g,s1] (.idx (.v 0) (.c (.int 1)))=.ok (.cl (.int q)):=λ_=>rfl;have i2:∀s1,ev pg (call pg n) [g,s1] (.idx (.v 0) (.c (.int 2)))=.ok (.cl (.int I)):=λ_=>rfl;have sk:aF (1+I % 3)=true:=qP (by omega) (by omega);have hm:cK [.cl (.int (1+G % 4)),.cl (.int (1+q % 2)),.cl (.int 1)]=⟨.lst [.int (1+G % 4),.int (1+q % 2),.int 1],true,false,[]⟩:=rfl;have e1:ex pg (call pg n) [g,.dead] (hdS f5.body)=.next [g,.own false (cut [.int (1+G % 4),.int (1+q % 2),.int 1] none (some (1+I % 3)))]:=by simp only[f5,hdS,cA,aDe,jD,aI,aT,cQ,cE,i0,i1,i2,aA,m4,m2,m3,add_int,hm,mS,sk,tF];rfl
 generalize ha:1+G % 4=a at e1;generalize hb:1+q % 2=b at e1;have e2:∃T,Gd T/\ex pg (call pg n) [g,.own false (cut [.int a,.int b,.int 1] none (some (1+I % 3)))] (hdS (drp 1 f5.body))=.next [g,.own false (T.map D.int)]:=by
  have p2:(a+1)*(b+1)<=24:=by rcases(show b=1\/b=2 by omega) with rfl|rfl <;> omega
  rcases(show I % 3=0\/I % 3=1\/I % 3=2 by omega) with h|h|h;rw[h];exact⟨[a],gd1 (by omega) (by omega),rfl⟩;rw[h];exact⟨[a,b],gd2 (by omega) (by omega) (by omega) (by omega) p2,rfl⟩;rw[h];have mu:opD .Mult (.cl (.int a)) (.cl (.int b))=.ok (.cl (.int (a*b))):=mul_int (by
   simp only[kT,B8,bA,Ax];right;omega)
  have t2:tst pg (call pg n) [g,.own false [.int a,.int b,.int 1]] (.an (.cmp .Eq (.bi .len (.cons (.v 1) .nil)) (.c (.int 3))) (.cmp .Gt (.op .Mult (.idx (.v 1) (.c (.int 0))) (.idx (.v 1) (.c (.int 1)))) (.c (.int 6))))=.ok (decide (6<a*b)):=by have j0:ev pg (call pg n) [g,.own false [.int a,.int b,.int 1]] (.idx (.v 1) (.c (.int 0)))=.ok (.cl (.int a)):=rfl;have j1:ev pg (call pg n) [g,.own false [.int a,.int b,.int 1]] (.idx (.v 1) (.c (.int 1)))=.ok (.cl (.int b)):=rfl;have k1:tst pg (call pg n) [g,.own false [.int a,.int b,.int 1]] (.cmp .Eq (.bi .len (.cons (.v 1) .nil)) (.c (.int 3)))=.ok true:=rfl;rw[aGj,k1,aA,if_pos rfl,bR,cQ,j0,j1,aA,aA,mu,aA,cE,aA];rfl
  by_cases W:6<a*b;rw[Aw W] at t2;refine⟨[a,b],gd2 (by omega) (by omega) (by omega) (by omega) p2,?_⟩;show O.from _ (tst pg (call pg n) [g,.own false [.int a,.int b,.int 1]] _) _=_;rw[t2];rfl;rw[Ar W] at t2;refine⟨[a,b,1],gd3 (by omega) (by omega) (by omega) (by omega) ?_,?_⟩;rcases(show b=1\/b=2 by omega) with rfl|rfl <;> omega;show O.from _ (tst pg (call pg n) [g,.own false [.int a,.int b,.int 1]] _) _=_;rw[t2];rfl
 obtain⟨T,gT,e2⟩:=e2;have t3:∀s1,tst pg (call pg n) [g,s1] (.cmp .Eq (.op .Mod (.op .FloorDiv (.idx (.v 0) (.c (.int 0))) (.c (.int 4))) (.c (.int 5))) (.c (.int 0)))=.ok (G / 4 % 5==0):=λs1=>by simp only[bR,cQ,i0,cE,aA,d4,m5,mS,aGn,aDl]
 have e3:∃B s1,Gd B/\(s1=.own false (B.map D.int)\/s1=.sh false (.lst (B.map D.int)))/\ex pg (call pg n) [g,.own false (T.map D.int)] (hdS (drp 2 f5.body))=.next [g,s1]:=by
  cases W:(G / 4 % 5==0) with
  | false=>refine⟨T,_,gT,.inl rfl,?_⟩;refine(bV (P:=pg) _ _ _).trans ?_;rw[t3,W];rfl|true=>
   have ix:∀s1,ev pg (call pg n) [g,s1] (.op .Mod (.op .FloorDiv (.idx (.v 0) (.c (.int 1))) (.c (.int 2))) (.c (.int 4)))=.ok (.cl (.int (q / 2 % 4))):=λs1=>by simp only[cQ,i1,cE,aA,d2,m4]
   have go:∀(B:List Int) (s1:Sl),cS (cK [cK [.cl (.int 7),.cl (.int 2)],cK [.cl (.int 2),.cl (.int 1),.cl (.int 1),.cl (.int 1)],cK [.cl (.int 1),.cl (.int 1),.cl (.int 1),.cl (.int 2)],cK [.cl (.int 5),.cl (.int 3)]]) (.cl (.int (q / 2 % 4)))=.ok ⟨.lst (B.map D.int),false,false,[]⟩\/cS (cK [cK [.cl (.int 7),.cl (.int 2)],cK [.cl (.int 2),.cl (.int 1),.cl (.int 1),.cl (.int 1)],cK [.cl (.int 1),.cl (.int 1),.cl (.int 1),.cl (.int 2)],cK [.cl (.int 5),.cl (.int 3)]]) (.cl (.int (q / 2 % 4)))=.ok ⟨.lst (B.map D.int),true,false,[]⟩ ->
    ∃s1,(s1=.own false (B.map D.int)\/s1=.sh false (.lst (B.map D.int)))/\ex pg (call pg n) [g,.own false (T.map D.int)] (hdS (drp 2 f5.body))=.next [g,s1]:=by intro B s1 hx;rcases hx with hx|hx;refine⟨_,.inr rfl,?_⟩;refine(bV (P:=pg) _ _ _).trans ?_;rw[t3,W,aW,if_pos rfl];simp only[aU,eO,cA,dU,jD,aI,aT,cE,ix,aA,hx,aW];rfl;refine⟨_,.inl rfl,?_⟩;refine(bV (P:=pg) _ _ _).trans ?_;rw[t3,W,aW,if_pos rfl];simp only[aU,eO,cA,dU,jD,aI,aT,cE,ix,aA,hx,aW];rfl
   rcases(show q / 2 % 4=0\/q / 2 % 4=1\/q / 2 % 4=2\/q / 2 % 4=3 by omega) with h|h|h|h;obtain⟨s1,L,M⟩:=go [7,2] .dead (by rw[h];first|exact .inl rfl|exact .inr rfl);exact⟨_,s1,gd2 (by decide) (by decide) (by decide) (by decide) (by decide),L,M⟩;obtain⟨s1,L,M⟩:=go [2,1,1,1] .dead (by rw[h];first|exact .inl rfl|exact .inr rfl);exact⟨_,s1,gd4 (.inl rfl),L,M⟩;obtain⟨s1,L,M⟩:=go [1,1,1,2] .dead (by rw[h];first|exact .inl rfl|exact .inr rfl);exact⟨_,s1,gd4 (.inr rfl),L,M⟩;obtain⟨s1,L,M⟩:=go [5,3] .dead (by rw[h];first|exact .inl rfl|exact .inr rfl);exact⟨_,s1,gd2 (by decide) (by decide) (by decide) (by decide) (by decide),L,M⟩
 obtain⟨B,s1,U,h1,e3⟩:=e3;refine⟨bsT B,U.tops,U.pos,bS (F:=f5) rfl rfl (v:=⟨.lst (bW (bsT B)),true,false,[]⟩) ?_⟩;exact(stp e1).trans ((stp e2).trans ((stp e3).trans (aDr U.few _ _ _ h1)))
theorem aBJ(n:Nat){ss:List (List Int)}(M:ss.length<=24):call pg (n+1) 6 [.lst (ss.map aR)]=.ok (.lst ((pairsL ss).map nestD),true,false):=by
 let g:Sl:=.sh true (.lst (ss.map aR))
 have U:∀s1 s2,walk pg (call pg n) [g,s1,s2] (.seq (.v 0))=.ok (ss.map (λs=>Vl.cl (aR s)),[]):=λs1 s2=>by show R.ok (items _ (ss.map aR),[])=_;rw[iG]
 have pl:∀l:List (List Int),l.length<=24->(l.flatMap λa=>(ss.filter λb=>!(b==a)).map λb=>[a,b]).length<=576:=λl h=>by have:=mW (λa=>(ss.filter λb=>!(b==a)).map λb=>[a,b]) 24 (λa=>by rw[lM];exact A2 (CJ _ _) M) l;omega
 obtain⟨Z',e,W⟩:=gN (t:=.n 2) (b:=match hdS (drp 1 f6.body) with|.for _ _ b=>b|_=>.nil) (λi Z=>∃s2,Z=[g,.own false (((ss.take i).flatMap λa=>(ss.filter λb=>!(b==a)).map λb=>[a,b]).map nestD),s2]) (U (.own false []) .dead) ⟨_,rfl⟩ (λi hi Z L=>by
  obtain⟨s2,rfl⟩:=L;have B:i<ss.length:=by simpa using hi
  generalize q:((ss.take i).flatMap λa=>(ss.filter λb=>!(b==a)).map λb=>[a,b])=acc;have hc:ev pg (call pg n) [g,.own false (acc.map nestD),.sh false (aR ss[i])] (.comp 1 [2] (.n 0) (.seq (.v 0)) (.cons (.cmp .NotEq (.v 0) (.v 1)) .nil) (.tup (.cons (.v 1) (.cons (.v 0) .nil))))=.ok ⟨.lst ((ss.filter λb=>!(b==ss[i])).map λb=>nestD [ss[i],b]),true,false,[]⟩:=
   qV (λs=>Vl.cl (aR s)) (λb=>nestD [ss[i],b]) (λb=>!(b==ss[i])) (λb=>aZ _) (U _ _) (A2 M (by decide)) λb _=>⟨[.sh false (aR b),.sh false (aR ss[i])],rfl,by
    rw[bR];show(match (eqD (aR b) (aR ss[i])).map (!·) with|some k=>R.ok k|none=>.bad)=_;rw[aBG];rfl,by
    show R.ok (kW [.cl (aR ss[i]),.cl (aR b)])=_;have:noLs [aR ss[i],aR b]=true:=by simp[noLs]
    show R.ok (⟨.tup [aR ss[i],aR b],false,_,_⟩:Vl)=_;rfl⟩
  have G:(acc.map nestD++(ss.filter λb=>!(b==ss[i])).map λb=>nestD [ss[i],b]).length<=lim:=by have q1:=pl (ss.take i) (by rw[Bo];omega);rw[q] at q1;have q2:(ss.filter λb=>!(b==ss[i])).length<=ss.length:=CJ _ _;rw[lA,lM,lM];unfold lim;omega
  have I:((ss.take (i+1)).flatMap λa=>(ss.filter λb=>!(b==a)).map λb=>[a,b]).map nestD=acc.map nestD++(ss.filter λb=>!(b==ss[i])).map λb=>nestD [ss[i],b]:=by rw[B4 B,Fd,BM,q,FR,List.flatMap_nil,Bg,AM];rfl
  refine⟨[g,.own false (acc.map nestD),.sh false (aR ss[i])],[g,.own false (acc.map nestD++(ss.filter λb=>!(b==ss[i])).map λb=>nestD [ss[i],b]),.sh false (aR ss[i])],by simp,?_,⟨_,by rw[I]⟩⟩;show exs pg (call pg n) _ (.cons (.ext 1 _) .nil)=_;rw[aU,aBE,hc,aW];have nl:noLs ((ss.filter λb=>!(b==ss[i])).map λb=>nestD [ss[i],b])=true:=cN (λb=>aZ _) _;simp only[kY,nl,if_true];unfold put;simp only[freeze,jG,gS,gZ];rw[if_pos G];simp)
 obtain⟨s2,rfl⟩:=W;refine bS (F:=f6) rfl rfl (v:=⟨.lst ((pairsL ss).map nestD),true,false,[]⟩) ?_;refine(stp (Z':=[g,.own false [],.dead]) rfl).trans ((stp e).trans ?_);rw[lM,DU];rfl
theorem oP{v:Vl}{d:D}(h:Hp.noL d=true):Vl.sub v d=.cl d:=by unfold Vl.sub;rw[if_pos h]
theorem aID{ls:List NK}{z:Int}(h0:0<=z)(B:z<ls.length):∃k∈ls,cS ⟨.lst (ls.map nestD),false,true,[]⟩ (.cl (.int z))=.ok (.cl (nestD k)):=by
 obtain⟨k,rfl⟩:=Int.eq_ofNat_of_zero_le h0;have q:k<ls.length:=by omega
 have g:k<(ls.map nestD).length:=by rw[lM];exact q
 refine⟨ls[k],BD q,?_⟩;unfold cS;simp only[mS,iJ g,Ah g,Jb,oP (aZ _)]
theorem mX{v:Vl}(ks:List NK):items v (ks.map nestD)=ks.map λk=>Vl.cl (nestD k):=oH aZ ks
section
variable {W:Caller} {S0 S1 S2 s4 s5:Sl} {m:List (NK×D)} {ps:List NK}
theorem tS{e:E}{k:NK}(g:ev pg W [S0,S1,S2,.dct m,s4,s5] e=.ok (.cl (nestD k)))(q:m.length<lim):ex pg W [S0,S1,S2,.dct m,s4,s5] (.dput 3 e)=.next [S0,S1,S2,.dct (putK m (k,.bl true)),s4,s5]:=by show O.from _ (ev pg W [S0,S1,S2,.dct m,s4,s5] e) _=_;rw[g,aW];show(match some (Sl.dct m),eX (nestD k) with|some (.dct ks),some k=>(if ks.length<lim then O.next ([S0,S1,S2,.dct m,s4,s5].set 3 (.dct (putK ks (k,.bl true)))) else .bad)|_,_=>.bad)=_;rw[fY];show(if m.length<lim then _ else _)=_;rw[if_pos q];rfl
theorem aBK{k:NK}(B:k∈ps)(g:∀k∈m.map (·.1),k∈ps):∀q∈(putK m (k,.bl true)).map (·.1),q∈ps:=λq h=>by rcases put_mem m (k,.bl true) h with rfl|h;exact B;exact g q h
theorem aBL{c e:E}{b:Bool}(G:tst pg W [S0,S1,S2,.dct m,s4,s5] c=.ok b)(q:b=true->∃k∈ps,ev pg W [S0,S1,S2,.dct m,s4,s5] e=.ok (.cl (nestD k)))(L:m.length<lim)(g:∀k∈m.map (·.1),k∈ps) :
 ∃B,B.length<=m.length+1/\(∀k∈B.map (·.1),k∈ps)/\ex pg W [S0,S1,S2,.dct m,s4,s5] (.iff c (.cons (.dput 3 e) .nil) .nil)=.next [S0,S1,S2,.dct B,s4,s5]:=by
 cases b with
 | true=>obtain⟨k,I,q⟩:=q rfl;refine⟨putK m (k,.bl true),qX m _,aBK I g,?_⟩;rw[bV,G,aW,if_pos rfl,stp (tS q L),eO]|false=>exact⟨m,FL _,g,by rw[bV,G,aW,if_neg bN,eO]⟩
end
theorem aIE{α g:Type}(f:α->g)(l:List α)(lo hi:Option Int):cut (l.map f) lo hi=(cut l lo hi).map f:=by unfold cut;simp only[lM,Hy,Hx]
theorem aDs(ns:List Int)(lo:Nat):(cut ns (some (lo:Int)) (some ((lo:Int)+20))).length<=20:=by unfold cut sIx;simp only[BC,Bo];rw[if_neg (by omega),if_neg (by omega)];omega
structure Rk (ps ks:List NK):Prop where
 ri:ks.Pairwise (lexN · ·=true)
 sb:∀k∈ks,k∈ps
theorem oQ(n:Nat){ns:List Int}(a:Nat)(ha:a<=100){ps:List NK}(hp:1<=ps.length)(w1:∀k∈ps,∃a b,k=[a,b]) :
 ∃ks:List NK,Rk ps ks/\call pg (n+2) 7 [.lst (ns.map D.int),.int a,.lst (ps.map nestD)]=.ok (.lst (ks.map nestD),true,false):=by
 let G:Sl:=.sh true (.lst (ns.map D.int))
 let I:Sl:=.sh true (.int a)
 let B:Sl:=.sh true (.lst (ps.map nestD))
 generalize q4:cut ns (some (a:Int)) (some ((a:Int)+20))=cells;have hc:cells.length<=20:=q4▸aDs ns a;have hw:walk pg (call pg (n+1)) [G,I,B,.dct [],.dead,.dead] (.seq (.sli (.v 0) (.cons (.v 1) .nil) (.cons (.op .Add (.v 1) (.c (.int 20))) .nil)))=.ok (cells.map (λc=>Vl.cl (.int c)),[]):=by
  have e:ev pg (call pg (n+1)) [G,I,B,.dct [],.dead,.dead] (.sli (.v 0) (.cons (.v 1) .nil) (.cons (.op .Add (.v 1) (.c (.int 20))) .nil))=.ok ⟨.lst (cells.map D.int),true,false,[]⟩:=by
   have v0:ev pg (call pg (n+1)) [G,I,B,.dct [],.dead,.dead] (.v 0)=.ok ⟨.lst (ns.map D.int),false,true,[]⟩:=rfl;have v1:ev pg (call pg (n+1)) [G,I,B,.dct [],.dead,.dead] (.v 1)=.ok (.cl (.int a)):=rfl;have s1:aF (a:Int)=true:=qP (by omega) (by omega);have s2:aF ((a:Int)+20)=true:=qP (by omega) (by omega);have sl:dH ⟨.lst (ns.map D.int),false,true,[]⟩ (some (a:Int)) (some ((a:Int)+20))=.ok ⟨.lst (cells.map D.int),true,false,[]⟩:=by show R.ok (⟨.lst (cut (ns.map D.int) _ _),true,true&&!noLs (ns.map D.int),if noLs (ns.map D.int) then [] else []⟩:Vl)=_;rw[fX,aIE,q4];rfl
   rw[aDm,v0,aA,v1,aA,cQ,v1,aA,cE,aA,add_int,aA];dsimp only[Vl.cl];rw[s1,s2,Hu,tF,sl]
  rw[aBD,e];show R.ok (items _ (cells.map D.int),[])=_;rw[oH (g:=D.int) (λ_=>rfl)]
 have l1:((ps.map nestD).length:Int)=ps.length:=by rw[lM]
 have m3:∀i:Int,opD .Mod (.cl (.int i)) (.cl (.int 3))=.ok (.cl (.int (i % 3))):=λi=>cV (by decide);have d3:∀i:Int,opD .FloorDiv (.cl (.int i)) (.cl (.int 3))=.ok (.cl (.int (i / 3))):=λi=>kI (by decide);obtain⟨Z',e,hI⟩:=gN (t:=.n 4) (b:=match hdS (drp 1 f7.body) with|.for _ _ b=>b|_=>.nil) (λi Z=>∃m s4 s5,Z=[G,I,B,.dct m,s4,s5]/\m.length<=2*i/\∀k∈m.map (·.1),k∈ps) hw ⟨[],_,_,rfl,Ak _,λk h=>absurd h EI⟩ (λi hi Z w3=>by
  obtain⟨m,s4,s5,rfl,hl,U⟩:=w3;have w5:i<cells.length:=by simpa using hi
  have q9:m.length<lim:=by unfold lim;omega
  have cs:=oJ (P:=pg) (f:=4) rfl n cells[i] (m:=2) (by decide);have cs:call pg (n+1) 4 [.int cells[i],.int 2]=.ok (.lst [.int (num cells[i] 2),.int (num cells[i] 3)],true,false):=cs;generalize num cells[i] 2=x,num cells[i] 3=y at cs
  let L:Sl:=.sh false (.int cells[i])
  let M:Sl:=.own false [.int x,.int y]
  have e1:ex pg (call pg (n+1)) [G,I,B,.dct m,L,s5] (.set (.n 5) (.call 4 (.cons (.v 4) (.cons (.c (.int 2)) .nil))))=.next [G,I,B,.dct m,L,M]:=by simp only[L,cA,cM,aI,aT,qN,cE,cR,gS,gZ,qT,aA,mC,mN,mS,cs,mT,aW,iI,tI,iH,lS,lZ];rfl
  have ix:∀m,ev pg (call pg (n+1)) [G,I,B,.dct m,L,M] (.idx (.v 5) (.c (.int 0)))=.ok (.cl (.int x)):=λ_=>rfl;have iy:∀m,ev pg (call pg (n+1)) [G,I,B,.dct m,L,M] (.idx (.v 5) (.c (.int 1)))=.ok (.cl (.int y)):=λ_=>rfl;have w4:∀m,ev pg (call pg (n+1)) [G,I,B,.dct m,L,M] (.bi .len (.cons (.v 2) .nil))=.ok (.cl (.int ps.length)):=λm=>by simp only[B,jJ,aI,aT,qN,cR,gS,gZ,kG,aA,qU,l1]
  have v1:∀m,ev pg (call pg (n+1)) [G,I,B,.dct m,L,M] (.v 2)=.ok ⟨.lst (ps.map nestD),false,true,[]⟩:=λ_=>rfl;have q3:∀(m:List (NK×D)) (a:Int) (E:E),ev pg (call pg (n+1)) [G,I,B,.dct m,L,M] E=.ok (.cl (.int a))->∃k∈ps,ev pg (call pg (n+1)) [G,I,B,.dct m,L,M] (.idx (.v 2) (.op .Mod E (.bi .len (.cons (.v 2) .nil))))=.ok (.cl (nestD k)):=λm a E hE=>by
   have q2:(0:Int)<ps.length:=by omega
   obtain⟨k,hk,q⟩:=aID (ls:=ps) (z:=a % (ps.length:Int)) (C6 _ (by omega)) (BR _ q2);refine⟨k,hk,?_⟩;rw[dU,v1,aA,cQ,hE,aA,w4,aA,cV q2,aA,q]
  obtain⟨k1,q6,q1⟩:=q3 m x _ (ix m);have e2:=tS q1 q9;have q0:=aBK q6 U;have q7:=qX m (k1,.bl true);generalize putK m (k1,.bl true)=ma at e2 q0 q7;have t4:tst pg (call pg (n+1)) [G,I,B,.dct ma,L,M] (.cmp .Gt (.op .Mod (.idx (.v 5) (.c (.int 1))) (.c (.int 3))) (.c (.int 0)))=.ok (decide (0<y % 3)):=by rw[bR,cQ,iy,aA,cE,aA,m3,aA,cE,aA];rfl
  obtain⟨mc,w6,q5,e4⟩:=aBL (ps:=ps) (e:=.idx (.v 2) (.op .Mod (.op .FloorDiv (.idx (.v 5) (.c (.int 1))) (.c (.int 3))) (.bi .len (.cons (.v 2) .nil)))) t4 (λ_=>q3 ma (y / 3) _ (by rw[cQ,iy,aA,cE,aA,d3])) (by unfold lim at*;omega) q0;refine⟨[G,I,B,.dct m,L,s5],[G,I,B,.dct mc,L,M],by simp[L],(stp e1).trans ((stp e2).trans ((stp e4).trans rfl)),mc,_,_,rfl,by omega,q5⟩)
 obtain⟨m,s4,s5,rfl,hl,U⟩:=hI;rw[lM] at hl;have w0:neN (m.map (·.1))=true:=BE.mpr λk hk=>by obtain⟨a,b,rfl⟩:=w1 k (U k hk);rfl
 have q8:m.length<=700:=by omega
 refine⟨ssN (m.map (·.1)),⟨cC _,λk hk=>U k (bC.mp hk)⟩,?_⟩;refine bS (P:=pg) (W:=call pg (n+1)) (f:=7) (ds:=[.lst (ns.map D.int),.int a,.lst (ps.map nestD)]) (F:=f7) rfl rfl (v:=⟨.lst ((ssN (m.map (·.1))).map nestD),true,false,[]⟩) ?_;refine(stp (Z':=[G,I,B,.dct [],.dead,.dead]) rfl).trans ((stp e).trans ?_);show(O.from _ (R.iff (neN (m.map (·.1))&&decide (m.length<=700)) _) O.ret).on _=_;rw[w0,Aw q8];rfl
theorem aGp(a b:List Int):cS (.cl (nestD [a,b])) (.cl (.int 0))=.ok (.cl (aR a)):=by show R.ok (Vl.sub _ (aR a))=_;rw[oP (mR a)]
theorem aGq(a b:List Int):cS (.cl (nestD [a,b])) (.cl (.int 1))=.ok (.cl (aR b)):=by show R.ok (Vl.sub _ (aR b))=_;rw[oP (mR b)]
theorem vK{W:Caller}{Z:Sg}(o:Operator)(a b:E){x y:Vl}{ks g r:List NK}(G:ev pg W Z a=.ok x)(I:ev pg W Z b=.ok y)(M:x.d=.lst (ks.map nestD))(U:y.d=.lst (g.map nestD))(q:neN ks=true)(B:neN g=true)(L:opN o ks g=some r):ev pg W Z (.sop o a b)=.ok ⟨.lst (r.map nestD),true,false,[]⟩:=by
 show(ev pg W Z a >>= λx=>ev pg W Z b >>= λy=>(match x.d,y.d with
  | .lst as,.lst bs=>(match cP as,cP bs with
   | some ks,some g=>R.iff (neN ks&&neN g) (match opN o ks g with|some r=>R.ok (⟨.lst (r.map nestD),true,false,[]⟩:Vl)|none=>.bad)|_,_=>.bad)
  | _,_=>.bad))=_
 rw[G,aA,I,aA,M,U];show(match cP (ks.map nestD),cP (g.map nestD) with
  | some ks,some g=>R.iff (neN ks&&neN g) (match opN o ks g with|some r=>R.ok (⟨.lst (r.map nestD),true,false,[]⟩:Vl)|none=>.bad)|_,_=>.bad)=_
 rw[eR,eR];show R.iff (neN ks&&neN g) _=_;rw[q,B,L];rfl
structure Pz (ps:List NK):Prop where
 ri:ps.Pairwise (lexN · ·=true)
 pr:∀k∈ps,∃a b,k=[a,b]
 ln:ps.length<=700
section
variable {ps ks js:List NK}
theorem Rk.ne(z:Pz ps)(h:Rk ps ks):neN ks=true:=BE.mpr λk g=>by obtain⟨a,b,rfl⟩:=z.pr k (h.sb k g);rfl
theorem Rk.len(z:Pz ps)(h:Rk ps ks):ks.length<=700:=A2 ((qJ h.ri).length_le_of_subset λk g=>h.sb k g) z.ln
theorem Rk.fil(h:Rk ps ks)(p:NK->Bool):Rk ps (ks.filter p):=⟨h.ri.sublist Ho,λk g=>h.sb k (B6.mp g).1⟩
theorem Rk.nil:Rk ps []:=⟨Cc,λ_ h=>absurd h EI⟩
theorem Rk.or(h:Rk ps ks)(g:Rk ps js):Rk ps (ssN (ks++js)):=⟨cC _,λk q=>(AO.mp (bC.mp q)).elim (h.sb k) (g.sb k)⟩
theorem zC(n:Nat)(z:Pz ps)(h:Rk ps ks)(g:Rk ps js):call pg (n+1) 2 [.lst (ks.map nestD),.lst (js.map nestD)]=.ok (.lst ((ssN (ks++js)).map nestD),true,false):=by refine bS (F:=f2) rfl rfl (v:=⟨.lst ((ssN (ks++js)).map nestD),true,false,[]⟩) ?_;show exs pg (call pg n) [.sh true (.lst (ks.map nestD)),.sh true (.lst (js.map nestD))] (.cons (.ret (.sop .BitOr (.v 0) (.v 1))) .nil)=_;rw[aU,dW,vK .BitOr (.v 0) (.v 1) rfl rfl rfl rfl (h.ne z) (g.ne z) (show opN .BitOr ks js=some (ssN (ks++js)) from if_pos ((h.or g).len z))];rfl
theorem aBM(z:Pz ps)(h:Rk ps ks)(g:Rk ps js):(ssN ks).length<=700/\(ssN js).length<=700:=by rw[qY h.ri,qY g.ri];exact⟨h.len z,g.len z⟩
theorem aDt(n:Nat)(z:Pz ps)(h:Rk ps ks)(g:Rk ps js):call pg (n+1) 3 [.lst (ks.map nestD),.lst (js.map nestD)]=.ok (.lst ((ks.filter λk=>decide (k∈js)).map nestD),true,false):=by refine bS (F:=f3) rfl rfl (v:=⟨.lst ((ks.filter λk=>decide (k∈js)).map nestD),true,false,[]⟩) ?_;show exs pg (call pg n) [.sh true (.lst (ks.map nestD)),.sh true (.lst (js.map nestD))] (.cons (.ret (.sop .BitAnd (.v 0) (.v 1))) .nil)=_;rw[aU,dW,vK .BitAnd (.v 0) (.v 1) rfl rfl rfl rfl (h.ne z) (g.ne z) (show opN .BitAnd ks js=some (ks.filter λk=>decide (k∈js)) from(if_pos (aBM z h g)).trans (congrArg some (qY (h.fil _).ri)))];rfl
noncomputable def lack(ks js:List NK):List NK:=ks.filter λk=>decide (k∉js)
noncomputable def fst:List NK->D
 | []=>.non|k::_=>nestD k
theorem oR(n:Nat)(z:Pz ps)(h:Rk ps ks)(g:Rk ps js):call pg (n+1) 1 [.lst (ks.map nestD),.lst (js.map nestD)]=.ok (fst (lack ks js),false,false):=by
 refine bS (F:=f1) rfl rfl (v:=.cl (fst (lack ks js))) ?_;have e:∀s2,ev pg (call pg n) [.sh true (.lst (ks.map nestD)),.sh true (.lst (js.map nestD)),s2] (.sop .Sub (.v 0) (.v 1))=.ok ⟨.lst ((lack ks js).map nestD),true,false,[]⟩:=λs2=>vK .Sub (.v 0) (.v 1) rfl rfl rfl rfl (h.ne z) (g.ne z) (show opN .Sub ks js=some (lack ks js) from(if_pos (aBM z h g)).trans (congrArg some (qY (h.fil _).ri)));show exs pg (call pg n) [.sh true (.lst (ks.map nestD)),.sh true (.lst (js.map nestD)),.dead] f1.body=_;refine(stp (Z':=[.sh true (.lst (ks.map nestD)),.sh true (.lst (js.map nestD)),.own false ((lack ks js).map nestD)]) ?_).trans ?_;rw[cA,e,aW];rfl;generalize lack ks js=l;show exs pg (call pg n) _ (.cons (.ret (.ife (.v 2) (.idx (.v 2) (.c (.int 0))) (.c .non))) .nil)=_;rw[aU,dW];cases l with
 | nil=>rfl|cons k l=>
  show(O.from _ (cS ⟨.lst (nestD k::l.map nestD),false,false,[2]⟩ (.cl (.int 0))) _).on _=_;have:cS ⟨.lst (nestD k::l.map nestD),false,false,[2]⟩ (.cl (.int 0))=.ok (.cl (nestD k)):=by have q:0<(nestD k::l.map nestD).length:=Jc _;have B:=iJ q;unfold cS;simp only[mS];rw[show((0:Int))=((0:Nat):Int) from rfl,B];simp only[gZ,oP (aZ _)]
  rw[this];rfl
end
theorem aDu(n:Nat)(a b:List Int):call pg (n+1) 9 [nestD [a,b]]=.ok (.bl true,false,false):=by
 refine bS (F:=f9) rfl rfl (v:=.cl (.bl true)) ?_;have g:ev pg (call pg n) [.sh true (nestD [a,b])] (.v 0)=.ok (.cl (nestD [a,b])):=by show R.ok (⟨nestD [a,b],false,true&&!Hp.noL (nestD [a,b]),[]⟩:Vl)=_;rw[aZ];rfl
 show exs pg (call pg n) [.sh true (nestD [a,b])] f9.body=_;refine(stp (Z':=[.sh true (nestD [a,b])]) ?_).trans ?_;refine(bV (P:=pg) _ _ _).trans ?_;have G:tst pg (call pg n) [.sh true (nestD [a,b])] (.nt (.isi (.v 0) [.tTuple]))=.ok false:=by rw[aBz,aDf,g,aA];rfl
 have I:tst pg (call pg n) [.sh true (nestD [a,b])] (.cmp .NotEq (.bi .len (.cons (.v 0) .nil)) (.c (.int 2)))=.ok false:=by rw[bR,jJ,aI,g,aA,aT];rfl
 rw[xN,G,aA,if_neg bN,I];rfl;show exs pg (call pg n) _ (.cons (.ret (.an (.isi (.idx (.v 0) (.c (.int 0))) [.tTuple]) (.isi (.idx (.v 0) (.c (.int 1))) [.tTuple]))) .nil)=_;have q:ev pg (call pg n) [.sh true (nestD [a,b])] (.isi (.idx (.v 0) (.c (.int 0))) [.tTuple])=.ok (.cl (.bl true)):=by rw[aBy,dU,g,aA,cE,aA,aGp];rfl
 have B:ev pg (call pg n) [.sh true (nestD [a,b])] (.isi (.idx (.v 0) (.c (.int 1))) [.tTuple])=.ok (.cl (.bl true)):=by rw[aBy,dU,g,aA,cE,aA,aGq];rfl
 rw[aU,dW,aBw,q,aA];show(O.from _ (ev pg (call pg n) [.sh true (nestD [a,b])] (.isi (.idx (.v 0) (.c (.int 1))) [.tTuple])) _).on _=_;rw[B];rfl
theorem aDv(m:List (NK×D))(k:NK)(v:D)(q:NK):q∈(putK m (k,v)).map (·.1)↔q∈m.map (·.1)\/q=k:=by rw[fM,tO,fM];by_cases e:q=k;rw[if_pos e];exact⟨λ_=>.inr e,λ_=>nofun⟩;rw[if_neg e];exact⟨.inl,λz=>z.resolve_right e⟩
theorem aBN{W:Caller}{Z:Sg}{j:Nat}{a:E}{m:List (NK×D)}{q:NK}(g:ev pg W Z a=.ok (.cl (nestD q)))(B:Z[j]? = some (.dct m)):tst pg W Z (.dnin a j)=.ok (!decide (q∈m.map (·.1))):=by
 show(ev pg W Z a >>= λx=>(match Z[j]?,eX x.d with
  | some (.dct ks),some k=>R.ok (!decide (k∈ks.map λ(x:NK×D)=>x.1))|_,_=>.bad))=_
 rw[g,aA,B];show(match some (Sl.dct m),eX (nestD q) with
  | some (.dct ks),some k=>R.ok (!decide (k∈ks.map λ(x:NK×D)=>x.1))|_,_=>.bad)=_
 rw[fY]
theorem tT(ls:List NK):biD .list [⟨.lst (ls.map nestD),false,true,[]⟩]=.ok ⟨.lst (ls.map nestD),true,false,[]⟩:=by show R.ok (⟨.lst (ls.map nestD),true,true&&!noLs (ls.map nestD),if noLs (ls.map nestD) then [] else []⟩:Vl)=_;rw[cN aZ];rfl
theorem nG{l:List NK}{i:Nat}(h:i<l.length)(q:NK):q∈l.take (i+1)↔q∈l.take i\/q=l[i]:=by rw[B4 h,AO,A3]
theorem aKm{W:Caller}{g a1 q B G I:Sl}{m:List (NK×D)}{e:E}{k:NK}(L:ev pg W [g,a1,.dct m,q,B,G,I] e=.ok (.cl (nestD k)))(M:m.length<lim):ex pg W [g,a1,.dct m,q,B,G,I] (.dput 2 e)=.next [g,a1,.dct (putK m (k,.bl true)),q,B,G,I]:=by show O.from _ (ev pg W [g,a1,.dct m,q,B,G,I] e) _=_;rw[L,aW];show(match some (Sl.dct m),eX (nestD k) with|some (.dct ks),some k=>(if ks.length<lim then O.next ([g,a1,.dct m,q,B,G,I].set 2 (.dct (putK ks (k,.bl true)))) else .bad)|_,_=>.bad)=_;rw[fY];show(if m.length<lim then _ else _)=_;rw[if_pos M];rfl
section
variable {ps ks js:List NK}
theorem iK(n:Nat)(z:Pz ps)(h:Rk ps ks)(g:Rk ps js):call pg (n+2) 10 [.lst (ks.map nestD),.lst (js.map nestD)]=.ok (.bl true,false,false):=by
 have cw:=oR n z h g;have lk:=h.len z;have lj:=g.len z
 let B:Sl:=.sh true (.lst (ks.map nestD))
 let G:Sl:=.sh true (.lst (js.map nestD))
 have v0:∀r,ev pg (call pg (n+1)) (B::G::r) (.v 0)=.ok ⟨.lst (ks.map nestD),false,true,[]⟩:=λ_=>rfl;have v1:∀r,ev pg (call pg (n+1)) (B::G::r) (.v 1)=.ok ⟨.lst (js.map nestD),false,true,[]⟩:=λ_=>rfl;have w0:∀r,walk pg (call pg (n+1)) (B::G::r) (.seq (.v 0))=.ok (ks.map (λk=>Vl.cl (nestD k)),[]):=λ_=>by show R.ok (items _ (ks.map nestD),[])=_;rw[mX]
 have w1:∀r,walk pg (call pg (n+1)) (B::G::r) (.seq (.v 1))=.ok (js.map (λk=>Vl.cl (nestD k)),[]):=λ_=>by show R.ok (items _ (js.map nestD),[])=_;rw[mX]
 obtain⟨Z3,e3,h3⟩:=gN (t:=.n 3) (b:=match hdS (drp 1 f10.body) with|.for _ _ b=>b|_=>.nil) (λi Z=>∃m s3,Z=[B,G,.dct m,s3,.dead,.dead,.dead]/\m.length<=i/\∀q,q∈m.map (·.1)↔q∈js.take i) (w1 [.dct [],.dead,.dead,.dead,.dead]) ⟨[],_,rfl,Ak _,λq=>LG⟩ (λi hi Z q1=>by
  obtain⟨m,s3,rfl,hl,hr⟩:=q1;have q0:i<js.length:=by simpa using hi
  have hm:m.length<lim:=by unfold lim;omega
  refine⟨[B,G,.dct m,.sh false (nestD js[i]),.dead,.dead,.dead],[B,G,.dct (putK m (js[i],.bl true)),.sh false (nestD js[i]),.dead,.dead,.dead],by simp,(stp ?_).trans rfl,_,_,rfl,A2 (qX _ _) (by omega),λq=>(aDv _ _ _ q).trans ((or_congr (hr q) LG).trans (nG q0 q).symm)⟩;exact aKm (e:=.v 3) (k:=js[i]) rfl hm)
 obtain⟨m,I,rfl,_,hr⟩:=h3;rw[lM,DU] at hr;have c4:ev pg (call pg (n+1)) [B,G,.dct m,I,.dead,.dead,.dead] (.comp 1 [2] (.n 0) (.seq (.v 0)) (.cons (.dnin (.v 0) 1) .nil) (.v 0))=.ok ⟨.lst ((lack ks js).map nestD),true,false,[]⟩:=
  qV (λk=>Vl.cl (nestD k)) nestD (λk=>decide (k∉js)) aZ (w0 _) (A2 lk (by decide)) λk _=>⟨[.sh false (nestD k),.dct m],by simp,by
   rw[aBN (m:=m) (q:=k) rfl rfl]
   congr 1
   rw[<-decide_not];exact decide_eq_decide.mpr (not_congr (hr k)),rfl⟩
 let L:Sl:=.own false ((lack ks js).map nestD)
 let M:Sl:=.own false [.lst (ks.map nestD),.lst (js.map nestD)]
 have e5:ex pg (call pg (n+1)) [B,G,.dct m,I,L,.dead,.dead] (hdS (drp 3 f10.body))=.next [B,G,.dct m,I,L,M,.dead]:=by refine(cA (P:=pg) _ _).trans ?_;simp only[jD,aI,aT,jJ,v0,v1,aA,tT,aW];rfl
 have i0:∀a6,ev pg (call pg (n+1)) [B,G,.dct m,I,L,M,a6] (.idx (.v 5) (.c (.int 0)))=.ok ⟨.lst (ks.map nestD),false,false,[5]⟩:=λ_=>rfl;have i1:∀a6,ev pg (call pg (n+1)) [B,G,.dct m,I,L,M,a6] (.idx (.v 5) (.c (.int 1)))=.ok ⟨.lst (js.map nestD),false,false,[5]⟩:=λ_=>rfl
 let U:Sl:=.sh false (fst (lack ks js))
 have e6:ex pg (call pg (n+1)) [B,G,.dct m,I,L,M,.dead] (hdS (drp 4 f10.body))=.next [B,G,.dct m,I,L,M,U]:=by refine(cA (P:=pg) _ _).trans ?_;simp only[cM,aI,aT,i0,i1,aA,mC,mN,cw,aGm,aW];rfl
 have e7:ex pg (call pg (n+1)) [B,G,.dct m,I,L,M,U] (hdS (drp 5 f10.body))=.next [B,G,.dct m,I,L,M,U]:=by refine(bV (P:=pg) _ _ _).trans ?_;rw[bR,jD];simp only[aI,aT,v0,v1,aA];show O.from _ (match (eqD (.lst [.lst (ks.map nestD),.lst (js.map nestD)]) (.lst [.lst (ks.map nestD),.lst (js.map nestD)])).map (!·) with|some k=>R.ok k|none=>.bad) _=_;rw[aDp];rfl
 have W:ev pg (call pg (n+1)) [B,G,.dct m,I,L,M,U] (.v 4)=.ok ⟨.lst ((lack ks js).map nestD),false,false,[4]⟩:=rfl;have v6:ev pg (call pg (n+1)) [B,G,.dct m,I,L,M,U] (.v 6)=.ok (.cl (fst (lack ks js))):=qT 6 _;refine bS (F:=f10) rfl rfl (v:=.cl (.bl true)) ?_;refine(stp (Z':=[B,G,.dct [],.dead,.dead,.dead,.dead]) rfl).trans ((stp e3).trans ((stp (Z':=[B,G,.dct m,I,L,.dead,.dead]) (by rw[cA,c4];rfl)).trans ((stp e5).trans ((stp e6).trans ((stp e7).trans ?_)))));cases hq:lack ks js with
 | nil=>
  rw[hq] at W v6;have t7:tst pg (call pg (n+1)) [B,G,.dct m,I,L,M,U] (.cmp .Eq (.v 4) (.lst .nil))=.ok true:=by rw[bR,W];rfl
  refine(aU (P:=pg) _ _).trans ?_;rw[bV,t7,aW,if_pos rfl,aU,dW,aBx,v6];rfl
 | cons k l=>
  have hk:k∈lack ks js:=by rw[hq];exact Ai
  have hk:k∈ks:=(B6.mp hk).1;obtain⟨a,b,rfl⟩:=z.pr k (h.sb k hk);rw[hq] at W v6;have t7:tst pg (call pg (n+1)) [B,G,.dct m,I,L,M,U] (.cmp .Eq (.v 4) (.lst .nil))=.ok false:=by rw[bR,W];rfl
  have t8:ev pg (call pg (n+1)) [B,G,.dct m,I,L,M,U] (.call 9 (.cons (.v 6) .nil))=.ok (.cl (.bl true)):=by rw[cM,aI,v6,aA,aT,aA,aA];show(call pg (n+1) 9 [nestD [a,b]] >>= λr=>R.ok (dX [Vl.cl (nestD [a,b])] r))=_;rw[aDu];rfl
  have ix:cS ⟨.lst ((([a,b]:NK)::l).map nestD),false,false,[4]⟩ (.cl (.int 0))=.ok (.cl (nestD [a,b])):=by have i0:=iJ (show 0<(nestD [a,b]::l.map nestD).length from Jc _);unfold cS;simp only[mS,mC];rw[show((0:Int))=((0:Nat):Int) from rfl,i0];simp only[gZ,oP (aZ _)]
  have t9:ev pg (call pg (n+1)) [B,G,.dct m,I,L,M,U] (.cmp .Eq (.v 6) (.idx (.v 4) (.c (.int 0))))=.ok (.cl (.bl true)):=by rw[aBx,v6,aA,dU,W,aA,cE,aA,ix,aA];show(match eqD (nestD [a,b]) (nestD [a,b]) with|some k=>R.ok (Vl.cl (.bl k))|none=>.bad)=_;rw[show eqD (nestD [a,b]) (nestD [a,b])=some true from tK 117 [a,b]]
  refine(stp (Z':=[B,G,.dct m,I,L,M,U]) ?_).trans ?_;refine(bV (P:=pg) _ _ _).trans ?_;rw[t7];rfl;show exs pg (call pg (n+1)) _ (.cons (.ret (.an _ _)) .nil)=_;rw[aU,dW,aBw,t8,aA];show(O.from _ (ev pg (call pg (n+1)) [B,G,.dct m,I,L,M,U] (.cmp .Eq (.v 6) (.idx (.v 4) (.c (.int 0))))) _).on _=_;rw[t9];rfl
end
theorem aDW{p:Bool}{al:List Nat}{ls:List NK}{k:Nat}(h:k<ls.length):cS ⟨.lst (ls.map nestD),false,p,al⟩ (.cl (.int (k:Int)))=.ok (.cl (nestD (ls.getD k []))):=by
 have g:k<(ls.map nestD).length:=by rw[lM];exact h
 unfold cS;simp only[mS,iJ g,Ah g,Jb,oP (aZ _)];rw[CH,Ah h];rfl
noncomputable def kept(p:Nat->Bool)(ls:List NK):List NK:=((AA ls.length).filter p).map λk=>ls.getD k []
theorem tU{p:Nat->Bool}{ls:List NK}{q:NK}(h:q∈kept p ls):q∈ls:=by obtain⟨k,B,rfl⟩:=Ag.mp h;have g:=Bb.mp (B6.mp B).1;rw[CH,Ah g];exact BD g
theorem tV{p:Nat->Bool}{ls:List NK}:(kept p ls).length<=ls.length:=by unfold kept;rw[lM];exact A2 (CJ _ _) (Io B3)
theorem aGr{W:Caller}{Z:Sg}{a:E}{x:Vl}{ks:List NK}(B:ev pg W Z a=.ok x)(G:x.d=.lst (ks.map nestD))(g:neN ks=true)(q:(ssN ks).length<=700):ev pg W Z (.sst a)=.ok ⟨.lst ((ssN ks).map nestD),true,false,[]⟩:=by
 show(ev pg W Z a >>= λx=>(match x.d with
  | .lst as=>(match cP as with
   | some ks=>R.iff (neN ks&&decide ((ssN ks).length<=700)) (R.ok (⟨.lst ((ssN ks).map nestD),true,false,[]⟩:Vl))|_=>.bad)
  | _=>.bad))=_
 rw[B,aA,G];show(match cP (ks.map nestD) with
  | some ks=>R.iff (neN ks&&decide ((ssN ks).length<=700)) (R.ok (⟨.lst ((ssN ks).map nestD),true,false,[]⟩:Vl))|_=>.bad)=_
 rw[eR];show R.iff (neN ks&&decide ((ssN ks).length<=700)) _=_;rw[g,Aw q];rfl
section
variable {ps ks js:List NK}
theorem zD(n:Nat)(x0 x1 x2 U x4 x5 x6:Int)(z:Pz ps)(h:Rk ps ks)(g:Rk ps js):∃ls,Rk ps ls/\∃b:Bool,call pg (n+1) 8 [.lst [.int x0,.int x1,.int x2,.int U,.int x4,.int x5,.int x6],.lst (ks.map nestD),.lst (js.map nestD)]=.ok (.lst (ls.map nestD),!b,b):=by
 have lk:=h.len z;have lj:=g.len z
 let B:Sl:=.sh true (.lst [.int x0,.int x1,.int x2,.int U,.int x4,.int x5,.int x6])
 let G:Sl:=.sh true (.lst (ks.map nestD))
 let I:Sl:=.sh true (.lst (js.map nestD))
 have m5:∀i:Int,opD .Mod (.cl (.int i)) (.cl (.int 5))=.ok (.cl (.int (i % 5))):=λi=>cV (by decide);have m3:∀i:Int,opD .Mod (.cl (.int i)) (.cl (.int 3))=.ok (.cl (.int (i % 3))):=λi=>cV (by decide);have i3:∀r,ev pg (call pg n) (B::r) (.idx (.v 0) (.c (.int 3)))=.ok (.cl (.int U)):=λ_=>rfl;have t1:∀r,tst pg (call pg n) (B::r) (.cmp .Eq (.op .Mod (.idx (.v 0) (.c (.int 3))) (.c (.int 5))) (.c (.int 0)))=.ok (U % 5==0):=λr=>by rw[bR,cQ,i3,aA,cE,aA,m5,aA,cE,aA];rfl
 have t2:∀r,tst pg (call pg n) (B::r) (.cmp .Eq (.op .Mod (.idx (.v 0) (.c (.int 3))) (.c (.int 5))) (.c (.int 1)))=.ok (U % 5==1):=λr=>by rw[bR,cQ,i3,aA,cE,aA,m5,aA,cE,aA];rfl
 cases h1:(U % 5==0) with
 | true=>refine⟨js,g,true,bS (F:=f8) rfl rfl (v:=⟨.lst (js.map nestD),false,true,[]⟩) ?_⟩;show exs pg (call pg n) [B,G,I,.dead,.dead] f8.body=_;refine(aU (P:=pg) _ _).trans ?_;rw[bV,t1,h1];rfl|false=>
 have e1:ex pg (call pg n) [B,G,I,.dead,.dead] (hdS f8.body)=.next [B,G,I,.dead,.dead]:=by refine(bV (P:=pg) _ _ _).trans ?_;rw[t1,h1];rfl
 cases h2:(U % 5==1) with
 | true=>refine⟨ks,h,false,bS (F:=f8) rfl rfl (v:=⟨.lst (ks.map nestD),true,false,[]⟩) ?_⟩;show exs pg (call pg n) [B,G,I,.dead,.dead] f8.body=_;refine(stp e1).trans ((aU (P:=pg) _ _).trans ?_);rw[bV,t2,h2,aW,if_pos rfl,aU,dW,jJ];show((O.from _ (biD .list [⟨.lst (ks.map nestD),false,true,[]⟩]) _).on _).on _=_;rw[tT];rfl|false=>
 have e2:ex pg (call pg n) [B,G,I,.dead,.dead] (hdS (drp 1 f8.body))=.next [B,G,I,.dead,.dead]:=by refine(bV (P:=pg) _ _ _).trans ?_;rw[t2,h2];rfl
 let p:Nat->Bool:=λk=>decide (0<x4 / ((k:Int)+1) % 3)
 let q:Nat->Bool:=λk=>x5 / ((k:Int)+1) % 3==0
 have wr:∀(Z:Sg) (i:Nat) (ls:List NK),ls.length<=700->ev pg (call pg n) Z (.v i)=.ok ⟨.lst (ls.map nestD),false,true,[]⟩->walk pg (call pg n) Z (.rng (.c (.int 0)) (.bi .len (.cons (.v i) .nil)))=.ok ((AA ls.length).map λ(k:Nat)=>Vl.cl (.int (k:Int)),[]):=λZ i ls hl hv=>by refine eP (v:=.cl (.int (ls.length:Int))) ?_ rfl (by omega);rw[jJ,aI,hv,aA,aT,aA,aA,qU,lM]
 have dv:∀(x:Int) (k:Nat),k<700->opD .FloorDiv (.cl (.int x)) (.cl (.int ((k:Int)+1)))=.ok (.cl (.int (x / ((k:Int)+1)))):=λx k L=>kI (by unfold rQ;rw[Aw (show 0<(k:Int)+1 by omega),Aw (show(k:Int)+1<1073741824 by omega)];rfl);have c3:ev pg (call pg n) [B,G,I,.dead,.dead] (.comp 1 [0,1] (.n 0) (.rng (.c (.int 0)) (.bi .len (.cons (.v 1) .nil))) (.cons (.cmp .Gt (.op .Mod (.op .FloorDiv (.idx (.v 1) (.c (.int 4))) (.op .Add (.v 0) (.c (.int 1)))) (.c (.int 3))) (.c (.int 0))) .nil) (.idx (.v 2) (.v 0)))=.ok ⟨.lst (((AA ks.length).filter p).map λk=>nestD (ks.getD k [])),true,false,[]⟩:=
  qV (λ(k:Nat)=>Vl.cl (.int (k:Int))) (λk=>nestD (ks.getD k [])) p (λ_=>aZ _) (wr _ 1 ks lk rfl) (by rw[B3];exact A2 lk (by decide)) λk L=>by have W:ev pg (call pg n) [.sh false (.int (k:Int)),B,G] (.v 0)=.ok (.cl (.int (k:Int))):=rfl;have i4:ev pg (call pg n) [.sh false (.int (k:Int)),B,G] (.idx (.v 1) (.c (.int 4)))=.ok (.cl (.int x4)):=rfl;refine⟨[.sh false (.int (k:Int)),B,G],rfl,?_,?_⟩;rw[bR,cQ,cQ,i4,aA,cQ,W,aA,cE,aA,add_int,aA,dv _ k (by have:=Bb.mp L;omega),aA,cE,aA,m3,aA,cE,aA];rfl;rw[dU,W];exact aDW (p:=true) (al:=[]) (Bb.mp L)
 let M:Sl:=.own false ((kept p ks).map nestD)
 have c3:ex pg (call pg n) [B,G,I,.dead,.dead] (hdS (drp 2 f8.body))=.next [B,G,I,M,.dead]:=by refine(cA (P:=pg) _ _).trans ?_;rw[c3,aW];show O.next [B,G,I,.own false (((AA ks.length).filter p).map λk=>nestD (ks.getD k [])),.dead]=_;unfold M kept;rw[AM];rfl
 have c4:ev pg (call pg n) [B,G,I,M,.dead] (.comp 1 [0,2] (.n 0) (.rng (.c (.int 0)) (.bi .len (.cons (.v 2) .nil))) (.cons (.cmp .Eq (.op .Mod (.op .FloorDiv (.idx (.v 1) (.c (.int 5))) (.op .Add (.v 0) (.c (.int 1)))) (.c (.int 3))) (.c (.int 0))) .nil) (.idx (.v 2) (.v 0)))=.ok ⟨.lst (((AA js.length).filter q).map λk=>nestD (js.getD k [])),true,false,[]⟩:=
  qV (λ(k:Nat)=>Vl.cl (.int (k:Int))) (λk=>nestD (js.getD k [])) q (λ_=>aZ _) (wr _ 2 js lj rfl) (by rw[B3];exact A2 lj (by decide)) λk L=>by have W:ev pg (call pg n) [.sh false (.int (k:Int)),B,I] (.v 0)=.ok (.cl (.int (k:Int))):=rfl;have i5:ev pg (call pg n) [.sh false (.int (k:Int)),B,I] (.idx (.v 1) (.c (.int 5)))=.ok (.cl (.int x5)):=rfl;refine⟨[.sh false (.int (k:Int)),B,I],rfl,?_,?_⟩;rw[bR,cQ,cQ,i5,aA,cQ,W,aA,cE,aA,add_int,aA,dv _ k (by have:=Bb.mp L;omega),aA,cE,aA,m3,aA,cE,aA];rfl;rw[dU,W];exact aDW (p:=true) (al:=[]) (Bb.mp L)
 let S4:Sl:=.own false ((kept q js).map nestD)
 have c4:ex pg (call pg n) [B,G,I,M,.dead] (hdS (drp 3 f8.body))=.next [B,G,I,M,S4]:=by refine(cA (P:=pg) _ _).trans ?_;rw[c4,aW];show O.next [B,G,I,M,.own false (((AA js.length).filter q).map λk=>nestD (js.getD k []))]=_;unfold S4 kept;rw[AM];rfl
 have sub:∀k∈kept p ks++kept q js,k∈ps:=λk L=>(AO.mp L).elim (λy=>h.sb k (tU y)) λy=>g.sb k (tU y);have rk:Rk ps (ssN (kept p ks++kept q js)):=⟨cC _,λk L=>sub k (bC.mp L)⟩
 have l1:(kept p ks).length<=700:=A2 tV lk;have l2:(kept q js).length<=700:=A2 tV lj;have ad:ev pg (call pg n) [B,G,I,M,S4] (.op .Add (.v 3) (.v 4))=.ok ⟨.lst ((kept p ks++kept q js).map nestD),true,false,[]⟩:=by have hd:decide (((kept p ks).map nestD).length+((kept q js).map nestD).length<=lim)=true:=Aw (by rw[lM,lM];unfold lim;omega);show R.iff (decide (((kept p ks).map nestD).length+((kept q js).map nestD).length<=lim)) (R.ok (⟨.lst ((kept p ks).map nestD++(kept q js).map nestD),true,(false&&!noLs ((kept p ks).map nestD))||(false&&!noLs ((kept q js).map nestD)),(if noLs ((kept p ks).map nestD)=true then [] else [3])++(if noLs ((kept q js).map nestD)=true then [] else [4])⟩:Vl))=_;rw[hd,cN aZ,cN aZ,BM];rfl
 refine⟨_,rk,false,bS (F:=f8) rfl rfl (v:=⟨.lst ((ssN (kept p ks++kept q js)).map nestD),true,false,[]⟩) ?_⟩;show exs pg (call pg n) [B,G,I,.dead,.dead] f8.body=_;refine(stp e1).trans ((stp e2).trans ((stp c3).trans ((stp c4).trans ((aU (P:=pg) _ _).trans ?_))));rw[dW,aGr ad rfl (BE.mpr λk L=>by
  obtain⟨a,b,rfl⟩:=z.pr k (sub k L);rfl) (rk.len z)]
 rfl
end
theorem vL{bs:List (Str×Int)}(T:yY bs)(h:1<=bs.length):2<=(aE bs).length/\(aE bs).length<=24:=by
 have q:=(qS T bs.length (Ak _)).1;have g:=aDV T bs.length (Ak _);rw[DU] at q g;refine⟨?_,g⟩;cases bs with
 | nil=>cases h|cons b r=>
  have I:=(T.one b Ai).1;have:=kF (r.map λb=>b.2+1) (1*(b.2+1)) (by omega) λx G=>by obtain⟨c,B,rfl⟩:=Ag.mp G;have:=(T.one c (Af _ B)).1;omega
  have e:iF (b::r)=(r.map λb=>b.2+1).foldl (·*·) (1*(b.2+1)):=rfl;rw[e] at q;omega
theorem zE{ss:List (List Int)}(h:ss.Pairwise (lexJ · ·=true))(q:2<=ss.length):1<=(pairsL ss).length:=by
 match ss,h,q with
 | a::b::r,h,_=>
  have g:lexJ a b=true:=(Cm.mp h).1 b Ai;have ne:b≠a:=λe=>by subst e;exact bN ((qD.lex.ir _).symm.trans g)
  refine List.length_pos_of_mem (a:=[a,b]) (DT.mpr ⟨a,Ai,Ag.mpr ⟨b,B6.mpr ⟨Af _ Ai,?_⟩,rfl⟩⟩);rw[beq_eq_false_iff_ne.mpr ne];rfl
noncomputable def KS(s:Sl)(l:List NK):Prop:=s=.own false (l.map nestD)\/s=.sh false (.lst (l.map nestD))
theorem KS.val{s:Sl}{l:List NK}(h:KS s l)(i:Nat):∃al,Sl.val i s=.ok ⟨.lst (l.map nestD),false,false,al⟩:=by rcases h with rfl|rfl;exact⟨_,rfl⟩;exact⟨_,rfl⟩
theorem aBO{ks g:List NK}(h:∀k∈ks,k∈g):lack ks g=[]:=List.filter_eq_nil_iff.mpr λk q z=>of_decide_eq_true z (h k q)
theorem c2{W:Caller}{Z:Sg}{f:Nat}{a b:E}{x y:Vl}{g q d:D}(I:ev pg W Z a=.ok x)(L:ev pg W Z b=.ok y)(B:x.d=g)(G:y.d=q)(M:W f [g,q]=.ok (d,false,false)):ev pg W Z (.call f (.cons a (.cons b .nil)))=.ok (.cl d):=by subst B G;rw[cM,aI,I,aA,aI,L,aA,aT,aA,aA,aA];show(W f [x.d,y.d] >>= _)=_;rw[M];rfl
theorem c2F{W:Caller}{Z:Sg}{f:Nat}{a b:E}{x y:Vl}{g q d:D}(I:ev pg W Z a=.ok x)(L:ev pg W Z b=.ok y)(B:x.d=g)(G:y.d=q)(M:W f [g,q]=.ok (d,true,false)):ev pg W Z (.call f (.cons a (.cons b .nil)))=.ok ⟨d,true,false,[]⟩:=by subst B G;rw[cM,aI,I,aA,aI,L,aA,aT,aA,aA,aA];show(W f [x.d,y.d] >>= _)=_;rw[M];rfl
theorem aDw{W:Caller}{Z:Sg}{e:E}(h:ev pg W Z e=.ok (.cl .non)):tst pg W Z (.cmp .IsNot e (.c .non))=.ok false:=by rw[bR,h];rfl
theorem aIF{W:Caller}{Z:Sg}{f:Nat}{es:Es}(h:ev pg W Z (.call f es)=.ok (.cl (.bl true))):tst pg W Z (.nt (.call f es))=.ok false:=by
 rw[aBz,aBA];rw[cM] at h;cases q:evs pg W Z es with
 | ok vs=>
  rw[q,aA] at h;rw[aA];cases g:W f (vs.map (·.d)) with
  | ok r=>rw[g,aA] at h;rw[aA,R.ok.inj h];rfl|exc x=>rw[g] at h;cases h|bad=>rw[g] at h;cases h
 | exc x=>rw[q] at h;cases h|bad=>rw[q] at h;cases h
theorem aIG{W:Caller}{Z:Sg}{a b:E}{s t:Ss}(g:tst pg W Z a=.ok false)(q:tst pg W Z b=.ok false):ex pg W Z (.iff (.orr a b) s .nil)=.next Z:=by rw[bV,xN,g,aA,if_neg bN,q,aW,if_neg bN,eO]
theorem aIH{W:Caller}{Z:Sg}{a:E}{s:Ss}(g:tst pg W Z a=.ok false):ex pg W Z (.iff a s .nil)=.next Z:=by rw[bV,g,aW,if_neg bN,eO]
theorem pure(ns:List Int)(hn:ns.length<=63):∃fr pa,call pg 60 11 [.lst (ns.map D.int)]=.ok (.bl true,fr,pa):=by
 refine⟨false,false,?_⟩;generalize q2:(ns++[0]).getD 0 0=cell;have cs:=oJ (P:=pg) (f:=4) rfl 58 cell (m:=7) (by decide);have cs:call pg 59 4 [.int cell,.int 7]=.ok (.lst [.int (num cell 2),.int (num cell 3),.int (num cell 4),.int (num cell 5),.int (num cell 6),.int (num cell 7),.int (num cell 8)],true,false):=cs;generalize num cell 2=x0,num cell 3=x1,num cell 4=x2,num cell 5=x3,num cell 6=x4,num cell 7=x5,num cell 8=x6 at cs;obtain⟨bs,T,hb,cb⟩:=aBI 58 x0 x1 x2 x3 x4 x5 x6;have cb:call pg 59 5 [.lst [.int x0,.int x1,.int x2,.int x3,.int x4,.int x5,.int x6]]=.ok (.lst (bW bs),true,false):=cb;have w1:=zA (P:=pg) (f:=0) rfl 58 T;obtain⟨s2,q6⟩:=vL T hb;have cp:=aBJ 58 q6;have pr:=vJ (jL bs);have po:=zE (jL bs) s2;have pp:∀k∈pairsL (aE bs),∃a b,k=[a,b]:=λk M=>aBH M;have pl:(pairsL (aE bs)).length<=700:=A2 (A2 (zB (aE bs)) (Nat.mul_le_mul q6 q6)) (by decide);generalize pairsL (aE bs)=ps at cp pr po pl pp;have z:Pz ps:=⟨pr,pp,pl⟩
 let g:Sl:=.sh true (.lst (ns.map D.int))
 have a0:∀r,ev pg (call pg 59) (g::r) (.idx (.op .Add (.v 0) (.lst (.cons (.c (.int 0)) .nil))) (.c (.int 0)))=.ok (.cl (.int cell)):=λr=>by
  have U:ns.length+1<=lim:=by unfold lim;omega
  have e:opD .Add ⟨.lst (ns.map D.int),false,true,[]⟩ ⟨.lst [.int 0],true,false,[]⟩=.ok ⟨.lst ((ns++[0]).map D.int),true,false,[]⟩:=by have hd:decide ((ns.map D.int).length+[D.int 0].length<=lim)=true:=Aw (by simpa using U);show R.iff (decide ((ns.map D.int).length+[D.int 0].length<=lim)) (R.ok (⟨.lst (ns.map D.int++[D.int 0]),true,(true&&!noLs (ns.map D.int))||(false&&!noLs [D.int 0]),(if noLs (ns.map D.int)=true then [] else [])++(if noLs [D.int 0]=true then [] else [])⟩:Vl))=_;rw[hd,fX];simp[noLs,Hp.noL]
  have hm:cK [.cl (.int 0)]=⟨.lst [.int 0],true,false,[]⟩:=rfl;have i0:=xR (v:=⟨.lst ((ns++[0]).map D.int),true,false,[]⟩) (is:=ns++[0]) (k:=0) rfl (by simp);rw[q2] at i0;have i0:cS ⟨.lst ((ns++[0]).map D.int),true,false,[]⟩ (.cl (.int 0))=.ok (.cl (.int cell)):=i0;simp only[g,dU,cQ,qN,jD,aI,aT,cE,cR,gZ,kG,aA,hm,e,i0]
 let G:Sl:=.own false [.int x0,.int x1,.int x2,.int x3,.int x4,.int x5,.int x6]
 let q:Sl:=.own false (ps.map nestD)
 have e1:ex pg (call pg 59) [g,.dead,.dead,.dead,.dead,.dead] (hdS f11.body)=.next [g,G,.dead,.dead,.dead,.dead]:=by refine(cA (P:=pg) _ _).trans ?_;simp only[cM,aI,aT,a0,cE,aA,mC,mN,mS,cs,mT,aW,iI,tI,iH,lS,lZ];rfl
 have e2:ex pg (call pg 59) [g,G,.dead,.dead,.dead,.dead] (hdS (drp 1 f11.body))=.next [g,G,q,.dead,.dead,.dead]:=by refine(cA (P:=pg) _ _).trans ?_;simp only[G,cM,aI,aT,qN,cR,gS,gZ,kH,aA,mC,mN,cb,w1,cp,mT,aW,iI,tI,iH,lS,lZ];rfl
 obtain⟨k0,g0,c3⟩:=oQ 57 (ns:=ns) 1 (by decide) po pp;have c3:call pg 59 7 [.lst (ns.map D.int),.int 1,.lst (ps.map nestD)]=.ok (.lst (k0.map nestD),true,false):=c3;obtain⟨dr,gd,c5⟩:=oQ 57 (ns:=ns) 21 (by decide) po pp;have c5:call pg 59 7 [.lst (ns.map D.int),.int 21,.lst (ps.map nestD)]=.ok (.lst (dr.map nestD),true,false):=c5;have e3:ex pg (call pg 59) [g,G,q,.dead,.dead,.dead] (hdS (drp 2 f11.body))=.next [g,G,q,.own false (k0.map nestD),.dead,.dead]:=by refine(cA (P:=pg) _ _).trans ?_;simp only[g,q,cM,aI,aT,qN,cE,mS,cR,gS,gZ,kH,kG,aA,mC,mN,c3,mT,aW,iI,tI,iH,lS,lZ]
 have m9:∀i:Int,opD .Mod (.cl (.int i)) (.cl (.int 9))=.ok (.cl (.int (i % 9))):=λi=>cV (by decide);have t4:∀a3,tst pg (call pg 59) [g,G,q,a3,.dead,.dead] (.cmp .Eq (.op .Mod (.idx (.v 1) (.c (.int 6))) (.c (.int 9))) (.c (.int 0)))=.ok (x6 % 9==0):=λa3=>by have i3:ev pg (call pg 59) [g,G,q,a3,.dead,.dead] (.idx (.v 1) (.c (.int 6)))=.ok (.cl (.int x6)):=rfl;rw[bR,cQ,i3,aA,cE,aA,m9,aA,cE,aA];rfl
 have e4:∃ks:List NK,Rk ps ks/\ex pg (call pg 59) [g,G,q,.own false (k0.map nestD),.dead,.dead] (hdS (drp 3 f11.body))=.next [g,G,q,.own false (ks.map nestD),.dead,.dead]:=by
  cases hq:(x6 % 9==0) with
  | false=>refine⟨k0,g0,(bV (P:=pg) _ _ _).trans ?_⟩;rw[t4,hq];rfl|true=>
   refine⟨ps,⟨pr,λk h=>h⟩,(bV (P:=pg) _ _ _).trans ?_⟩;have U:biD .list [⟨.lst (ps.map nestD),false,false,[2]⟩]=.ok ⟨.lst (ps.map nestD),true,false,[]⟩:=by show R.ok (⟨.lst (ps.map nestD),true,false&&!noLs (ps.map nestD),if noLs (ps.map nestD) then [] else [2]⟩:Vl)=_;rw[cN aZ];rfl
   rw[t4,hq,aW,if_pos rfl];simp only[q,aU,eO,cA,jJ,aI,aT,qN,cR,gS,gZ,kH,aA,U,aW,iI,tI,iH,lS,lZ,aIw]
 obtain⟨ks,M,e4⟩:=e4;obtain⟨ls,U,b,c8⟩:=zD 58 x0 x1 x2 x3 x4 x5 x6 z M gd;have c8:call pg 59 8 [.lst [.int x0,.int x1,.int x2,.int x3,.int x4,.int x5,.int x6],.lst (ks.map nestD),.lst (dr.map nestD)]=.ok (.lst (ls.map nestD),!b,b):=c8;have e5:∃B T3 T4,KS T3 ks/\KS T4 ls/\ex pg (call pg 59) [g,G,q,.own false (ks.map nestD),.dead,.dead] (hdS (drp 4 f11.body))=.next [g,B,q,T3,T4,.dead]:=by
  have q9:∀a3,ev pg (call pg 59) [g,G,q,a3,.dead,.dead] (.call 7 (.cons (.v 0) (.cons (.c (.int 21)) (.cons (.v 2) .nil))))=.ok ⟨.lst (dr.map nestD),true,false,[]⟩:=λa3=>by simp only[g,q,cM,aI,aT,qN,cE,mS,cR,gS,gZ,kH,kG,aA,mC,mN,c5,mT]
  have q7:ev pg (call pg 59) [g,G,q,.own false (ks.map nestD),.dead,.dead] (.call 8 (.cons (.v 1) (.cons (.v 3) (.cons (.call 7 (.cons (.v 0) (.cons (.c (.int 21)) (.cons (.v 2) .nil)))) .nil))))=.ok (dX [⟨.lst [.int x0,.int x1,.int x2,.int x3,.int x4,.int x5,.int x6],false,false,[1]⟩,⟨.lst (ks.map nestD),false,false,[3]⟩,⟨.lst (dr.map nestD),true,false,[]⟩] (.lst (ls.map nestD),!b,b)):=by rw[cM,aI,show ev pg (call pg 59) [g,G,q,.own false (ks.map nestD),.dead,.dead] (.v 1)=.ok ⟨.lst [.int x0,.int x1,.int x2,.int x3,.int x4,.int x5,.int x6],false,false,[1]⟩ from rfl,aA,aI,show ev pg (call pg 59) [g,G,q,.own false (ks.map nestD),.dead,.dead] (.v 3)=.ok ⟨.lst (ks.map nestD),false,false,[3]⟩ from rfl,aA,aI,q9,aA,aT,aA,aA,aA,aA];show(call pg 59 8 [.lst [.int x0,.int x1,.int x2,.int x3,.int x4,.int x5,.int x6],.lst (ks.map nestD),.lst (dr.map nestD)] >>= _)=_;rw[c8];rfl
  cases b with
  | true=>refine⟨.sh false (.lst [.int x0,.int x1,.int x2,.int x3,.int x4,.int x5,.int x6]),_,_,.inr rfl,.inr rfl,(cA (P:=pg) _ _).trans ?_⟩;rw[q7,aW];rfl|false=>refine⟨G,_,_,.inl rfl,.inl rfl,(cA (P:=pg) _ _).trans ?_⟩;rw[q7,aW];rfl
 obtain⟨B,T3,T4,h3,h4,e5⟩:=e5;have r1:call pg 59 10 [.lst (ks.map nestD),.lst (ls.map nestD)]=.ok (.bl true,false,false):=iK 57 z M U;have r2:call pg 59 10 [.lst (ls.map nestD),.lst (ks.map nestD)]=.ok (.bl true,false,false):=iK 57 z U M;have r3:call pg 59 10 [.lst (ls.map nestD),.lst []]=.ok (.bl true,false,false):=iK 57 z U Rk.nil;have r4:call pg 59 10 [.lst ((ssN (ks++ls)).map nestD),.lst (ks.map nestD)]=.ok (.bl true,false,false):=iK 57 z (M.or U) M;have cj:call pg 59 2 [.lst (ks.map nestD),.lst (ls.map nestD)]=.ok (.lst ((ssN (ks++ls)).map nestD),true,false):=zC 58 z M U;have w0:call pg 59 3 [.lst (ks.map nestD),.lst (ls.map nestD)]=.ok (.lst ((ks.filter λk=>decide (k∈ls)).map nestD),true,false):=aDt 58 z M U;have wi:∀{as bs:List NK},Rk ps as->Rk ps bs->(∀k∈as,k∈bs)->call pg 59 1 [.lst (as.map nestD),.lst (bs.map nestD)]=.ok (.non,false,false):=λha hb hs=>by have:=oR 58 z ha hb;rw[aBO hs] at this;exact this
 have v3:∀{T3 T4:Sl},KS T3 ks->∀s5,∃al,ev pg (call pg 59) [g,B,q,T3,T4,s5] (.v 3)=.ok ⟨.lst (ks.map nestD),false,false,al⟩:=λh _=>h.val 3;have v4:∀{T3 T4:Sl},KS T4 ls->∀s5,∃al,ev pg (call pg 59) [g,B,q,T3,T4,s5] (.v 4)=.ok ⟨.lst (ls.map nestD),false,false,al⟩:=λh _=>h.val 4;have e6:ex pg (call pg 59) [g,B,q,T3,T4,.dead] (hdS (drp 5 f11.body))=.next [g,B,q,T3,T4,.dead]:=by obtain⟨_,q3⟩:=v3 (T4:=T4) h3 .dead;obtain⟨_,q4⟩:=v4 (T3:=T3) h4 .dead;exact aIG (t:=.nil) (aIF (c2 q3 q4 rfl rfl r1)) (aIF (c2 q4 q3 rfl rfl r2))
 have hw:∃(al:List Nat) (I L:Sl),KS I ks/\KS L ls/\freeze [g,B,q,T3,T4,.dead] al=[g,B,q,I,L,.dead]/\walk pg (call pg 59) [g,B,q,T3,T4,.dead] (.seq (.lst (.cons (.v 3) (.cons (.v 4) .nil))))=.ok ([ks,ls].map (λl=>(⟨.lst (l.map nestD),false,false,al⟩:Vl)),al):=by rcases h3 with rfl|rfl <;> rcases h4 with rfl|rfl;exact⟨[3,4],_,_,.inr rfl,.inr rfl,rfl,rfl⟩;exact⟨[3],_,_,.inr rfl,.inr rfl,rfl,rfl⟩;exact⟨[4],_,_,.inr rfl,.inr rfl,rfl,rfl⟩;exact⟨[],_,_,.inr rfl,.inr rfl,rfl,rfl⟩
 obtain⟨al,I,L,u3,u4,hf,hw⟩:=hw;obtain⟨Z',e7,hI⟩:=gN (t:=.n 5) (b:=match hdS (drp 6 f11.body) with|.for _ _ b=>b|_=>.nil) (λi Z=>∃s5,Z=[g,B,q,I,L,s5]) hw ⟨_,hf⟩ (λi hi Z w4=>by
  obtain⟨s5,rfl⟩:=w4;have w6:i < [ks,ls].length:=by simpa using hi
  obtain⟨cs,q1,q8,w3⟩:∃cs,Rk ps cs/\(cs=ks\/cs=ls)/\(([ks,ls].map (λl=>(⟨.lst (l.map nestD),false,false,al⟩:Vl)))[i])=⟨.lst (cs.map nestD),false,false,al⟩:=by rcases(show i=0\/i=1 by have:[ks,ls].length=2:=rfl;omega) with rfl|rfl;exact⟨ks,M,.inl rfl,rfl⟩;exact⟨ls,U,.inr rfl,rfl⟩
  let S5:Sl:=.sh false (.lst (cs.map nestD))
  have q5:ev pg (call pg 59) [g,B,q,I,L,S5] (.v 5)=.ok (.cl (.lst (cs.map nestD))):=rfl;obtain⟨_,q3⟩:=v3 (T4:=L) u3 S5;obtain⟨_,q4⟩:=v4 (T3:=I) u4 S5;have ql:ev pg (call pg 59) [g,B,q,I,L,S5] (.bi .list (.cons (.v 5) .nil))=.ok ⟨.lst (cs.map nestD),true,false,[]⟩:=by rw[jJ,aI,q5,aA,aT,aA,aA];show R.ok (⟨.lst (cs.map nestD),true,false&&!noLs (cs.map nestD),if noLs (cs.map nestD) then [] else []⟩:Vl)=_;rw[cN aZ];rfl
  have q0:ev pg (call pg 59) [g,B,q,I,L,S5] (.lst .nil)=.ok ⟨.lst [],true,false,[]⟩:=rfl;have inj:∀k∈cs,k∈ssN (ks++ls):=λk h'=>bC.mpr (by
   rcases q8 with e|e;rw[e] at h';exact AB _ h';rw[e] at h';exact As _ h')
  have w5:∀k∈ks.filter (λk=>decide (k∈ls)),k∈cs:=λk h'=>by have:=B6.mp h';rcases q8 with e|e;rw[e];exact this.1;rw[e];exact of_decide_eq_true this.2
  refine⟨[g,B,q,I,L,S5],[g,B,q,I,L,S5],by rw[w3];rfl,?_,_,rfl⟩;refine(stp (Z':=[g,B,q,I,L,S5]) ?_).trans ((stp (Z':=[g,B,q,I,L,S5]) ?_).trans ((stp (Z':=[g,B,q,I,L,S5]) ?_).trans rfl));exact aIG (t:=.nil) (aDw (c2 q5 ql rfl rfl (wi q1 q1 λk h=>h))) (aDw (c2 q0 q5 rfl rfl (wi (as:=[]) Rk.nil q1 λk h=>absurd h EI)));exact aIH (aDw (c2 q5 (c2F q3 q4 rfl rfl cj) rfl rfl (wi q1 (M.or U) inj)));exact aIH (aDw (c2 (c2F q3 q4 rfl rfl w0) q5 rfl rfl (wi (M.fil _) q1 w5))))
 obtain⟨s5,rfl⟩:=hI;refine bS (P:=pg) (W:=call pg 59) (f:=11) (ds:=[.lst (ns.map D.int)]) (F:=f11) rfl rfl (v:=.cl (.bl true)) ?_;refine(stp e1).trans ((stp e2).trans ((stp e3).trans ((stp e4).trans ((stp e5).trans ((stp e6).trans ((stp e7).trans ?_))))));obtain⟨_,q3⟩:=v3 (T4:=L) u3 s5;obtain⟨_,q4⟩:=v4 (T3:=I) u4 s5;have q0:ev pg (call pg 59) [g,B,q,I,L,s5] (.lst .nil)=.ok ⟨.lst [],true,false,[]⟩:=rfl;show exs pg (call pg 59) _ (.cons (.ret (.an _ _)) .nil)=_;rw[aU,dW,aBw,c2 q4 q0 rfl rfl r3,aA];show(O.from _ (ev pg (call pg 59) [g,B,q,I,L,s5] (.call 10 (.cons (.call 2 (.cons (.v 3) (.cons (.v 4) .nil))) (.cons (.v 3) .nil)))) _).on _=_;rw[c2 (c2F q3 q4 rfl rfl cj) q3 rfl rfl r4];rfl
end K30
noncomputable section
set_option maxRecDepth 100000
set_option maxHeartbeats 0
namespace K30
open PySem PySem.W L2 Hp Hh
noncomputable def ix:List (Nat×List Str):=(1,["boxes", "found", "name", "top", "longer", "begun"]) ::
 (3,["one", "other", "lacking"]) ::
 (4,["one", "other"]) ::
 (5,["one", "other"]) ::
 (7,["_law_cell", "_law_many", "_law_found", "_law_number", "_law_k"]) ::
 (8,["_law_xs", "_law_tops"]) ::
 (9,["_law_some", "_law_found", "_law_ahead"]) ::
 (10,["_law_script", "_law_at", "_law_pairs_here", "_law_found", "_law_cell", "_law_xs"]) ::
 (11,["_law_xs", "_law_one", "_law_drawn", "_law_kept", "_law_more"]) ::
 (12,["_law_found"]) ::
 (13,["_law_one", "_law_other", "_law_there", "_law_step", "_law_lacks", "_law_handed", "_law_found"]) ::
 (14,["_law_script", "_law_xs", "_law_pairs_here", "_law_one", "_law_other", "_law_steps"])::[]
noncomputable def cns:List (Str×D):=[]
abbrev pw:=Fe
theorem chk:fK ⟨[],[],(ix.map (jT pw)).map (·.x),cns,[],true,[]⟩ pg.fns (ix.map (jT pw))=true:=by decide +kernel
theorem lft:LT pw (xM pw) (aBv pw) (λ_=>true) (λs=>iE pw cns s.heap) (λ_=>mO pw) 100000:=aGd (by kernel_rfl) rfl (λ_=>by kernel_rfl) λw os=>by
 kernel_rfl
end K30
end
noncomputable section
open PySem PySem.W PyProof.Rows Hh
set_option maxRecDepth 100000 in
set_option maxHeartbeats 0 in
theorem PySem.Challenge.cw_handpromise_k30_one_promise_within_holds : PySem.Challenge.rw_handpromise_k30_one_promise_within.Holds := by
 refine holds_law (by kernel_rfl) λ said => ?_;refine aGh (l := Ff) (k := 59) (f := 11) (x := "_law_script") (sl := ["_law_xs", "_law_pairs_here", "_law_one", "_law_other", "_law_steps"]) said K30.lft (by kernel_rfl) (by kernel_rfl) rfl rfl (by decide +kernel) ⟨rfl, rfl, rfl, rfl, rfl, by decide +kernel⟩ ?hw rfl rfl (by decide +kernel) (by decide +kernel) K30.chk ⟨rfl, rfl, by decide, by decide⟩ (by kernel_rfl) rfl K30.pure
 w_witness2
end
