import PyProof.Rows.All
import Wide.All
import OpenK.AllK
import Wide.FinOn
import Lean
import PyProof.EqAt
import PyProof.EqKinds
import PyProof.TupleCall
import PyProof.NeKinds
import PyProof.FactsAll.tuple_2
import PyProof.TupleKey
import PyProof.DictRoadsH
import PyProof.Rows.TupTab
import PyProof.AttrMissHeap
import KE.KDictOf
import PySem.Syntax
import PySem.Builtin.Str.Common
import PyProof.ReprReads
import PyProof.StrLaws
import PyProof.ReprRoads
import PyProof.FitsInt
import KE.KIsAll
import PyProof.DictTable
import PyProof.Rows.SetFrom
import PyProof.SetRoads
import PyProof.ZipIter
import PyProof.StrWalks
import PyProof.EnumFor
import PyProof.EnumStmt
import PyProof.ListNew
import PyProof.CollectIter
import KE.KSortTup
import PyProof.Rows.SortWalk
import PyProof.Rows.FactsT3
import PySem.Challenge.RW_handpromise_k35_the_first_break
set_option compiler.extract_closed false
set_option compiler.postponeCompile true
set_option genSizeOf false
set_option genInjectivity false
set_option bootstrap.genMatcherCode false
set_option Elab.async false
set_option linter.all false
noncomputable section
open PySem renaming wpAny_bind->Aa,Shared->Ad,wpAny_pure->Ae,wpAny->As,Program->A2,model->A5,Expr->A6,starEach->AA,mainGlobals->AI,World->AL,wpAny_setField_rec->AS,Around->AT,wpAny_callSpecial?_slot->AU,sizeLine_eq->AY,wpAny_call_entry->AZ,wpAny_field->Bc,wpAny_newObj_type->Bm,wpAny_Call_Name_kw->Bq,wpAny_holding->Br,wpAny_seqItems->B1,mem_of_lookup->B6,bootBuiltins->BC,wpAny_truthy_bool->BH,Builtin->BI,foldedSetIterable->BJ,wpAny_setState_of->BL,compareOp->BP,Stmt->BY,sysModules->Cb,backTo->Cd,codeAny_builtin->Cg,eval->Ch,NameKind->Ci,rawInt->Co,binaryOp->Cp,wpAny_mono->CJ,assignEach->CK,wpAny_pyIter_list->CY,ofAClassStatement->Dc,Scope->De,keywordEach->Df,IsPair->Dg,wpAny_askSetting->Dl,pyNext->Dp,Pos->Du,FuncData->Dv,wpAny_attempt->Dz,plainId_quiet->D1,wpAny_passesOwn->D3,codeAny->D4,call_meets->D8,wpAny_rule->D9,sliceBounds->DC,codeAny_mono->DG,wpAny_typeOf->DI,wpAny_Call_method_late->DJ,carriedByValue->DP,wpAny_isInstance->DV,intKind->DY,attributeBase->DZ,wpAny_updateSeq_pair->Ee,letOwnedTupleGo->Eg,atKey->Et,wpAny_setEntries_of->Eu,DictEntry->Ey,backToKw->E3,wpAny_binaryOp_repeat_ref->ED,Keyword->EK,wpAny_comprehension_free->EU,wpAny_onRaise->EV,noFill_tuple_add->Fb,wpAny_forIn_list->Fk,Paired->Fp,builtinsNs->Fq,holding->Ft,Result->Fu,concat_meets->Fx,IsPart->Fy,getItem->Fz,typeIs_int->F1,callerA->F2,valueAt->F4,wpAny_execs_nil->F9,wpAny_eqIsQuiet_tuple->FF,builtinLookup_eq_fast->FG,GenState->FK,dictSetDefault->FO,IsZip->FS,wpAny_letGo->FU,wpAny_newTuple->FV,isSubtype_stop->FW,hashByValue->FX,isSubtype_type->Ga,Arguments->Gf,wpAny_standAt->Gm,behindInMarks->Gn,seq_tuple_add->Go,setSearchFrom->Gq,wpAny_newList->Gr,call->Gy,wpAny_pyIter_tuple->G2,Within->GF,wpAny_assign_Name->GG,standAt->GH,wpAny_sequenceKey->GO,seqIndex_neg->GP,slot_list_getitem->GQ,list_append->GR,call_meetsIn->GY,field->Hg,ZipApart->Hi,wpAny_pyIter_enum->Hk,searchCouldBeSeen->Hl,wpAny_storeSet_of->Hn,wpAny_pyIter_slot->Hq,wpAny_eqBool_int->Hx,tupleKind->Hy,wpAny_execs_cons->Hz,swapsWith->H0,pyIter->H9,getMethod->HB,seqSlot_of->HI,wpAny_Dict_empty->HJ,wpAny_pyIter_zip->HQ,entryFor_of_tree->HU,treeTable->HW,seqIndex_of->Ic,wpAny_of_eq->Ig,wpAny_specialOf->Iq,codeAny_of_tree->Ir,typeLookup_type->Iw,importedModules->Iz,spliced->IA,OsState->ID,wpAny_Name->IE,assign->IF,recursionLimit->IG,bindArgs->IH,wpAny_call->II,bindL->IJ,bindC->IK,Params->IS,reduceHash->IT,methodCallForm->IW,wpAny_setField->IX,firstArgMember->IY,IsEnum->IZ,wpAny_runValue->Jc,entryFor->Jd,entryFor_alias->Je,setsByText->Jf,wpAny_fieldsOf->Jg,ItemsAre->Jh,Thread->Jl,intBits_le_64->Jq,evalPart_none->Js,call_list_seq->Ju,wpAny_handled->Jv,fenceModules?->J1,lastMarks->J6,cellsFrom->J7,seqItems?->J8,Env->JA,BindsTo->JC,relabel->JD,callType_new->JE,setAddHashed->JF,setNext->JG,denote->JM,interactive->JT,IsRangeIter->JU,wpAny_BinOp->JV,subscripted->JY,HeapKind->Ka,compEnvC->Kb,wpAny_throw->Kd,slotArgs->Ke,Sem->Kr,newExc->Kw,argsOk->Kz,hashInt->K1,hashStr->K2,getAttr->K3,Meets->K7,Model->KQ,table->KU
open PySem.Heap renaming get?_push_of_some->Ab,get?_push_size->Al,lt_size->Aq,size_push->Bl,SameBut->BR,get?_update_other->CL,get?_update_self->CU,get?_update_ne->Dt,ExtBut->FR
open List renaming getElem?_eq_getElem->Ac,getElem?_set_ne->Af,mem_cons_of_mem->Ag,size_toArray->Ah,getElem?_eq_some_iff->Ai,replicate->Aj,getD_eq_getElem?_getD->Ak,mem_cons_self->Am,getElem?_map->Ar,range->Au,mem_cons->Ax,getElem?_set_self->Ay,nodup_cons->Az,getElem?_append_left->A0,length_set->A1,getElem?_append_right->A3,map_map->A7,mem_singleton->A8,all_eq_true->AB,mem_append_right->AD,mem_map->AE,length_range->AK,getElem_mem->AM,length_replicate->AQ,getElem?_eq_none->AR,mem_range->AV,zip_cons_cons->Ba,append_nil->Bd,length_take->Be,exists_of_findSome?_eq_some->Bg,findSome?_cons->Bk,mem_append_left->Bo,getElem_map->Bs,mem_filterMap->B0,map_append->B2,filterMap_cons->B5,replicate_succ->B7,map_congr_left->B9,foldl_cons->BD,getElem?_replicate->BF,flatMap_cons->BM,lookup->BN,mem_iff_getElem?->BO,getElem_range->BQ,getElem?_of_mem->BX,pairwise_cons->Cs,length_singleton->Cv,mem_or_eq_of_mem_set->Cz,getElem?_zip_eq_some->C0,mem_append->C1,nil_append->C2,pairwise_map->C5,map_inj_left->C6,length_eq_zero_iff->CC,take_length->CD,filter_cons->CI,getElem?_take->CM,find?_cons->CT,getElem?_toArray->CW,flatten_cons->CZ,nodup_append->Da,ext_getElem?->Dd,length_cons->Dk,getElem?_range->Dq,length_append->D7,pairwise_singleton->DD,nodup_nil->DM,range_succ_eq_map->DN,take_succ_eq_append_getElem->DR,length_drop->DT,isEmpty_nil->DX,all_cons->Ea,mem_filter->Ef,length_map->Eh,of_mem_zip->Ei,getElem?_drop->E7,drop_eq_getElem_cons->EE,pairwise_iff_getElem->EF,append_assoc->EL,foldl_append->EO,map_id->EQ,zip_nil_left->ES,mem_flatMap->Fe,lookup_cons->Ff,nodup_range->Fi,not_mem_nil->Fm,all_map->F5,pairwise_lt_range->F7,map_set->F8,forIn_cons->FB,range_succ->FD,filterMap_append->FI,length_filter_le->FJ,forIn_nil->FT,pairwise_append->FY,mem_of_mem_take->FZ,foldl_nil->Gb,toList_toArray->Gj,filter_sublist->Gk,findSome?_map->GB,any_eq_false->GI,take_sublist->GN,getElem?_inj->Ht,any_eq_true->HK,zipIdx_cons->HN,drop_length->HR,cons_append->HV,length->Ib,zipIdx_nil->Io,foldl->IP,take_succ->Ja,any_cons->J3,Nodup->Kx,map->KY
open Nat renaming le_refl->An,ne_of_lt->A4,zero_le->A9,lt_of_lt_of_le->AC,add_sub_cancel_left->AN,le_trans->AW,lt_irrefl->AX,lt_or_ge->Bb,lt_succ_of_lt->Bz,lt_succ_self->B3,ne_of_gt->BS,not_lt_zero->C3,le_add_right->CF,mod_lt->DA,le_of_lt->DE,lt_trans->DL,le_succ_of_le->DO,zero_add->DQ,le_succ->Ec,succ_pos->Ew,lt_trichotomy->EN,succ_le_succ->Fl,not_lt->F3,lt_of_le_of_lt->G3,mul_comm->GV,sub_zero->Hb,le_antisymm->Ip,le_of_eq->JB,succ->KS
open Option.some renaming inj->Ao,injEq->BB
open PySem.W renaming Frag->Ap,emptyDict->BA,nsIn->BU,findIn->BW,instObj->Cc,boot_heap->Cm,keepIn->CB,kia_one->CO,kia_tup->CP,plainGet->DS,plainGet_of->Er,lookIn->E1,callWith_K->E2,methodObj->EH,hasDictIn->EJ,cellsFrom_some->Fv,fnOf->Fw,takerIn->FA,kitAny->FQ,SharedT->Gg,kitx_tuple->G0,boot_drawn->G6,isFn->GJ,plainOver->GK,kitx_none->Hd,kitx_bool->He,kitx_list->Hf,handedIn->HA,kitx_int->HL,kitx_str->HM,boot_toks->HX,makesIn->Ij,OpenLaw->I0,codeIn->IL,kas_rev->JI,stepOk->JN,keepIn->JP,openGood->Ki,OpenLaw->K6,through->KC,stepT->KD,topStub->KF,topFrom->KG,LeftO->KZ,nsIn->La
open Array renaming getD_eq_getD_getElem?->AF,length_toList->AH,getElem?_eq_getElem->Bp,getElem?_toList->Bu,getElem?_eq_some_iff->Dh,replicate->Eo,getElem?_eq_none_iff->E6,perm_iff_toList_perm->E9,eraseIdxIfInBounds->EZ,forIn_toList->G4,size_append->GZ,toList_inj->HS,mk->Jm
open PySem.Value renaming ref->AG,none->Ca,bool->D6,type->Fo,int->Gc,str->Hw,isInt->HZ,isStrOf->Jo,bytes->JR,float->JS
open PySem.Builtin.SmallTypes renaming nextOf->AO,ownedTupleIsFree->Bn,ownedTupleHandOut->Cj
open Option renaming map_eq_some_iff->Bf,map_some->Ep,getD_none->Fc,none->JZ
open PySem.NameKind renaming free->Bh
open PyProof.Rows renaming slot_tuple_getitem->Bj,callWith_type1->Bv,callWith_builtin1->B4,seqObj->CN,listUpdate_at->Eb,AllBare->EI,subscriptTail_builtinR->F0,get?_update_seq->FC,envOfC->FM,entry_tuple_getitem->Gh,args_tuple_getitem->Gw,size_push'->G5,slot_str_getitem->HE,seqEpoch_at->Ih,entry_list_sort->Ix,IntsAre->IB,slicePart_none->IM,slot_list_sort->Ji,args_list_sort->Jj,sortedHeap_old->Jk,tupleItemsOf_->Jr,subscriptTail->Jt,sortedHeap_at->J0,plain_sorted->JJ,entry_sorted->JK,args_sorted1->JL,kind_sorted->Kf,boot_sorted->Kg,TupTab->Kl,tuples'->K9,Call_->KR
open PySem.Obj renaming mapSeq->Bt,data_mapDictKeys->FP,data_mapFields->G1,putSet->Ky
open PySem.Builtin.Str renaming strSliceIndices->Bx,occurrences->CA,occurrences->Ie,tooLong->Km
open PySem.Heap.SameBut renaming update->B8,refl->K8
open PySem.F renaming called_set->BE,slot_tuple_iterator_next->Cr,plainAttrs_list->CH,slot_enumerate_next->CV,args_tuple_add_2->Dw,entry_tuple_add->DB,slot_tuple_add->DH,slot_tuple_mul->DU,slot_int_rmul->Ej,slot_dict_setdefault->Ek,args_tuple_iterator_next_1->Em,slot_zip_next->En,entry_tuple_iterator_next->Ev,slot_list_append->EX,type_list_append->EY,slot_list_remove->Fa,plainAttrs_dict->Fd,args_enumerate_next_1->Fh,entry_enumerate_next->F6,slot_dict_get->FE,slot_set_iter->FH,args_list_append_2->FN,entry_list_append->Gi,slot_list_append->Gx,args_tuple_mul_2->Gz,args_int_rmul_2->GU,slot_tuple_rmul->GW,entry_tuple_mul->GX,args_zip_next_1->Hj,plain_list_iadd->Hr,slot_int_index->HG,entry_int_rmul->HH,entry_zip_next->HP,fills_int_mul->Il,plain_set_new->Iu
open PySem.Around renaming under_plainId->BG,under->GL
open Int renaming toNat_natCast->BK,natCast_nonneg->EB,emod_lt_of_pos->GA,natCast_mul->Im,emod_nonneg->I9
open Prod.mk renaming injEq->BV
open Sum renaming inr->BZ,inl->GD
open False renaming elim->Ce
open Bool renaming or_eq_true->Cf,not_eq_true'->Db,and_true->Dy,not_true->D2,false_ne_true->D5,eq_iff_iff->El,not_false->EA,or_false->ET,false_and->FL,or_true->Ha,and_eq_true->HC,noConfusion->HY,and_false->IQ,true_and->J4
open PyProof.Rows.F renaming plain_set_update_loop->Ck,entry_set_update_loop->Ds
open PySem.Calls renaming spliced_cons->Cq,spliced_nil->DF,callWith_builtin->DK,evalArgs_plain->Ed,Name_function_global->Ez,call_function_entry->EG
open PySem.Challenge renaming rw_handpromise_k35_the_first_break->Cu,pw_handpromise_k35_the_first_break->EC
open PySem.Builtin.Slice renaming slicePlaces->Cw,sliceAdjust->Dm,sliceApplied->E4,slicePartIndex->Ik,sliceFields->Jn
open Classical renaming byContradiction->Cy,not_not->KB
open PySem.StrLaws renaming sliceText->C4
open True renaming intro->C7
open PySem.Builtin.Tuple renaming tupleExact->C8,tupleHashOf->Dn,tupleItemsOf->E5,tupleHashOf->Hv,tupleIsExact->IV
open PySem.Builtin.List renaming listTooLong->C9,listExtendWith->Ex,listSameRef->EW,listLengthHint->IC,listFitsIndex->IR,listTouch->JH
open PySem.AutoSeq1 renaming wpAny_loadPart'->CG,list_extend_list_list_0->GS
open ForInStep renaming yield->CQ
open PySem.SetTable renaming below->Di,advance->DW,fill->Gp,insertAt->Hm,slot->Jw,fits->Jx,sameMemory->Kn,gaveWay->KM,tooFull->KN
open Ne renaming symm->Dj
open PySem.List renaming filterMap_getElem?_range_length->Dr
open List.Perm renaming refl->E8,append_left->JQ,of_eq->KP,swap->KW
open List.Pairwise renaming nil->EM,filterMap->Fj
open PySem.Data renaming cell->Ge,fields->Ia,seq->KT
open PySem.W.Fast renaming te10156331382660048174->Gs,te11892475500146522536->Gu,te14364793385576792824->Gv,te6613529449190102663->G7,te4187177175401517315->G8,te5923862056798008813->G9,sEq->Hu,sEq_iff->JO
open PySem.AutoListH renaming list___mul___list_int_3->GC
open PySem.Code renaming isFrame->GM,frames->JW
open PySem.pickOrder renaming go->Ho
open PyProof.Rows.IsTup renaming new->HD
open PySem.IsL renaming update->HF
open PySem.CmpOp renaming NotIn->Ii,In->Kk
open PySem.Builtin.Frozenset renaming updateFrom->Iv,newClass->Jb,addrOf->Jy,sizeOf->Jz,slot0->J9
open PySem.PassesOwn renaming never->Iy
open PySem.Str renaming length->IN,empty->KJ
open PySem.Builtin.Dict renaming keyAndDefault->IU
open PySem.Paired renaming length->Jp
open List.cons renaming inj->J2
open PySem.Builtin.Range renaming rangeSize->J5
open Prod renaming ext->JX
open Sum.inr renaming inj->Kh
open PySem.SeqAt.EqAt renaming int_str->Ko,str_int->Kq
open PySem.W.Looks renaming here->Ks
open PySem.Heap.IsSliceOf renaming new->Kt
open PySem.W.WShape renaming has->Ku
open PySem.Walks renaming list->Kv
open PySem.ScopeKind renaming function->K0
open PySem.Within renaming cons->K4
open PySem.Heap.Ns1 renaming of_empty->K5
open List.Sublist renaming refl->KH,map->KO
open PySem.DictEntry renaming refKey->KI
open PySem.W.WData renaming int->KL
def Av:=@decide_eq_true
def Aw:=@decide_eq_false
def AJ:=@decide_eq_true_eq
def Kc:=@decide_true
def Kj:=@or_false
theorem nf{p:Prop}(h:false=true):p:=absurd h D5
noncomputable def gS:=@List.getElem?_cons_succ.{0}
noncomputable def gZ:=@List.getElem?_cons_zero.{0}
noncomputable def lS:=@List.set_cons_succ.{0}
noncomputable def lZ:=@List.set_cons_zero.{0}
noncomputable def bF:=@Bool.false_eq_true
noncomputable def lC:=@List.length_cons.{0}
noncomputable def lN:=@List.length_nil.{0}
noncomputable def lA:=@List.length_append.{0}
noncomputable def mC:=@List.map_cons.{0,0}
noncomputable def mN:=@List.map_nil.{0,0}
noncomputable def lM:=@List.length_map.{0,0}
noncomputable def mG:=@List.mem_of_getElem?.{0}
noncomputable def bN:=@Bool.false_ne_true
noncomputable def bA:=@Bool.and_eq_true
noncomputable section
set_option maxRecDepth 100000
namespace L2
open PySem PySem.Spec PyProof.Rows
abbrev Key:=Sum Int Str
noncomputable def wW:Key->Value->Bool
 | .inl k,v=>HZ k v|.inr x,v=>Jo x v
noncomputable def aPt(w:AL):Key->Int
 | .inl k=>K1 k|.inr x=>K2 w x
theorem keyIs_shape:∀{k:Key} {v:Value},wW k v=true->(∃i t,k=GD i/\v=Gc i t)\/(∃x t,k=BZ x/\v=Hw x t)
 | .inl i,v,h=>by obtain⟨t,e⟩:=Value.isInt_shape (k:=i) (v:=v) h;exact .inl ⟨i,t,rfl,e⟩|.inr x,v,h=>by obtain⟨t,e⟩:=Value.isStrOf_shape (x:=x) (v:=v) h;exact .inr ⟨x,t,rfl,e⟩
theorem aCM(x:Str)(t:Tok):wW (.inr x) (.str x t)=true:=by simp[wW,Jo]
theorem aJs(a b:Int):decide ((GD a:Key)=GD b)=(a==b):=by grind
theorem aJt(a b:Str):decide ((BZ a:Key)=BZ b)=decide (a=b):=by grind
theorem aJu(a:Int)(b:Str):decide ((GD a:Key)=BZ b)=false:=Aw (λq=>nomatch q)
theorem aJv(a:Str)(b:Int):decide ((BZ a:Key)=GD b)=false:=Aw (λq=>nomatch q)
noncomputable def gJ(prog:A2)(w:AL):PySem.KeyKind prog w Key where
 is:=wW
 hash:=aPt w
 inj:=λv a b ha hb=>by
  rcases keyIs_shape ha with⟨i,t,rfl,rfl⟩|⟨x,t,rfl,rfl⟩
  rcases keyIs_shape hb with⟨j,u,rfl,e⟩|⟨y,u,rfl,e⟩
  injection e with e1 _;rw[e1]
  exact nomatch e;rcases keyIs_shape hb with⟨j,u,rfl,e⟩|⟨y,u,rfl,e⟩
  exact nomatch e;injection e with e1 _;rw[e1]
 byValue:=λk v h=>by rcases keyIs_shape h with⟨i,t,rfl,rfl⟩|⟨x,t,rfl,rfl⟩ <;> rfl
 pyHash:=λhv h=>by
  rcases keyIs_shape hv with⟨i,t,rfl,rfl⟩|⟨x,t,rfl,rfl⟩
  exact wpAny_pyHash_int h;exact wpAny_pyHash_str h
 eqBool:=λhu hv h=>by
  rcases keyIs_shape hu with⟨i,t,rfl,rfl⟩|⟨x,t,rfl,rfl⟩
  rcases keyIs_shape hv with⟨j,u,rfl,rfl⟩|⟨y,u,rfl,rfl⟩
  rw[aJs] at h;exact Hx h;rw[aJu] at h;exact Ko i t y u _ _ _ _ h;rcases keyIs_shape hv with⟨j,u,rfl,rfl⟩|⟨y,u,rfl,rfl⟩
  rw[aJv] at h;exact Kq x t j u _ _ _ _ h;rw[aJt] at h;exact wpAny_eqBool_str h
 «strs»:=λk x t v h=>by
  rcases keyIs_shape h with⟨i,u,rfl,e⟩|⟨y,u,rfl,e⟩
  exact nomatch e;injection e with e1 _
  subst e1;cases v <;> rfl
set_option genInjectivity true in
inductive V where
 | non|bl (b:Bool)|int (i:Int)|str (x:Str)|byt (b:Array UInt8)|flt (b:UInt64)|ref (a:Addr)|ty (n:String)
 deriving DecidableEq
noncomputable def bB:V->Value->Prop
 | .non,u=>u=Ca|.bl b,u=>u=D6 b|.int i,u=>∃t,u=Gc i t|.str x,u=>∃t,u=Hw x t|.byt b,u=>∃t,u=JR b t|.flt b,u=>∃t,u=JS b t|.ref a,u=>u=AG a|.ty n,u=>u=Fo n
abbrev aX:List V->List Value->Prop:=Fp bB
theorem aX.length{xs:List V}{us:List Value}(r:aX xs us):xs.length=us.length:=Jp r
theorem aX.get:∀{xs:List V} {us:List Value} {i:Nat} {x:V},aX xs us->xs[i]? = some x->∃u,us[i]? = some u/\bB x u
 | _,_,_,_,.nil,e=>by simp at e|_,_,0,_,.cons r _,e=>by simp at e;subst e;exact⟨_,rfl,r⟩|_,_,i+1,x,.cons _ t,e=>by obtain⟨u,B,G⟩:=aX.get (i:=i) (x:=x) t (by simpa using e);exact⟨u,by simpa using B,G⟩
theorem aX.set{x:V}{u:Value}(r:bB x u):∀{xs:List V} {us:List Value} (i:Nat),aX xs us->aX (xs.set i x) (us.set i u)
 | _,_,_,.nil=>.nil|_,_,0,.cons _ t=>.cons r t|_,_,i+1,.cons q t=>.cons q (aX.set r i t)
theorem aX.append:∀{xs B:List V} {us ws:List Value},aX xs us->aX B ws->aX (xs++B) (us++ws)
 | _,_,_,_,.nil,s=>s|_,_,_,_,.cons r t,s=>.cons r (aX.append t s)
theorem aX.take:∀{xs:List V} {us:List Value} (n:Nat),aX xs us->aX (xs.take n) (us.take n)
 | _,_,0,_=>.nil|_,_,_+1,.nil=>.nil|_,_,n+1,.cons r t=>.cons r (aX.take n t)
theorem aX.drop:∀{xs:List V} {us:List Value} (n:Nat),aX xs us->aX (xs.drop n) (us.drop n)
 | _,_,0,r=>r|_,_,_+1,.nil=>.nil|_,_,n+1,.cons _ t=>aX.drop n t
noncomputable def rV:Option V->Option Value->Prop
 | some v,some u=>bB v u|none,none=>True|_,_=>False
noncomputable def KV{κ:Type}:List (κ×V)->List (κ×Value)->Prop:=Fp λ(p:κ×V) (q:κ×Value)=>p.1=q.1/\bB p.2 q.2
noncomputable def kV:Key->V
 | .inl i=>.int i|.inr x=>.str x
set_option genInjectivity true in
inductive HO where
 | lst (xs:List V)
 | tup (xs:List V)
 | dK (kvs:List (Key×V))|dT (kvs:List (List Key×V))
 | set (S:Int->Bool) (n:Nat)
 | ins (C dx:Addr) (fs:List (Str×V))
 | own (x:Addr)
 | xd (fs:List (Str×V))
 | met (f x:Addr)
 | rng (lo hi:Int)
 | frz (o:Obj) (u:HO)
 | tbl (ps:Array Value)
 | ext (φ:Heap->Prop)
abbrev Hp:=Addr->Option HO
noncomputable def upd(H:Hp)(a:Addr)(o:HO):Hp:=λb=>if b=a then some o else H b
theorem aP{H:Hp}{a:Addr}{o:HO}:upd H a o a=some o:=by unfold upd;rw[if_pos rfl]
theorem aJ{H:Hp}{a b:Addr}{o:HO}(h:b≠a):upd H a o b=H b:=by unfold upd;rw[if_neg h]
theorem aU{H:Hp}{a b:Addr}{o:HO}(h:H a=some o)(h':H b=none):a≠b:=by grind
section
variable (P:A2) (w:AL)
noncomputable def eJ(H:Hp)(h:Heap)(a:Addr):HO->Prop
 | .lst xs=>xs.length<=sizeLine/\∃(its:List Value) (n:Nat),aX xs its/\h.get? a=some { cls:=.type "list",data:=.seq its.toArray n }|.tup xs=>xs.length<=sizeLine/\∃its:List Value,aX xs its/\IsTup h a its.toArray|.dK kvs=>kvs.length<=sizeLine/\(a==Cb)=false/\∃vs,KV kvs vs/\h.DictOf (gJ P w) a vs|.dT kvs=>kvs.length<=sizeLine/\(a==Cb)=false/\∃xs:List (List Key×Addr×Value),
  Fp (λ(p:List Key×V) (q:List Key×Addr×Value)=>p.1=q.1/\H q.2.1=some (.tup (p.1.map kV))/\bB p.2 q.2.2) kvs xs /\
  ∃o es ep,h.get? a=some o/\o.ExactDict/\o.data=.dict es ep/\es.toList=xs.map (entryOfKey (Hy (gJ P w)))/\(xs.map (·.1)).Nodup
 | .set S n=>h.SetOf (DY P w) a S n|.ins C dx fs=>H dx=some (.own a)/\fs.length<=1000/\dx≠a/\h.get? a=some (Cc C dx) /\
  ∃mA,h.Ns1 dx mA/\(∀f,rV (fs.lookup f) (mA f))/\GF mA (fs.map (·.1))
 | .own _=>∃o,h.get? a=some o|.xd fs=>∃mA,h.Ns1 a mA/\∀f,rV (fs.lookup f) (mA f)|.rng lo hi=>∃t u v,h.get? a=some { cls:=.type "range",data:=.fields #[.int lo t,.int hi u,.int 1 v] }|.frz o u=>h.get? a=some o/\eJ H h a u|.tbl ps=>h.get? a=some { cls:=.none,data:=.fields ps }|.met f x=>h.get? a=some (EH (.ref f) (.ref x))|.ext φ=>φ h/\(∃o,h.get? a=some o)/\∀h1 h2:Heap,φ h1->(∀o,h1.get? a=some o->h2.get? a=some o)->φ h2
noncomputable def HOk(H:Hp)(h:Heap):Prop:=∀a o,H a=some o->eJ P w H h a o
end
section
variable {P:A2} {w:AL} {H H':Hp} {h h':Heap} {a:Addr} {o:HO}
theorem eJ.lt(x:eJ P w H h a o):a<h.objs.size:=by
 cases o with
 | lst xs=>obtain⟨_,_,_,_,e⟩:=x;exact Aq e|tup xs=>obtain⟨_,_,_,p⟩:=x;exact p.lt|dK kvs=>obtain⟨_,_,_,_,o,_,_,e,_⟩:=x;exact Aq e|dT kvs=>obtain⟨_,_,_,_,o,_,_,e,_⟩:=x;exact Aq e|set S n=>obtain⟨o,_,_,_,e,_⟩:=x;exact Aq e|ins C dx fs=>obtain⟨_,_,_,e,_⟩:=x;exact Aq e|own y=>obtain⟨_,e⟩:=x;exact Aq e|xd fs=>obtain⟨_,⟨_,_,_,e,_⟩,_⟩:=x;exact Aq e|rng lo hi=>obtain⟨_,_,_,e⟩:=x;exact Aq e|frz B u=>obtain⟨e,_⟩:=x;exact Aq e|tbl ps=>exact Aq (show h.get? a=some _ from x)|met f y=>exact Aq (show h.get? a=some _ from x)|ext φ=>obtain⟨_,⟨_,e⟩,_⟩:=x;exact Aq e
theorem Paired.mapP{α I:Type}{F G:α->I->Prop}:∀{B:List α} {l₂:List I},Fp F B l₂->(∀a b,F a b->G a b)->Fp G B l₂
 | _,_,.nil,_=>.nil|_,_,.cons r t,f=>.cons (f _ _ r) (Paired.mapP t f)
theorem eJ.stay(x:eJ P w H h a o)(k:∀b u,(b=a\/H b=some (.own a))->h.get? b=some u->h'.get? b=some u)
 (L:∀b,H b=some (.own a)->H' b=some (.own a)) (ht:∀b xs,H b=some (.tup xs)->H' b=some (.tup xs)):eJ P w H' h' a o:=by
 induction o with
 | lst xs=>obtain⟨z,G,n,r,e⟩:=x;exact⟨z,G,n,r,k _ _ (.inl rfl) e⟩|tup xs=>obtain⟨z,G,r,B,e,c⟩:=x;exact⟨z,G,r,B,k _ _ (.inl rfl) e,c⟩|dK kvs=>obtain⟨z,y,vs,r,B,es,ep,e,c⟩:=x;exact⟨z,y,vs,r,B,es,ep,k _ _ (.inl rfl) e,c⟩|dT kvs=>obtain⟨z,y,xs,r,B,es,ep,e,c⟩:=x;exact⟨z,y,xs,Paired.mapP r λp q z=>⟨z.1,ht _ _ z.2.1,z.2.2⟩,B,es,ep,k _ _ (.inl rfl) e,c⟩|set S n=>obtain⟨B,es,ep,t,e,c⟩:=x;exact⟨B,es,ep,t,k _ _ (.inl rfl) e,c⟩|ins C dx fs=>obtain⟨d,z,ne,e,mA,⟨od,es,ep,I,c⟩,r⟩:=x;exact⟨L _ d,z,ne,k _ _ (.inl rfl) e,mA,⟨od,es,ep,k _ _ (.inr d) I,c⟩,r⟩|own y=>obtain⟨B,e⟩:=x;exact⟨B,k _ _ (.inl rfl) e⟩|xd fs=>obtain⟨mA,⟨od,es,ep,e,c⟩,r⟩:=x;exact⟨mA,⟨od,es,ep,k _ _ (.inl rfl) e,c⟩,r⟩|rng lo hi=>obtain⟨t,u,v,e⟩:=x;exact⟨t,u,v,k _ _ (.inl rfl) e⟩|frz B u M=>obtain⟨e,q⟩:=x;exact⟨k _ _ (.inl rfl) e,M q⟩|tbl ps=>have e:h.get? a=some { cls:=.none,data:=.fields ps }:=x;show h'.get? a=some { cls:=.none,data:=.fields ps };exact k a _ (.inl rfl) e|met f y=>have e:h.get? a=some (EH (.ref f) (.ref y)):=x;show h'.get? a=some (EH (.ref f) (.ref y));exact k a _ (.inl rfl) e|ext φ=>obtain⟨p,⟨o,e⟩,st⟩:=x;exact⟨st _ _ p λo q=>k _ _ (.inl rfl) q,⟨o,k _ _ (.inl rfl) e⟩,st⟩
theorem HOk.lt(x:HOk P w H h)(e:H a=some o):a<h.objs.size:=(x a o e).lt
theorem HOk.fresh(x:HOk P w H h)(e:h.objs.size<=a):H a=none:=by
 cases q:H a with
 | none=>rfl|some u=>exact absurd (AC (x.lt q) e) (AX _)
theorem HOk.kept(x:HOk P w H h)(k:∀b u,h.get? b=some u->h'.get? b=some u):HOk P w H h':=λa o e=>(x a o e).stay (λb u _ q=>k b u q) (λ_ q=>q) λ_ _ q=>q
theorem HOk.laid(x:HOk P w H h)(k:∀b u,h.get? b=some u->h'.get? b=some u)(I:h.objs.size<=a)(new:eJ P w (upd H a o) h' a o):HOk P w (upd H a o) h':=λb u e=>by have G:=x.fresh I;by_cases B:b=a;subst B;rw[aP] at e;cases e;exact new;rw[aJ B] at e;exact(x b u e).stay (λc v _ q=>k c v q) (λc q=>by rw[aJ (aU q G)];exact q) λc xs q=>by rw[aJ (aU q G)];exact q
end
noncomputable def Rd(H:Hp)(a:Addr)(u:HO):Prop:=H a=some u\/∃o,H a=some (.frz o u)
theorem Rd.ok{P:A2}{w:AL}{H:Hp}{h:Heap}{a:Addr}{u:HO}(r:Rd H a u)(x:HOk P w H h):eJ P w H h a u:=by
 rcases r with r|⟨o,r⟩
 exact x a u r;obtain⟨_,q⟩:=x a _ r;exact q
noncomputable def Mut:Option HO->Prop
 | some (.lst _)=>True|some (.dK _)=>True|some (.dT _)=>True|some (.set _ _)=>True|some (.ins _ _ _)=>True|some (.ext _)=>True|_=>False
section
variable {P:A2} {w:AL} {H:Hp} {h h':Heap} {x e:Addr} {o':HO}
theorem HOk.write(ok:HOk P w H h)(I:Mut (H x))(he:e=x\/H e=some (.own x))(k:∀b u,b≠e->h.get? b=some u->h'.get? b=some u)(M:∃u,h'.get? e=some u)
 (new:eJ P w (upd H x o') h' x o'):HOk P w (upd H x o') h':=λb u q=>by
 have B:∀c y,H c=some (.own y)->c≠x:=λc y r z=>by subst z;rw[r] at I;exact I
 have G:∀c xs,H c=some (.tup xs)->c≠x:=λc xs r z=>by subst z;rw[r] at I;exact I
 by_cases U:b=x;subst U;rw[aP] at q;cases q;exact new;rw[aJ U] at q;by_cases L:b=e;have Z:H b=some (.own x):=by grind
 rw[q] at Z;cases Z;obtain⟨v,hv⟩:=M;exact⟨v,by rw[L];exact hv⟩;refine(ok b u q).stay (λc v hc r=>k c v ?_ r) (λc r=>by rw[aJ (B c b r)];exact r) λc xs r=>by rw[aJ (G c xs r)];exact r
 grind
end
structure Un (fs ex:List Addr) (H H':Hp) (h h':Heap):Prop where
 keep:∀b o,h.get? b=some o->H b=none->b∉fs->b∉ex->h'.get? b=some o
 slot:∀b o,h.get? b=some o->H b=none->b∈fs->b∉ex->∃sl,h'.get? b=some { o with slots:=sl }
 free:∀b o,h.get? b=some o->H b=none->b∉ex->H' b=none
 there:∀b o,h.get? b=some o->b∉ex->∃o',h'.get? b=some o'
 tups:∀b xs,H b=some (.tup xs)->H' b=some (.tup xs)
 frzs:∀b o u,H b=some (.frz o u)->H' b=some (.frz o u)
 tbls:∀b ps,H b=some (.tbl ps)->∃more,H' b=some (.tbl (ps++more))
section
variable {fs fs' ex ex':List Addr} {H H1 H2:Hp} {h h1 h2 h':Heap} {a x e:Addr} {o:HO}
theorem Un.any(u:Un fs ex H H1 h h1){b:Addr}{B:Obj}(q:h.get? b=some B)(n:H b=none)(I:b∉ex):∃sl,h1.get? b=some { B with slots:=sl }:=by by_cases G:b∈fs;exact u.slot b B q n G I;exact⟨B.slots,u.keep b B q n G I⟩
theorem Un.kept(k:∀b u,h.get? b=some u->h'.get? b=some u):Un fs ex H H h h':=
 ⟨λb B q _ _ _=>k b B q,λb B q _ _ _=>⟨B.slots,k b B q⟩,λ_ _ _ n _=>n,λb B q _=>⟨B,k b B q⟩,λ_ _ q=>q,λ_ _ _ q=>q,λ_ ps q=>⟨#[],by rw[q];simp⟩⟩
theorem Un.refl:Un fs ex H H h h:=Un.kept λ_ _ q=>q
theorem Un.laid(k:∀b u,h.get? b=some u->h'.get? b=some u)(G:h.objs.size<=a)(B:H a=none):Un fs ex H (upd H a o) h h' where
 keep:=λb u q _ _ _=>k b u q
 slot:=λb u q _ _ _=>⟨u.slots,k b u q⟩
 free:=λb u q n _=>by rw[aJ (A4 (AC (Aq q) G))];exact n
 there:=λb u q _=>⟨u,k b u q⟩
 tups:=λb xs q=>by rw[aJ (aU q B)];exact q
 frzs:=λb u xs q=>by rw[aJ (aU q B)];exact q
 tbls:=λb ps q=>⟨#[],by rw[aJ (aU q B),q];simp⟩
theorem Un.write(B:Mut (H x))(Z:e=x\/H e=some (.own x))(k:∀b u,b≠e->h.get? b=some u->h'.get? b=some u)(L:∃u,h'.get? e=some u):Un fs ex H (upd H x o) h h':=by
 have M:∀b,H b=none->b≠x:=λb n z=>by subst z;rw[n] at B;exact B
 have I:∀b,H b=none->b≠e:=λb n z=>by grind
 have G:∀b u,H b=some u->¬ Mut (some u)->b≠x:=λb u q U z=>by subst z;rw[q] at B;exact U B
 refine⟨λb u q n _ _=>k b u (I b n) q,λb u q n _ _=>⟨u.slots,k b u (I b n) q⟩,λb u q n _=>by rw[aJ (M b n)];exact n,λb u q _=>?_,
  λb xs q=>by rw[aJ (G b _ q λz=>z)];exact q,λb u xs q=>by rw[aJ (G b _ q λz=>z)];exact q,λb ps q=>⟨#[],by rw[aJ (G b _ q λz=>z),q];simp⟩⟩
 grind
end
noncomputable def trk(h:Heap)(H:Hp):List Addr:=(Au h.objs.size).filter λa=>(H a).isSome
noncomputable def uK(h:Heap)(H:Hp):Heap:=PySem.W.hideAll h (trk h H)
theorem aCN(h:Heap)(H:Hp):(uK h H).objs.size=h.objs.size:=PySem.W.hideAll_size _ _
theorem aDW{h:Heap}{H:Hp}{b:Addr}{o:Obj}(e:h.get? b=some o)(n:H b=none):(uK h H).get? b=some o:=
 PySem.W.hideAll_get _ e λB=>by have q:(H b).isSome=true:=(Ef.mp B).2;rw[n] at q;simp at q
theorem aGR{h:Heap}{H:Hp}{b:Addr}{o:Obj}(e:(uK h H).get? b=some o):h.get? b=some o/\H b=none:=by
 have B:h.get? b=some o:=PySem.W.of_hideAll (trk h H) e;refine⟨B,?_⟩;cases q:H b with
 | none=>rfl|some x=>have G:b∈trk h H:=Ef.mpr ⟨AV.mpr (Aq B),by simp[q]⟩;have z:(uK h H).get? b=none:=PySem.W.hideAll_none (trk h H) G;rw[z] at e;cases e
noncomputable def aGS(g h:Heap)(L:Addr):List (Addr×Obj):=(Au h.objs.size).filterMap λa=>if a=L\/(g.get? a).isSome=true then none else (h.get? a).map λo=>(a,o)
noncomputable def rest(g h:Heap)(L d:Addr):List (Addr×Obj):=(aGS g h L).filter λp=>decide (p.1≠d)
structure Mod (K:Ap) (mg:Str->Option Value) (base:Heap):Prop where
 kin:K.In base
 glob:base.Ns AI mg
 blt:∃mb,base.Ns Fq mb/\∀x:Str,x ≠ "__name__" -> mb x=BC x
 nolimit:base.NoLimit
set_option genInjectivity true in
structure Cx where
 prog:A2
 w:AL
 K:Ap
 mg:Str->Option Value
 base:Heap
 A:AT
 N:List Str
 s₀:Ad
 H₀:Hp
 env:JA
 outer:List JA
 stack:List JA
 ex:List Addr
 fn:Str->Bool
 calm:Bool
 pn:List (Addr×Obj)
 xe:Value->Ad->Prop
noncomputable def frs(l:List JA):List Addr:=l.filterMap (·.frame)
abbrev Cx.fs(X:Cx):List Addr:=frs X.outer
noncomputable def Vis(sc:De)(x:Str):Prop:=sc.names.lookup x=some .local\/sc.names.lookup x=some .cell\/sc.names.lookup x=some .free
noncomputable def Loc(sc:De)(x:Str):Prop:=sc.names.lookup x=some .local\/sc.names.lookup x=some .cell
noncomputable def aPu(env:JA)(h:Heap)(m:Str->Option Value)(x:Str)(u:Value):Prop:=
 (env.kindOf x=some .local/\m x=some u)\/((env.kindOf x=some .cell\/env.kindOf x=some .free)/\∃c,env.cells.lookup x=some c/\h.IsCell c (some u))
structure Cx.Ok (X:Cx):Prop where
 mod:Mod X.K X.mg X.base
 kind:X.env.scope.kind=.function
 glob:X.env.globals=AI
 blt:X.env.builtins=Fq
 above:X.s₀.heap.objs.size<=X.env.locals
 inj:∀x y c,X.env.cells.lookup x=some c->X.env.cells.lookup y=some c->x=y
 has:∀x,(X.env.kindOf x=some .cell\/X.env.kindOf x=some .free)->∃c,X.env.cells.lookup x=some c
 cab:∀x c,X.fn x=true->X.env.cells.lookup x=some c->X.s₀.heap.objs.size<=c
 hd:X.calm=true->X.A.handled=none
 frames:X.A.frames=some X.stack
 stk:X.stack=X.outer\/(X.stack=X.env::X.outer/\X.env.frame=some X.env.locals)
 exf:∀b∈X.ex,b≠X.env.locals/\∀x c,X.env.cells.lookup x=some c->c≠b
 bs:∀b o,X.base.get? b=some o->X.s₀.heap.get? b=some o/\X.H₀ b=none
 bsz:X.base.objs.size<=X.s₀.heap.objs.size
 noex:∀b o,X.base.get? b=some o->b∉X.ex
 exfs:∀b∈X.ex,b∉X.fs
 funs:X.s₀.heap.FunFrames X.base X.outer
 frf:∀b∈X.fs,X.H₀ b=none
structure Inv (X:Cx) (pins:List (Addr×Obj)) (σ:List (Option V)) (H:Hp) (s:Ad):Prop where
 ok:X.Ok
 os:s.os=X.s₀.os
 bare:EI s.gens
 base:Un X.fs X.ex X.H₀ H X.s₀.heap s.heap
 loc:∃m,s.heap.Ns X.env.locals m/\∀(i:Nat) (x:Str) (v:V),X.N[i]? = some x->σ[i]? = some (some v)->Vis X.env.scope x->∃u,bB v u/\aPu X.env s.heap m x u
 cell:∀x c,X.env.cells.lookup x=some c->∃v,s.heap.IsCell c v
 free:H X.env.locals=none
 freeC:∀x c,X.env.cells.lookup x=some c->H c=none
 pin:∀p∈X.pn++pins,s.heap.get? p.1=some p.2/\H p.1=none/\p.1≠X.env.locals/\p.1∉X.fs/\∀v,p.2.data≠.cell v
 hok:HOk X.prog X.w H s.heap
 len:σ.length=X.N.length
section
variable {X:Cx} {pins:List (Addr×Obj)} {σ:List (Option V)} {H H':Hp} {s:Ad} {h':Heap}
theorem Cx.Ok.nofr(ok:X.Ok){b:Addr}{o:Obj}(e:X.base.get? b=some o):b∉X.fs:=λB=>by have:=(ok.funs.mem B).1;rw[e] at this;cases this
theorem Inv.bs(I:Inv X pins σ H s):∀b o,X.base.get? b=some o->s.heap.get? b=some o/\H b=none:=λb o e=>⟨I.base.keep b o (I.ok.bs b o e).1 (I.ok.bs b o e).2 (I.ok.nofr e) (I.ok.noex b o e),I.base.free b o (I.ok.bs b o e).1 (I.ok.bs b o e).2 (I.ok.noex b o e)⟩
theorem Inv.bk(I:Inv X pins σ H s):∀b o,X.base.get? b=some o->s.heap.get? b=some o:=λb o e=>(I.bs b o e).1
theorem Inv.mod(I:Inv X pins σ H s):Mod X.K X.mg X.base:=I.ok.mod
theorem Inv.kIn(I:Inv X pins σ H s):X.K.In s.heap:=I.ok.mod.kin.keeps I.bk
theorem Inv.lt(I:Inv X pins σ H s):X.env.locals<s.heap.objs.size:=let ⟨_,hn,_⟩:=I.loc;hn.lt
theorem Inv.sz(I:Inv X pins σ H s):X.s₀.heap.objs.size<=s.heap.objs.size:=AW I.ok.above (DE I.lt)
theorem Inv.nofs(I:Inv X pins σ H s){a:Addr}(h:s.heap.objs.size<=a):a∉X.fs:=λB=>by obtain⟨_,o,G,_⟩:=I.ok.funs.mem B;exact absurd (AC (Aq G) (AW I.sz h)) (AX _)
theorem Inv.cne(I:Inv X pins σ H s):∀x c,X.env.cells.lookup x=some c->c≠X.env.locals:=λx c e z=>by obtain⟨v,o,L,hd⟩:=I.cell x c e;obtain⟨m,⟨o',es,ep,B,G,_⟩,_⟩:=I.loc;rw[z,B] at L;grind
theorem Inv.funs(I:Inv X pins σ H s):s.heap.FunFrames X.base X.outer:=by
 have all:∀(l:List JA),(∀b∈frs l,b∈X.fs)->X.s₀.heap.FunFrames X.base l->s.heap.FunFrames X.base l:=by
  intro l
  induction l with
  | nil=>intro _ _;trivial|cons env r ih=>intro hs Z;obtain⟨U,⟨L,o,M,hn,ho,hd⟩,hr⟩:=Z;have B:L∈X.fs:=hs L (by unfold frs;rw[B5,M];exact Am);obtain⟨sl,e⟩:=I.base.slot L o ho (I.ok.frf L B) B λz=>I.ok.exfs L z B;exact⟨U,⟨L,_,M,hn,e,hd⟩,ih (λb G=>hs b (by unfold frs;rw[B5,M];exact Ag _ G)) hr⟩
 exact all X.outer (λ_ G=>G) I.ok.funs
theorem Inv.stack(I:Inv X pins σ H s):s.heap.FunFrames X.base X.stack:=by
 rcases I.ok.stk with e|⟨e,B⟩
 rw[e];exact I.funs;rw[e];obtain⟨m,G,_⟩:=I.loc;refine .cons (by rw[I.ok.kind];decide) B G ?_ I.funs;exact Heap.get?_none_of_le (AW I.ok.bsz I.ok.above)
theorem Inv.stkSub(I:Inv X pins σ H s):∀b∈frs X.stack,b∈X.env.locals::X.fs:=λb B=>by
 rcases I.ok.stk with e|⟨e,G⟩
 rw[e] at B;exact Ag _ B;rw[e] at B;unfold frs at B;rw[B5,G] at B;exact B
theorem Inv.stkFree(I:Inv X pins σ H s):∀b∈frs X.stack,H b=none:=λb B=>by rcases Ax.mp (I.stkSub b B) with e|B;rw[e];exact I.free;obtain⟨_,o,G,_⟩:=I.ok.funs.mem B;exact I.base.free b o G (I.ok.frf b B) λz=>I.ok.exfs b z B
theorem Inv.step{g':Array FK}{t':Nat}{d':Drawn}{ch:List Addr}(I:Inv X pins σ H s)
 (L:∀b∈ch,(b∈X.ex\/X.s₀.heap.objs.size<=b)/\b≠X.env.locals/\(∀x c,X.env.cells.lookup x=some c->c≠b)/\∀p∈X.pn++pins,p.1≠b)
 (keep:∀b o,b≠X.env.locals->b∉X.fs->b∉ch->s.heap.get? b=some o->H b=none->h'.get? b=some o)
 (slot:∀b o,b≠X.env.locals->b∈X.fs->b∉ch->s.heap.get? b=some o->H b=none->∃sl,h'.get? b=some { o with slots:=sl }) (free:∀b o,b∉ch->s.heap.get? b=some o->H b=none->H' b=none)
 (there:∀b o,b∉ch->s.heap.get? b=some o->∃o',h'.get? b=some o')
 (tups:∀b xs,H b=some (.tup xs)->H' b=some (.tup xs)) (frzs:∀b o u,H b=some (.frz o u)->H' b=some (.frz o u)) (tbls:∀b ps,H b=some (.tbl ps)->∃more,H' b=some (.tbl (ps++more)))
 (ns:∀m,s.heap.Ns X.env.locals m->h'.Ns X.env.locals m) (hok:HOk X.prog X.w H' h') (hg:EI g') :
 Inv X pins σ H' { s with heap:=h',gens:=g',drawn:=d',toks:=t' }:=by
 have q0:∀b o,X.s₀.heap.get? b=some o->b≠X.env.locals:=λb o e=>A4 (AC (Aq e) I.ok.above);have U:∀b o,X.s₀.heap.get? b=some o->b∉X.ex->b∉ch:=λb o e B hb=>by rcases(L b hb).1 with z|z;exact B z;exact absurd (AC (Aq e) z) (AX _)
 have G:∀x c,X.env.cells.lookup x=some c->∀v,s.heap.IsCell c v->h'.IsCell c v:=λx c e v ⟨o,ho,hd⟩=>by have M:c∉ch:=λz=>(L c z).2.2.1 x c e rfl;by_cases hc:c∈X.fs;obtain⟨sl,q⟩:=slot c o (I.cne x c e) hc M ho (I.freeC x c e);exact⟨_,q,hd⟩;exact⟨o,keep c o (I.cne x c e) hc M ho (I.freeC x c e),hd⟩
 refine⟨I.ok,I.os,hg,⟨λb o e n hb B=>?_,λb o e n hb B=>?_,λb o e n B=>?_,λb o e B=>?_,λb xs e=>tups b xs (I.base.tups b xs e),λb o xs e=>frzs b o xs (I.base.frzs b o xs e),λb ps e=>?_⟩,?_,λx c e=>?_,?_,λx c e=>?_,λp hp=>?_,hok,I.len⟩;exact keep b o (q0 b o e) hb (U b o e B) (I.base.keep b o e n hb B) (I.base.free b o e n B);obtain⟨sl,Z⟩:=I.base.slot b o e n hb B;obtain⟨q1,e2⟩:=slot b _ (q0 b o e) hb (U b o e B) Z (I.base.free b o e n B);exact⟨q1,e2⟩;obtain⟨o',Z⟩:=I.base.there b o e B;exact free b o' (U b o e B) Z (I.base.free b o e n B);obtain⟨o',Z⟩:=I.base.there b o e B;exact there b o' (U b o e B) Z;obtain⟨m1,Z⟩:=I.base.tbls b ps e;grind;obtain⟨m,hn,hl⟩:=I.loc;refine⟨m,ns m hn,λi x v Z e2 e3=>?_⟩;obtain⟨u,r,l⟩:=hl i x v Z e2 e3;refine⟨u,r,?_⟩;rcases l with l|⟨k,c,e,z⟩
 exact .inl l;exact .inr ⟨k,c,e,G x c e _ z⟩;obtain⟨v,z⟩:=I.cell x c e;exact⟨v,G x c e v z⟩;obtain⟨m,⟨o,_,_,ho,_⟩,_⟩:=I.loc;exact free _ o (λz=>(L _ z).2.1 rfl) ho I.free;obtain⟨v,o,ho,hd⟩:=I.cell x c e;exact free c o (λz=>(L c z).2.2.1 x c e rfl) ho (I.freeC x c e);obtain⟨e,n,ne,nf,d⟩:=I.pin p hp;have M:p.1∉ch:=λz=>(L p.1 z).2.2.2 p hp rfl;exact⟨keep p.1 p.2 ne nf M e n,free p.1 p.2 M e n,ne,nf,d⟩
theorem Inv.un{t':Nat}(I:Inv X pins σ H s)(u:Un X.fs [] H H' s.heap h')(hok:HOk X.prog X.w H' h'):Inv X pins σ H' { s with heap:=h',toks:=t' }:=by
 obtain⟨m,⟨o,es,ep,U,r⟩,_⟩:=id I.loc;obtain⟨sl,Z⟩:=u.any U I.free (by simp);exact I.step (g':=s.gens) (d':=s.drawn) (ch:=[]) (λ_ z=>nomatch z) (λb o _ M _ e n=>u.keep b o e n M (by simp)) (λb o _ M _ e n=>u.slot b o e n M (by simp)) (λb o _ e n=>u.free b o e n (by simp)) (λb o _ e=>u.there b o e (by simp)) u.tups u.frzs u.tbls (λm' hm=>by
  obtain⟨o',L,G,B,r'⟩:=hm;rw[U] at B;cases B;exact⟨_,L,G,Z,r'⟩) hok I.bare
theorem Inv.call{g':Array FK}{t':Nat}{d':Drawn}{ch:List Addr}(I:Inv X pins σ H s)(u:Un (frs X.stack) ch H H' s.heap h')(hok:HOk X.prog X.w H' h')(hg:EI g')
 (G:∀b∈ch,(b∈X.ex\/X.s₀.heap.objs.size<=b)/\b≠X.env.locals/\(∀x c,X.env.cells.lookup x=some c->c≠b)/\∀p∈X.pn++pins,p.1≠b) :
 Inv X pins σ H' { s with heap:=h',gens:=g',drawn:=d',toks:=t' }:=by
 obtain⟨m,⟨o,es,ep,ho,r⟩,_⟩:=id I.loc;obtain⟨sl,Z⟩:=u.any ho I.free λz=>(G _ z).2.1 rfl;exact I.step (ch:=ch) G (λb o Z hb B e n=>u.keep b o e n (λz=>(Ax.mp (I.stkSub b z)).elim Z hb) B) (λb o _ _ B e n=>u.any e n B) (λb o B e n=>u.free b o e n B) (λb o B e=>u.there b o e B) u.tups u.frzs u.tbls (λm' hm=>by
  obtain⟨o',U,M,L,r'⟩:=hm;rw[ho] at L;cases L;exact⟨_,U,M,Z,r'⟩) hok hg
theorem Inv.turned{t':Nat}{it:Addr}(I:Inv X pins σ H s)(k:∀b o,b≠it->s.heap.get? b=some o->h'.get? b=some o)(hn:H it=none)(L:it≠X.env.locals)
 (M:it∈X.ex\/X.s₀.heap.objs.size<=it) (U:∀x c,X.env.cells.lookup x=some c->c≠it) (Z:∀p∈X.pn++pins,p.1≠it):Inv X pins σ H { s with heap:=h',toks:=t' }:=by
 have G:∀b u,H b=some u->b≠it:=λb u e z=>by rw[z,hn] at e;cases e
 refine I.step (g':=s.gens) (d':=s.drawn) (ch:=[it]) (λb hb=>?_) (λb o _ _ B e _=>k b o (λz=>B (by simp[z])) e) (λb o _ _ B e _=>⟨o.slots,k b o (λz=>B (by simp[z])) e⟩) (λ_ _ _ _ n=>n)
  (λb o B e=>⟨o,k b o (λz=>B (by simp[z])) e⟩) (λ_ _ e=>e) (λ_ _ _ e=>e) (λb ps e=>⟨#[],by rw[e];simp⟩) (λm hm=>?_) (λb u e=>?_) I.bare
 have e:b=it:=by simpa using hb
 subst e;exact⟨M,L,U,Z⟩;obtain⟨o,es,ep,ho,r⟩:=hm;exact⟨o,es,ep,k _ o (Dj L) ho,r⟩;refine(I.hok b u e).stay (λc v B q=>k c v ?_ q) (λ_ q=>q) λ_ _ q=>q;rcases B with z|z;rw[z];exact G b u e;exact G c _ z
theorem Inv.tok(I:Inv X pins σ H s)(t:Nat):Inv X pins σ H { s with toks:=t }:=I.un (h':=s.heap) (t':=t) Un.refl I.hok
theorem Inv.kept{t':Nat}(I:Inv X pins σ H s)(k:∀b u,s.heap.get? b=some u->h'.get? b=some u):Inv X pins σ H { s with heap:=h',toks:=t' }:=I.un (Un.kept k) (I.hok.kept k)
theorem Inv.laid{a:Addr}{o:HO}{t':Nat}(I:Inv X pins σ H s)(k:∀b u,s.heap.get? b=some u->h'.get? b=some u)(B:s.heap.objs.size<=a)(new:eJ X.prog X.w (upd H a o) h' a o) :
 Inv X pins σ (upd H a o) { s with heap:=h',toks:=t' }:=I.un (Un.laid k B (I.hok.fresh B)) (I.hok.laid k B new)
theorem Inv.write{x e:Addr}{o:HO}{t':Nat}(I:Inv X pins σ H s)(L:Mut (H x))(G:e=x\/H e=some (.own x))(k:∀b u,b≠e->s.heap.get? b=some u->h'.get? b=some u)(B:∃u,h'.get? e=some u)
 (new:eJ X.prog X.w (upd H x o) h' x o):Inv X pins σ (upd H x o) { s with heap:=h',toks:=t' }:=I.un (Un.write L G k B) (I.hok.write L G k B new)
theorem Inv.pins_of{pins':List (Addr×Obj)}(I:Inv X pins σ H s)(h:∀p∈pins',s.heap.get? p.1=some p.2/\H p.1=none/\p.1≠X.env.locals/\p.1∉X.fs/\∀v,p.2.data≠.cell v):Inv X pins' σ H s:=
 ⟨I.ok,I.os,I.bare,I.base,I.loc,I.cell,I.free,I.freeC,λp B=>(C1.mp B).elim (λz=>I.pin p (Bo _ z)) (h p),I.hok,I.len⟩
theorem wX{N:List Str}(I:N.Nodup){i j:Nat}{x:Str}(a:N[i]? = some x)(b:N[j]? = some x):i=j:=by obtain⟨L,B⟩:=Ai.mp a;obtain⟨M,G⟩:=Ai.mp b;exact(List.getElem_inj I).mp (B.trans G.symm)
theorem sJ{M:KQ}{A:AT}{E:Value->Ad->Prop}{i:Nat}{x:Str}{v:V}{u:Value}{Q:Unit->Ad->Prop}(I:Inv X pins σ H s)(hN:X.N.Nodup)(hi:X.N[i]? = some x)(L:Loc X.env.scope x)(r:bB v u)
 (h:∀s',Inv X pins (σ.set i (some v)) H s'->(∃a,BR a s.heap s'.heap/\(a=X.env.locals\/X.env.cells.lookup x=some a))->Q () s') (hf:X.fn x=true\/X.env.scope.names.lookup x=some .local:=by first|exact .inl rfl|exact .inr rfl|assumption):As M A (storeName X.env x u) Q E s:=by
 obtain⟨m,hn,hl⟩:=id I.loc;have q4:(X.env.scope.kind==.class||(X.env.scope.kind==.module&&X.env.locals != X.env.globals))=false:=by rw[I.ok.kind];rfl
 have q0:i<σ.length:=by rw[I.len];exact(Ai.mp hi).1
 have cne:=I.cne;have G:∀{a:Addr} {h':Heap},(∃o,s.heap.get? a=some o/\H a=none)->BR a s.heap h'->HOk X.prog X.w H h':=λ{a h'} ha hs b ob e=>by obtain⟨_,_,q5⟩:=ha;refine(I.hok b ob e).stay (λc w' U q=>(hs.2 c ?_).trans q) (λ_ q=>q) λ_ _ q=>q;grind
 rcases L with hk|hk;refine wpAny_storeName_local hk hn (λh' q6 hs=>?_) q4;obtain⟨oL,_,_,q7,_⟩:=id hn;refine h _ ⟨I.ok,I.os,I.bare,⟨λb o e n hb L=>?_,λb o e n hb L=>?_,I.base.free,λb o e L=>?_,I.base.tups,I.base.frzs,I.base.tbls⟩,⟨_,q6,λj y v' B Z e3=>?_⟩,λy c e=>?_,I.free,I.freeC,λp hp=>?_,G ⟨oL,q7,I.free⟩ hs,by simpa using I.len⟩ ⟨_,hs,.inl rfl⟩;exact(hs.2 b (A4 (AC (Aq e) I.ok.above))).trans (I.base.keep b o e n hb L);obtain⟨sl,B⟩:=I.base.slot b o e n hb L;exact⟨sl,(hs.2 b (A4 (AC (Aq e) I.ok.above))).trans B⟩;obtain⟨o',B⟩:=I.base.there b o e L;exact⟨o',(hs.2 b (A4 (AC (Aq e) I.ok.above))).trans B⟩;by_cases hj:j=i;subst hj;rw[hi] at B;cases B;rw[Ay q0] at Z;cases Z;exact⟨u,r,.inl ⟨hk,by simp⟩⟩;rw[Af (Dj hj)] at Z;obtain⟨u',r',q⟩:=hl j y v' B Z e3;refine⟨u',r',?_⟩;rcases q with⟨k,e⟩|⟨k,c,e,z⟩
 refine .inl ⟨k,?_⟩;have:y≠x:=λe=>hj (wX hN B (e▸hi));simp[this,e];exact .inr ⟨k,c,e,z.sameBut hs (cne y c e)⟩;obtain⟨w',z⟩:=I.cell y c e;exact⟨w',z.sameBut hs (cne y c e)⟩;obtain⟨e,n,ne,nf,d⟩:=I.pin p hp;exact⟨(hs.2 p.1 ne).trans e,n,ne,nf,d⟩;have q1:X.fn x=true:=by grind
 obtain⟨c,U⟩:=I.ok.has x (.inl hk);obtain⟨w',z⟩:=I.cell x c U;refine wpAny_storeName_cell I.ok.kind hk U z (λh' q2 hs=>?_);obtain⟨oc,q8,q9⟩:=id z;refine h { s with heap:=h' } ⟨I.ok,I.os,I.bare,⟨λb o e n hb L=>?_,λb o e n hb L=>?_,I.base.free,λb o e L=>?_,I.base.tups,I.base.frzs,I.base.tbls⟩,⟨m,hn.sameBut hs (Dj (cne x c U)),λj y v' B Z e3=>?_⟩,λy c' e=>?_,I.free,I.freeC,λp hp=>?_,G ⟨oc,q8,I.freeC x c U⟩ hs,by simpa using I.len⟩ ⟨c,hs,.inr U⟩;exact(hs.2 b (A4 (AC (Aq e) (I.ok.cab x c q1 U)))).trans (I.base.keep b o e n hb L);obtain⟨sl,B⟩:=I.base.slot b o e n hb L;exact⟨sl,(hs.2 b (A4 (AC (Aq e) (I.ok.cab x c q1 U)))).trans B⟩;obtain⟨o',B⟩:=I.base.there b o e L;exact⟨o',(hs.2 b (A4 (AC (Aq e) (I.ok.cab x c q1 U)))).trans B⟩;by_cases hj:j=i;subst hj;rw[hi] at B;cases B;rw[Ay q0] at Z;cases Z;exact⟨u,r,.inr ⟨.inl hk,c,U,q2⟩⟩;rw[Af (Dj hj)] at Z;obtain⟨u',r',q⟩:=hl j y v' B Z e3;refine⟨u',r',?_⟩;rcases q with q|⟨k,c',e,z'⟩
 exact .inl q;refine .inr ⟨k,c',e,z'.sameBut hs ?_⟩;rintro rfl;exact hj (wX hN B (I.ok.inj _ _ _ e U▸hi));by_cases q3:c'=c;subst q3;exact⟨_,q2⟩;obtain⟨w2,z2⟩:=I.cell y c' e;exact⟨w2,z2.sameBut hs q3⟩;obtain⟨e,n,ne,nf,d⟩:=I.pin p hp;refine⟨(hs.2 p.1 ?_).trans e,n,ne,nf,d⟩;grind
theorem wY{M:KQ}{A:AT}{E:Value->Ad->Prop}{i:Nat}{x:Str}{v:V}{u:Value}{Q:Unit->Ad->Prop}(I:Inv X pins σ H s)(L:X.N.Nodup)(hi:X.N[i]? = some x)(Z:Loc X.env.scope x)(r:bB v u)
 (h:∀B,Inv X pins (σ.set i (some v)) H B->Q () B) (U:X.fn x=true\/X.env.scope.names.lookup x=some .local:=by first|exact .inl rfl|exact .inr rfl|assumption):As M A (storeName X.env x u) Q E s:=
 sJ I L hi Z r (λB G _=>h B G) U
theorem Inv.call'{B:Ad}{ch:List Addr}(I:Inv X pins σ H s)(M:B.os=s.os)(u:Un (frs X.stack) ch H H' s.heap B.heap)(hok:HOk X.prog X.w H' B.heap)(L:EI B.gens)
 (G:∀b∈ch,(b∈X.ex\/X.s₀.heap.objs.size<=b)/\b≠X.env.locals/\(∀x c,X.env.cells.lookup x=some c->c≠b)/\∀p∈X.pn++pins,p.1≠b):Inv X pins σ H' B:=by obtain⟨h',g',d',t',o'⟩:=B;have e:o'=s.os:=M;subst e;exact I.call (g':=g') (t':=t') (d':=d') u hok L G
end
abbrev XK:=Value->Option Addr->Hp->Prop
abbrev St:=List (Option V)
abbrev VK:=V->Hp->Prop
abbrev TE:=St->Hp->VK->Prop
abbrev TT:=St->Hp->(Bool->Hp->Prop)->Prop
abbrev TA:=St->Hp->(List V->Hp->Prop)->Prop
structure Ends where
 nx:St->Hp->Prop
 rt:VK
 bk:St->Hp->Prop:=λ_ _=>False
 ct:St->Hp->Prop:=λ_ _=>False
abbrev TS:=Ends->St->Hp->Prop
noncomputable def EP(X:Cx)(pins:List (Addr×Obj))(σ:St)(Q:VK)(u:Value)(s':Ad):Prop:=∃v H',Inv X pins σ H' s'/\bB v u/\Q v H'
noncomputable def TP(X:Cx)(pins:List (Addr×Obj))(σ:St)(Q:Bool->Hp->Prop)(b:Bool)(s':Ad):Prop:=∃H',Inv X pins σ H' s'/\Q b H'
noncomputable def AP(X:Cx)(pins:List (Addr×Obj))(σ:St)(Q:List V->Hp->Prop)(us:List Value)(s':Ad):Prop:=∃vs H',Inv X pins σ H' s'/\aX vs us/\Q vs H'
noncomputable def SP(X:Cx)(pins:List (Addr×Obj))(D:Ends)(f:Flow)(s':Ad):Prop:=
 match f with
 | .next=>∃σ' H',Inv X pins σ' H' s'/\D.nx σ' H'|.brk=>∃σ' H',Inv X pins σ' H' s'/\D.bk σ' H'|.cont=>∃σ' H',Inv X pins σ' H' s'/\D.ct σ' H'|.ret u=>∃v σ' H',Inv X pins σ' H' s'/\bB v u/\D.rt v H'
noncomputable def PE(X:Cx)(e:A6)(t:TE):Prop:=
 ∀(pins:List (Addr×Obj)) (s:Ad) (σ:St) (H:Hp) (Q:VK),Inv X pins σ H s->t σ H Q->As (A5 X.prog X.w) X.A (Ch e X.env) (EP X pins σ Q) X.xe s
noncomputable def PT(X:Cx)(e:A6)(t:TT):Prop:=
 ∀(pins:List (Addr×Obj)) (s:Ad) (σ:St) (H:Hp) (Q:Bool->Hp->Prop),Inv X pins σ H s->t σ H Q->As (A5 X.prog X.w) X.A (isTrue e X.env (Ch e X.env)) (TP X pins σ Q) X.xe s
noncomputable def PW(X:Cx)(e:A6)(t:TT):Prop:=
 ∀(whole:Kr Value) (pins:List (Addr×Obj)) (s:Ad) (σ:St) (H:Hp) (Q:Bool->Hp->Prop),Inv X pins σ H s->t σ H Q->As (A5 X.prog X.w) X.A (isTrue e X.env whole) (TP X pins σ Q) X.xe s
theorem PW.pt{X:Cx}{e:A6}{t:TT}(h:PW X e t):PT X e t:=h _
noncomputable def PA(X:Cx)(es:List A6)(t:TA):Prop:=
 ∀(pos:Du) (pins:List (Addr×Obj)) (s:Ad) (σ:St) (H:Hp) (Q:List V->Hp->Prop),Inv X pins σ H s->t σ H Q->As (A5 X.prog X.w) X.A (IA (Cd pos (AA es X.env))) (AP X pins σ Q) X.xe s
noncomputable def PS(X:Cx)(st:BY)(t:TS):Prop:=
 ∀(pins:List (Addr×Obj)) (s:Ad) (σ:St) (H:Hp) (D:Ends),Inv X pins σ H s->t D σ H->As (A5 X.prog X.w) X.A (exec st X.env) (SP X pins D) X.xe s
noncomputable def PSs(X:Cx)(st:List BY)(t:TS):Prop:=
 ∀(pins:List (Addr×Obj)) (s:Ad) (σ:St) (H:Hp) (D:Ends),Inv X pins σ H s->t D σ H->As (A5 X.prog X.w) X.A (execs st X.env) (SP X pins D) X.xe s
theorem thn{α:Type}{t:Kr α}{Q B:α->Ad->Prop}{M:KQ}{A:AT}{E:Value->Ad->Prop}{s:Ad}(h:As M A t Q E s)(G:∀a s,Q a s->B a s):As M A t B E s:=CJ h G λ_ _ x=>x
section
variable {X:Cx}
noncomputable def aCO(i:Nat):TE:=λσ H Q=>∃v,σ[i]? = some (some v)/\Q v H
noncomputable def tC(v:V):TE:=λ_ H Q=>Q v H
theorem uL{i:Nat}{x:Str}{pos:Du}(Z:X.N[i]? = some x)(hv:Vis X.env.scope x)(hd:(x==("__debug__" : Str))=false:=by decide)(M:(x==("__classdict__" : Str))=false:=by decide):PE X (.Name x pos) (aCO i):=by
 intro pins s σ H Q I h;obtain⟨v,e,h⟩:=h;obtain⟨m,hn,hl⟩:=I.loc;obtain⟨u,r,l⟩:=hl i x v Z e hv;have G:EP X pins σ Q u s:=⟨v,H,I,r,h⟩
 rcases l with⟨L,hm⟩|⟨L,c,U,B⟩
 exact IE (wpAny_loadName_local I.ok.kind L hn hm G) hd;rcases L with L|L;exact IE (wpAny_loadName_cell I.ok.kind L U B G) hd;exact IE (wpAny_loadName_free I.ok.kind L U B G M) hd
theorem aJw{i j pos}:PE X (.Constant (.int i) j pos) (tC (.int i)):=λ_ _ _ H _ I h=>wpAny_Constant_int ⟨.int i,H,I.tok _,⟨_,rfl⟩,h⟩
theorem aMp{b j pos}:PE X (.Constant (.bool b) j pos) (tC (.bl b)):=λ_ _ _ H _ I h=>Constant_bool ⟨.bl b,H,I,rfl,h⟩
theorem aJx{j pos}:PE X (.Constant .none j pos) (tC .non):=λ_ _ _ H _ I h=>Constant_none ⟨.non,H,I,rfl,h⟩
theorem aJy{x j pos}:PE X (.Constant (.str x) j pos) (tC (.str x)):=λ_ _ _ H _ I h=>Calls.Constant_str ⟨.str x,H,I.tok _,⟨_,rfl⟩,h⟩
noncomputable def Gl(X:Cx)(x:Str):Prop:=X.env.kindOf x=some .globalImplicit
theorem oJ{E:Value->Ad->Prop}{pins:List (Addr×Obj)}{s:Ad}{σ:St}{H:Hp}{x:Str}{u:Value}{pos:Du}{Q:Value->Ad->Prop}(I:Inv X pins σ H s)(B:Gl X x)(G:X.mg x=some u)(h:Q u s)
 (hd:(x==("__debug__" : Str))=false:=by decide):As (A5 X.prog X.w) X.A (Ch (.Name x pos) X.env) Q E s:=
 Ez I.ok.kind B (Calls.loadGlobal_global (by rw[I.ok.glob];exact I.mod.glob.keeps I.bk) G h) hd
theorem dY{E:Value->Ad->Prop}{pins:List (Addr×Obj)}{s:Ad}{σ:St}{H:Hp}{x:Str}{u:Value}{pos:Du}{Q:Value->Ad->Prop}(I:Inv X pins σ H s)(L:Gl X x)(M:X.mg x=none)(Z:BC x=some u)(h:Q u s)
 (U:x ≠ "__name__" := by decide) (hd:(x==("__debug__" : Str))=false:=by decide):As (A5 X.prog X.w) X.A (Ch (.Name x pos) X.env) Q E s:=by obtain⟨mb,B,G⟩:=I.mod.blt;exact Ez I.ok.kind L (Calls.loadGlobal_builtin (by rw[I.ok.glob];exact I.mod.glob.keeps I.bk) M (by rw[I.ok.blt];exact B.keeps I.bk) ((G x U).trans Z) h) hd
theorem aGT{x:Str}{v:V}{u:Value}{pos:Du}(B:Gl X x)(G:X.mg x=some u)(r:bB v u)(hd:(x==("__debug__" : Str))=false:=by decide):PE X (.Name x pos) (tC v):=
 λ_ _ _ H _ I h=>oJ I B G ⟨v,H,I,r,h⟩ hd
theorem aGU{x:Str}{v:V}{u:Value}{pos:Du}(B:Gl X x)(G:X.mg x=none)(M:BC x=some u)(r:bB v u)(L:x ≠ "__name__" := by decide)(hd:(x==("__debug__" : Str))=false:=by decide):PE X (.Name x pos) (tC v):=
 λ_ _ _ H _ I h=>dY I B G M ⟨v,H,I,r,h⟩ L hd
variable {a b:A6} {ta tb:TE} {pos:Du}
noncomputable def tB(t:TE):TT:=λσ H Q=>t σ H λx H1=>∃c,x=.bl c/\Q c H1
variable {tA tB':TT} {rest:List A6}
noncomputable def aPv(t u:TT):TT:=λσ H Q=>t σ H λc H1=>if c=true then u σ H1 Q else Q false H1
noncomputable def tOr(t u:TT):TT:=λσ H Q=>t σ H λc H1=>if c=true then Q true H1 else u σ H1 Q
noncomputable def aPw(t:TT):TT:=λσ H Q=>t σ H λc H1=>Q (!c) H1
theorem aGV(B:PT X a tA):PW X (.BoolOp .And [a] pos) tA:=by
 intro G pins s σ H Q I h;refine isTrue_and (thn (B pins s σ H Q I h) λc s1 e=>?_);cases c with
 | true=>exact isTrue_and_nil e|false=>exact e
theorem aJz(B:PT X a tA):PW X (.BoolOp .Or [a] pos) tA:=by
 intro G pins s σ H Q I h;refine isTrue_or (thn (B pins s σ H Q I h) λc s1 e=>?_);cases c with
 | false=>exact isTrue_or_nil e|true=>exact e
theorem aJA(L:PT X a tA)(M:PW X (.BoolOp .And (b::rest) pos) tB'):PW X (.BoolOp .And (a::b::rest) pos) (aPv tA tB'):=by
 intro U pins s σ H Q I h;refine isTrue_and (thn (L pins s σ H _ I h) λc s1 ⟨H1,B,G⟩=>?_);cases c with
 | true=>exact M U pins s1 σ H1 Q B G|false=>exact⟨H1,B,G⟩
theorem aMq(L:PT X a tA)(M:PW X (.BoolOp .Or (b::rest) pos) tB'):PW X (.BoolOp .Or (a::b::rest) pos) (tOr tA tB'):=by
 intro U pins s σ H Q I h;refine isTrue_or (thn (L pins s σ H _ I h) λc s1 ⟨H1,B,G⟩=>?_);cases c with
 | true=>exact⟨H1,B,G⟩|false=>exact M U pins s1 σ H1 Q B G
theorem aJB(B:PT X a tA):PT X (.UnaryOp .Not a pos) (aPw tA):=by intro pins s σ H Q I h;exact isTrue_not (B pins s σ H (λc H1=>Q (!c) H1) I h)
noncomputable def aMr(ta tb:TE):TE:=λσ H Q=>ta σ H λx H1=>∃c,x=.bl c/\if c=true then tb σ H1 Q else Q (.bl false) H1
noncomputable def aPx(ta tb:TE):TE:=λσ H Q=>ta σ H λx H1=>∃c,x=.bl c/\if c=true then Q (.bl true) H1 else tb σ H1 Q
theorem aDX{op}{t:TE}(h:PE X a t):PE X (.BoolOp op [a] pos) t:=λpins s σ H Q I B=>BoolOp_one (h pins s σ H Q I B)
theorem aJC(L:PE X a ta)(M:PE X (.BoolOp .And (b::rest) pos) tb):PE X (.BoolOp .And (a::b::rest) pos) (aMr ta tb):=by
 intro pins s σ H Q I h;refine BoolOp_and (thn (L pins s σ H _ I h) λv s1 ⟨x,H1,G,U,B⟩=>?_);obtain⟨c,rfl,B⟩:=B;cases U;refine BH ?_;cases c with
 | true=>exact M pins s1 σ H1 Q G B|false=>exact⟨.bl false,H1,G,rfl,B⟩
theorem aMs(L:PE X a ta)(M:PE X (.BoolOp .Or (b::rest) pos) tb):PE X (.BoolOp .Or (a::b::rest) pos) (aPx ta tb):=by
 intro pins s σ H Q I h;refine BoolOp_or (thn (L pins s σ H _ I h) λv s1 ⟨x,H1,G,U,B⟩=>?_);obtain⟨c,rfl,B⟩:=B;cases U;refine BH ?_;cases c with
 | false=>exact M pins s1 σ H1 Q G B|true=>exact⟨.bl true,H1,G,rfl,B⟩
noncomputable def tIf(t:TT)(ta tb:TE):TE:=λσ H Q=>t σ H λc H1=>if c=true then ta σ H1 Q else tb σ H1 Q
theorem aDY{c:A6}(U:PT X c tA)(L:PE X a ta)(M:PE X b tb):PE X (.IfExp c a b pos) (tIf tA ta tb):=by
 intro pins s σ H Q I h;refine wpAny_IfExp (thn (U pins s σ H _ I h) λd s1 ⟨H1,B,G⟩=>?_);cases d with
 | true=>exact L pins s1 σ H1 Q B G|false=>exact M pins s1 σ H1 Q B G
end
noncomputable def SqL(K:Ap)(H:Hp)(a:Addr)(xs:List V):Prop:=
 Rd H a (.lst xs) \/
  ∃(o:Obj) (its:Array Value) (n:Nat),K.lookup a=some o/\o.cls=.type "list" /\ o.dict=none/\o.data=.seq its n/\its.size<=sizeLine/\aX xs its.toList
noncomputable def SqT(K:Ap)(H:Hp)(a:Addr)(xs:List V):Prop:=
 Rd H a (.tup xs) \/
  ∃(o:Obj) (its:Array Value) (n:Nat),K.lookup a=some o/\o.cls=.type "tuple" /\ o.data=.seq its n/\its.size<=sizeLine/\aX xs its.toList
noncomputable def aPy:Value->Option V
 | .none=>some .non|.bool b=>some (.bl b)|.int i _=>some (.int i)|.str x _=>some (.str x)|.bytes b _=>some (.byt b)|.float b _=>some (.flt b)|.ref a=>some (.ref a)|.type n=>some (.ty n)|_=>none
theorem bB.abs{x:V}{u:Value}(r:bB x u):aPy u=some x:=by
 cases x with
 | non=>cases r;rfl|bl _=>cases r;rfl|int _=>obtain⟨t,rfl⟩:=r;rfl|str _=>obtain⟨t,rfl⟩:=r;rfl|byt _=>obtain⟨t,rfl⟩:=r;rfl|flt _=>obtain⟨t,rfl⟩:=r;rfl|ref _=>cases r;rfl|ty _=>cases r;rfl
theorem bB.inj{x y:V}{u:Value}(r:bB x u)(q:bB y u):x=y:=Ao (r.abs.symm.trans q.abs)
theorem aX.inj:∀{xs B:List V} {us:List Value},aX xs us->aX B us->xs=B
 | _,_,_,.nil,.nil=>rfl|_,_,_,.cons r t,.cons r' t'=>by rw[r.inj r',aX.inj t t']
section
variable {X:Cx} {pins:List (Addr×Obj)} {σ:St} {H:Hp} {s:Ad} {a:Addr} {xs ys:List V}
theorem SqL.of{K:Ap}(h:H a=some (.lst xs)):SqL K H a xs:=.inl (.inl h)
theorem SqT.of{K:Ap}(h:H a=some (.tup xs)):SqT K H a xs:=.inl (.inl h)
theorem Inv.list(I:Inv X pins σ H s)(h:SqL X.K H a xs):∃B:List Value,aX xs B/\PlainL s.heap a B.toArray/\xs.length<=sizeLine:=by
 rcases h with h|⟨o,B,n,L,G,hd,hs,hz,r⟩
 obtain⟨z,B,n,r,e⟩:=h.ok I.hok;exact⟨B,r,⟨_,n,e,rfl,rfl,rfl⟩,z⟩;refine⟨B.toList,r,⟨o,n,I.kIn a o L,G,hd,by simpa using hs⟩,?_⟩;have e:=r.length;simp only[AH] at e;omega
theorem Inv.tuple(I:Inv X pins σ H s)(h:SqT X.K H a xs):∃B:List Value,aX xs B/\IsTup s.heap a B.toArray/\xs.length<=sizeLine:=by
 rcases h with h|⟨o,B,n,L,G,hs,hz,r⟩
 obtain⟨z,B,r,p⟩:=h.ok I.hok;exact⟨B,r,p,z⟩;refine⟨B.toList,r,⟨o,I.kIn a o L,G,n,by simpa using hs⟩,?_⟩;have e:=r.length;simp only[AH] at e;omega
theorem Inv.list_inj(I:Inv X pins σ H s)(h:SqL X.K H a xs)(h':SqL X.K H a ys):xs=ys:=by
 obtain⟨B,r,⟨o,n,e,_,_,d⟩,_⟩:=I.list h;obtain⟨its',L,⟨o',n',G,_,_,d'⟩,_⟩:=I.list h';rw[e] at G;cases G;rw[d] at d';injection d' with d1 _
 have:B=its':=by grind
 subst this;exact r.inj L
theorem Inv.tuple_inj(I:Inv X pins σ H s)(h:SqT X.K H a xs)(h':SqT X.K H a ys):xs=ys:=by
 obtain⟨B,r,⟨o,e,_,n,d⟩,_⟩:=I.tuple h;obtain⟨its',L,⟨o',G,_,n',d'⟩,_⟩:=I.tuple h';rw[e] at G;cases G;rw[d] at d';injection d' with d1 _
 have:B=its':=by grind
 subst this;exact r.inj L
end
abbrev Cx.wish(X:Cx)(E:Value->Ad->Prop):Cx:={ X with xe:=E }
abbrev Cx.nox(X:Cx):Cx:=X.wish λ_ _=>False
theorem Cx.Ok.wish{X:Cx}(ok:X.Ok)(E:Value->Ad->Prop):(X.wish E).Ok:=
 ⟨ok.mod,ok.kind,ok.glob,ok.blt,ok.above,ok.inj,ok.has,ok.cab,ok.hd,ok.frames,ok.stk,ok.exf,ok.bs,ok.bsz,ok.noex,ok.exfs,ok.funs,ok.frf⟩
theorem Cx.Ok.unwish{X:Cx}{E:Value->Ad->Prop}(ok:(X.wish E).Ok):X.Ok:=
 ⟨ok.mod,ok.kind,ok.glob,ok.blt,ok.above,ok.inj,ok.has,ok.cab,ok.hd,ok.frames,ok.stk,ok.exf,ok.bs,ok.bsz,ok.noex,ok.exfs,ok.funs,ok.frf⟩
section
variable {X:Cx} {pins:List (Addr×Obj)} {σ:St} {H:Hp} {s:Ad} {E:Value->Ad->Prop}
theorem Inv.wish(I:Inv X pins σ H s)(E:Value->Ad->Prop):Inv (X.wish E) pins σ H s:=⟨I.ok.wish E,I.os,I.bare,I.base,I.loc,I.cell,I.free,I.freeC,I.pin,I.hok,I.len⟩
theorem Inv.unwish(I:Inv (X.wish E) pins σ H s):Inv X pins σ H s:=⟨I.ok.unwish,I.os,I.bare,I.base,I.loc,I.cell,I.free,I.freeC,I.pin,I.hok,I.len⟩
theorem SP.unwish{D:Ends}{f:Flow}{B:Ad}(h:SP (X.wish E) pins D f B):SP X pins D f B:=by
 cases f with
 | next=>obtain⟨σ',H',I,q⟩:=h;exact⟨σ',H',I.unwish,q⟩|brk=>obtain⟨σ',H',I,q⟩:=h;exact⟨σ',H',I.unwish,q⟩|cont=>obtain⟨σ',H',I,q⟩:=h;exact⟨σ',H',I.unwish,q⟩|ret u=>obtain⟨v,σ',H',I,r,q⟩:=h;exact⟨v,σ',H',I.unwish,r,q⟩
theorem PSs.nox{st:List BY}{t:TS}(h:PSs X.nox st t):PSs X st t:=λpins s σ H D I B=>CJ (h pins s σ H D (I.wish _) B) (λ_ _ q=>q.unwish) λ_ _ z=>Ce z
end
section
variable {X:Cx} {st:BY} {rest:List BY} {t u:TS} {e:A6} {te:TE} {pos:Du}
noncomputable def aIO:TS:=λD σ H=>D.nx σ H
noncomputable def aPz(t u:TS):TS:=λD σ H=>t { D with nx:=u D } σ H
theorem aBn:PSs X [] aIO:=λ_ _ σ H _ I h=>F9 ⟨σ,H,I,h⟩
theorem lD(G:PS X st t)(L:PSs X rest u):PSs X (st::rest) (aPz t u):=by
 intro pins s σ H D I h;refine Hz (thn (G pins s σ H { D with nx:=u D } I h) λf s1 q=>?_);cases f with
 | next=>obtain⟨σ',H',B,q⟩:=q;exact L pins s1 σ' H' D B q|ret v=>exact q|brk=>exact q|cont=>exact q
theorem aBo(B:PS X st t):PSs X [st] t:=by
 intro pins s σ H D I h;refine Hz (thn (B pins s σ H D I h) λf s1 q=>?_);cases f with
 | next=>exact F9 q|ret v=>exact q|brk=>exact q|cont=>exact q
noncomputable def aJD:TS:=λD σ H=>D.bk σ H
noncomputable def aMt:TS:=λD σ H=>D.ct σ H
theorem aGW:PS X (.Pass pos) aIO:=λ_ _ σ H _ I h=>wpAny_Pass ⟨σ,H,I,h⟩
theorem aDZ:PS X (.Break pos) aJD:=λ_ _ σ H _ I h=>wpAny_Break ⟨σ,H,I,h⟩
theorem wZ:PS X (.Continue pos) aMt:=λ_ _ σ H _ I h=>wpAny_Continue ⟨σ,H,I,h⟩
theorem Inv.quiet{pins:List (Addr×Obj)}{σ:St}{H:Hp}{s:Ad}(I:Inv X pins σ H s):JT X.env=false:=by simp[JT,I.ok.kind]
noncomputable def aMu(te:TE):TS:=λD σ H=>te σ H λ_ H1=>D.nx σ H1
theorem lE(G:PE X e te)(hs:H0 e none pos.line X.env=pure false:=by rfl):PS X (.Expr e pos) (aMu te):=by intro pins s σ H D I h;exact wpAny_Expr_any (thn (G pins s σ H _ I h) λv s1 ⟨x,H1,B,M,L⟩=>⟨σ,H1,B,L⟩) I.quiet hs
noncomputable def aPA(te:TE):TS:=λD σ H=>te σ H D.rt
theorem zV(G:PE X e te):PS X (.Return (some e) pos) (aPA te):=by intro pins s σ H D I h;exact wpAny_Return_some (thn (G pins s σ H _ I h) λv s1 ⟨x,H1,B,M,L⟩=>⟨x,σ,H1,B,M,L⟩)
noncomputable def aMv:TS:=λD _ H=>D.rt .non H
theorem aGX:PS X (.Return none pos) aMv:=λ_ _ σ H _ I h=>wpAny_Return_none ⟨.non,σ,H,I,rfl,h⟩
noncomputable def aPB(c:TT)(t u:TS):TS:=λD σ H=>c σ H λb H1=>if b=true then t D σ H1 else u D σ H1
theorem aMw{c:A6}{a b:List BY}{L:TT}(Z:PT X c L)(M:PSs X a t)(U:PSs X b u):PS X (.If c a b pos) (aPB L t u):=by
 intro pins s σ H D I h;refine wpAny_If (thn (Z pins s σ H _ I h) λd s1 ⟨H1,B,G⟩=>?_);cases d with
 | true=>exact M pins s1 σ H1 D B G|false=>exact U pins s1 σ H1 D B G
noncomputable def aEa:TS:=λ_ _ _=>False
theorem aEb:PS X st aEa:=λ_ _ _ _ _ _ h=>h.elim
theorem aCP{B:List BY}:PSs X B aEa:=λ_ _ _ _ _ _ h=>h.elim
end
abbrev TG:=V->St->Hp->(St->Hp->Prop)->Prop
abbrev TGs:=List V->St->Hp->(St->Hp->Prop)->Prop
noncomputable def PG(X:Cx)(target:A6)(t:TG):Prop:=
 ∀(pins:List (Addr×Obj)) (s:Ad) (σ:St) (H:Hp) (v:V) (u:Value) (Q:St->Hp->Prop),Inv X pins σ H s->bB v u->t v σ H Q ->
  As (A5 X.prog X.w) X.A (IF target X.env u) (λ_ s'=>∃σ' H',Inv X pins σ' H' s'/\Q σ' H') X.xe s
noncomputable def PGs(X:Cx)(ts:List A6)(t:TGs):Prop:=
 ∀(pins:List (Addr×Obj)) (s:Ad) (σ:St) (H:Hp) (vs:List V) (us:List Value) (Q:St->Hp->Prop),Inv X pins σ H s->aX vs us->t vs σ H Q ->
  As (A5 X.prog X.w) X.A (assignInOrder ((CK ts X.env).map (·.2)) us) (λ_ s'=>∃σ' H',Inv X pins σ' H' s'/\Q σ' H') X.xe s
abbrev aJE:=V->V->V->Hp->(Hp->Prop)->Prop
noncomputable def aMx(X:Cx)(t:aJE):Prop:=
 ∀(pins:List (Addr×Obj)) (s:Ad) (σ:St) (H:Hp) (o i v:V) (ov iv u:Value) (Q:Hp->Prop),Inv X pins σ H s->bB o ov->bB i iv->bB v u->t o i v H Q ->
  As (A5 X.prog X.w) X.A (setItem ov iv u) (λ_ s'=>∃H',Inv X pins σ H' s'/\Q H') X.xe s
section
variable {X:Cx} {pos:Du}
noncomputable def xA(i:Nat):TG:=λv σ H Q=>Q (σ.set i (some v)) H
theorem aBp{i:Nat}{x:Str}(G:X.N.Nodup)(hi:X.N[i]? = some x)(M:Loc X.env.scope x)(L:X.fn x=true\/X.env.scope.names.lookup x=some .local:=by first|exact .inl rfl|exact .inr rfl|assumption):PG X (.Name x pos) (xA i):=by intro pins s σ H v u Q I r h;exact GG (wY I G hi M r (λU B=>⟨_,H,B,h⟩) L)
noncomputable def aMy:TGs:=λvs σ H Q=>vs=[]/\Q σ H
noncomputable def aIP(t:TG)(u:TGs):TGs:=λvs σ H Q=>∃v r,vs=v::r/\t v σ H λσ' H'=>u r σ' H' Q
theorem aGY:PGs X [] aMy:=by intro pins s σ H vs us Q I r h;obtain⟨e,h⟩:=h;subst e;cases r;exact assignInOrder_nil ⟨σ,H,I,h⟩
theorem aEc{e:A6}{es:List A6}{t:TG}{u:TGs}(M:PG X e t)(U:PGs X es u)
 (hs:(CK (e::es) X.env).map (·.2)=IF e X.env::(CK es X.env).map (·.2):=by rfl):PGs X (e::es) (aIP t u):=by
 intro pins s σ H vs us Q I r h;obtain⟨v,vr,L,h⟩:=h;subst L;cases r with
 | cons r rr=>rw[hs];refine assignInOrder_cons (thn (M pins s σ H _ _ _ I r h) λ_ s1 ⟨B,H1,G,Z⟩=>?_);exact U pins s1 B H1 _ _ Q G rr Z
noncomputable def aMz(K:Ap)(n:Nat)(t:TGs):TG:=λv σ H Q=>∃a xs,v=.ref a/\SqT K H a xs/\xs.length=n/\t xs σ H Q
theorem aJF{es:List A6}{k:Nat}{t:TGs}{n:Nat}(U:X.calm=true)(h:PGs X es t)
 (hn:(CK es X.env).length=n:=by rfl) (B:(CK es X.env).findIdx? (·.1)=none:=by rfl):PG X (.Tuple es k pos) (aMz X.K n t):=by intro pins s σ H v u Q I r G;obtain⟨a,xs,M,hq,Z,G⟩:=G;subst M;cases r;obtain⟨q0,rv,ht,hz⟩:=I.tuple hq;refine assign_Tuple_tuple (I.ok.hd U) ht (by simp[hn,<-Z,rv.length]) B λh' hx=>?_;have L:Inv X pins σ H { s with heap:=h' }:=I.kept (t':=s.toks) λb o e=>hx b o (A4 (Aq e)) e;exact h pins _ σ H xs _ Q L (by simpa using rv) G
noncomputable def aPC(to ti:TE)(t:aJE):TG:=λv σ H Q=>to σ H λo H1=>ti σ H1 λi H2=>t o i v H2 λH3=>Q σ H3
theorem aEd{o i:A6}{M L:TE}{t:aJE}(ho:PE X o M)(hi:PE X i L)(hs:aMx X t)
 (ha:∀v,IF (.Subscript o i pos) X.env v=(do
  let B<-Ft [v] (Ch o X.env)
  let G<-Ft [v,B] (Ch i X.env)
  GH pos
  Ft [v,B,G] (setItem B G v)
  release [v,B,G] []):=by intro _;rfl):PG X (.Subscript o i pos) (aPC M L t):=by intro pins s σ H v u Q I r h;rw[ha];refine Aa (Br (thn (ho pins s σ H _ I h) λB s1 ⟨x,H1,I1,r1,q1⟩=>?_));refine Aa (Br (thn (hi pins s1 σ H1 _ I1 q1) λG s2 ⟨y,U,I2,r2,q2⟩=>?_));refine Aa (Gm (Aa (Br (thn (hs pins s2 σ U x y v B G u _ I2 r1 r2 r q2) λ_ s3 ⟨Z,I3,q3⟩=>?_))));exact wpAny_release ⟨σ,Z,I3,q3⟩
noncomputable def aJG(te:TE)(g:TG):TS:=λD σ H=>te σ H λx H1=>g x σ H1 D.nx
theorem zW{tg e:A6}{te:TE}{g:TG}(L:PE X e te)(M:PG X tg g)(hs:swapsWithSole [tg] e pos.line X.env=pure false:=by rfl)(U:swappedStores [tg] e X.env=pure none:=by rfl)
 (G:(CK [tg] X.env).map (·.2)=[IF tg X.env]:=by rfl):PS X (.Assign [tg] e pos) (aJG te g):=by intro pins s σ H D I h;refine wpAny_Assign_stores (thn (L pins s σ H _ I h) λv s1 ⟨x,H1,B,r1,Z⟩=>?_) hs U;rw[G];exact thn (M pins s1 σ H1 x v _ B r1 Z) λ_ s2 q=>q
theorem oX{i:Nat}{x:Str}{e:A6}{te:TE}{B:Du}(M:X.N.Nodup)(hi:X.N[i]? = some x)(hx:Loc X.env.scope x)(U:PE X e te)(hs:H0 e (some (.Name x B)) pos.line X.env=pure false:=by rfl)(Z:X.fn x=true\/X.env.scope.names.lookup x=some .local:=by first|exact .inl rfl|exact .inr rfl|assumption) :
 PS X (.Assign [.Name x B] e pos) (aJG te (xA i)):=by intro pins s σ H D I h;refine wpAny_Assign_Name (thn (U pins s σ H _ I h) λv s1 ⟨y,H1,G,r1,q1⟩=>?_) hs;exact wY G M hi hx r1 (λs2 L=>⟨_,H1,L,q1⟩) Z
end
structure It where
 go:Nat->Hp->Prop
 yld:Nat->Hp->V->Hp->Prop
 stop:Nat->Hp->Prop
noncomputable def lG(X:Cx)(pins:List (Addr×Obj))(H:Hp)(b:Addr):Prop:=
 H b=none/\b≠X.env.locals/\b∉X.fs/\(b∈X.ex\/X.s₀.heap.objs.size<=b)/\(∀x c,X.env.cells.lookup x=some c->c≠b)/\∀p∈X.pn++pins,p.1≠b
theorem Inv.fpOk{X:Cx}{pins:List (Addr×Obj)}{σ:St}{H H':Hp}{s:Ad}{b:Addr}(I:Inv X pins σ H s)(B:s.heap.objs.size<=b)(G:H' b=none):lG X pins H' b:=by refine⟨G,BS (AC I.lt B),I.nofs B,.inr (AW I.sz B),λx c e z=>?_,λp L z=>?_⟩;obtain⟨v,q⟩:=I.cell x c e;exact absurd (AC q.lt (by rw[z];exact B)) (AX _);exact absurd (AC (Aq (I.pin p L).1) (by rw[z];exact B)) (AX _)
structure xC (P:A2) (w:AL) (K:Ap) (tg:A6) (J'':It) (fp:List Addr) (it:Addr) (tn:Nat->Heap->Prop):Prop where
 mem:it∈fp
 obj:∀i h,tn i h->∀b∈fp,∃o,h.get? b=some o/\∀v,o.data≠.cell v
 keep:∀i h h',tn i h->(∀b∈fp,∀o,h.get? b=some o->h'.get? b=some o)->tn i h'
 item:∀(X:Cx),X.prog=P->X.w=w->X.K=K->X.calm=true->∀(i:Nat) (pins:List (Addr×Obj)) (s:Ad) (σ:St) (H:Hp) (E:Value->Ad->Prop),Inv X pins σ H s->(∀b∈fp,lG X pins H b)->tn i s.heap->J''.go i H ->
  As (A5 P w) X.A (Dp (.ref it)) (λr s1=>∃u,r=some u /\
   As (A5 P w) X.A (Eg tg (.ref it) u) (λ_ s2=>∃x H',Inv X pins σ H' s2/\bB x u/\J''.yld i H x H'/\tn (i+1) s2.heap/\∀b∈fp,H' b=none) E s1) E s
 done:∀(X:Cx),X.prog=P->X.w=w->X.K=K->X.calm=true->∀(i:Nat) (pins:List (Addr×Obj)) (s:Ad) (σ:St) (H:Hp) (E:Value->Ad->Prop),Inv X pins σ H s->(∀b∈fp,lG X pins H b)->tn i s.heap->J''.stop i H ->
  As (A5 P w) X.A (Dp (.ref it)) (λr s1=>r=none/\Inv X pins σ H s1) E s
 self:∀(A:AT) (i:Nat) (s:Ad) (Q:Value->Ad->Prop) (E:Value->Ad->Prop),tn i s.heap->Q (.ref it) s->As (A5 P w) A (H9 (.ref it)) Q E s
abbrev TI:=St->Hp->(It->Hp->Prop)->Prop
noncomputable def PIE(X:Cx)(pins:List (Addr×Obj))(σ:St)(tg:A6)(R:It->Hp->Prop)(itv:Value)(s2:Ad):Prop:=
 ∃(it:Addr) (fp:List Addr) (tn:Nat->Heap->Prop) (J'':It) (H':Hp),itv=.ref it/\Inv X pins σ H' s2/\xC X.prog X.w X.K tg J'' fp it tn/\tn 0 s2.heap/\(∀b∈fp,lG X pins H' b)/\R J'' H'
noncomputable def PI(X:Cx)(tg iter:A6)(wi:TI):Prop:=
 ∀(pins:List (Addr×Obj)) (s:Ad) (σ:St) (H:Hp) (R:It->Hp->Prop),Inv X pins σ H s->wi σ H R ->
  As (A5 X.prog X.w) X.A (Ch iter X.env) (λv s1=>As (A5 X.prog X.w) X.A (H9 v) (PIE X pins σ tg R) X.xe s1) X.xe s
theorem oY{M:KQ}{A:AT}{E:Value->Ad->Prop}{s:Ad}{tg:A6}{it:Addr}{u:Value}{o:Obj}{n:String}{vs:Array Value}{Q:Unit->Ad->Prop}(L:s.heap.get? it=some o)(G:o.cls=.type n)(hd:o.data=.fields vs)
 (I:["enumerate", "zip", "dict_itemiterator", "dict_reverseitemiterator", "odict_iterator", "itertools.zip_longest", "itertools.pairwise"].contains n=false) (B:Q () s):As M A (Eg tg (.ref it) u) Q E s:=by
 unfold Eg;cases tg <;> first
  | exact Ae B
  | (cases u <;> first
   | exact Ae B
   | (refine Aa (wpAny_load L ?_)
      rw[G,hd];show As M A (if (["enumerate", "zip", "dict_itemiterator", "dict_reverseitemiterator", "odict_iterator", "itertools.zip_longest", "itertools.pairwise"].contains n&&vs[0]?==some (Co _))=true then _ else _) Q E s;rw[if_neg (by intro h;rw[I,FL] at h;cases h)];exact Ae B))
noncomputable def Itl(K:Ap)(a:Addr):It:=
 ⟨λi H=>∃xs x,SqL K H a xs/\xs[i]? = some x,λi H x H'=>H'=H/\∀xs,SqL K H a xs->xs[i]? = some x,λi H=>∃xs,SqL K H a xs/\xs.length<=i⟩
noncomputable def Itt(K:Ap)(a:Addr):It:=
 ⟨λi H=>∃xs x,SqT K H a xs/\xs[i]? = some x,λi H x H'=>H'=H/\∀xs,SqT K H a xs->xs[i]? = some x,λi H=>∃xs,SqT K H a xs/\xs.length<=i⟩
noncomputable def Itr(lo:Int)(n:Nat):It:=⟨λi _=>i<n,λi H x H'=>H'=H/\x=.int (lo+i),λi _=>n<=i⟩
theorem sK{P:A2}{w:AL}{K:Ap}{tg:A6}(a it:Addr):xC P w K tg (Itl K a) [it] it (λi h=>h.IsListIter it a i) where
 mem:=by simp
 obj:=λi h st b B=>by
  have e:b=it:=by simpa using B
  subst e;obtain⟨o,e,c,d⟩:=st;exact⟨o,e,λv z=>by rw[d] at z;cases z⟩
 keep:=λi h h' st k=>st.at λo e=>k it (by simp) o e
 item:=by intro X Z hw U hc i pins s σ H E I L st hg;subst Z hw U;obtain⟨xs,x,M,hx⟩:=hg;obtain⟨q0,rv,p,hz⟩:=I.list M;obtain⟨u,hu,ru⟩:=rv.get hx;obtain⟨f0,f1,f2,f3,f4,f5⟩:=L it (by simp);refine wpAny_pyNext_list_item st p.isList (x:=u) (by simpa using hu) λh' G sb=>?_;have I1:Inv X pins σ H { s with heap:=h' }:=I.turned (t':=s.toks) (λb o B e=>(sb.2 b B).trans e) f0 f1 f3 f4 f5;obtain⟨o,e,c,d⟩:=id G;exact⟨u,rfl,oY (s:={ s with heap:=h' }) e c d (by decide) ⟨x,H,I1,ru,⟨rfl,λys hy=>by rw[I.list_inj hy M];exact hx⟩,G,λb B=>(L b B).1⟩⟩
 done:=by intro X Z hw U hc i pins s σ H E I L st hg;subst Z hw U;obtain⟨xs,M,hx⟩:=hg;obtain⟨q0,rv,p,hz⟩:=I.list M;obtain⟨f0,f1,f2,f3,f4,f5⟩:=L it (by simp);have hl:=rv.length;exact wpAny_pyNext_list_end (I.ok.hd hc) st p.isList (by simp;omega) λh' eb=>⟨rfl,I.turned (t':=s.toks) (λb o B e=>eb b o B e) f0 f1 f3 f4 f5⟩
 self:=λ_ _ _ _ _ st h=>wpAny_pyIter_listiter st h
theorem zX{P:A2}{w:AL}{K:Ap}{tg:A6}(a it:Addr):xC P w K tg (Itt K a) [it] it (λi h=>h.IsTupleIter it a i) where
 mem:=by simp
 obj:=λi h st b B=>by
  have e:b=it:=by simpa using B
  subst e;obtain⟨o,e,c,d⟩:=st;exact⟨o,e,λv z=>by rw[d] at z;cases z⟩
 keep:=λi h h' st k=>st.at λo e=>k it (by simp) o e
 item:=by intro X hP hw Z hc i pins s σ H E I M st hg;subst hP hw Z;obtain⟨xs,x,U,hx⟩:=hg;obtain⟨G,rv,p,hz⟩:=I.tuple U;obtain⟨u,hu,ru⟩:=rv.get hx;obtain⟨f0,f1,f2,f3,f4,f5⟩:=M it (by simp);refine wpAny_pyNext_tuple_item st (show s.heap.IsTuple a G.toArray from p) (x:=u) (by simpa using hu) λh' L sb=>?_;have I1:Inv X pins σ H { s with heap:=h' }:=I.turned (t':=s.toks) (λb o B e=>(sb.2 b B).trans e) f0 f1 f3 f4 f5;obtain⟨o,e,c,d⟩:=id L;exact⟨u,rfl,oY (s:={ s with heap:=h' }) e c d (by decide) ⟨x,H,I1,ru,⟨rfl,λys hy=>by rw[I.tuple_inj hy U];exact hx⟩,L,λb B=>(M b B).1⟩⟩
 done:=by intro X hP hw Z hc i pins s σ H E I M st hg;subst hP hw Z;obtain⟨xs,U,hx⟩:=hg;obtain⟨G,rv,p,hz⟩:=I.tuple U;obtain⟨f0,f1,f2,f3,f4,f5⟩:=M it (by simp);have hl:=rv.length;exact wpAny_pyNext_tuple_end (I.ok.hd hc) st (show s.heap.IsTuple a G.toArray from p) (by simp;omega) λh' eb=>⟨rfl,I.turned (t':=s.toks) (λb o B e=>eb b o B e) f0 f1 f3 f4 f5⟩
 self:=λ_ _ _ _ _ st h=>wpAny_pyIter_tupleiter st h
theorem zY{P:A2}{w:AL}{K:Ap}{tg:A6}(it:Addr)(lo:Int)(n:Nat):xC P w K tg (Itr lo n) [it] it (λi h=>JU h it (lo+(i:Nat)*1) ((n:Int)-(i:Nat)) 1) where
 mem:=by simp
 obj:=λi h st b B=>by
  have e:b=it:=by simpa using B
  subst e;exact⟨_,st,λv z=>by
   have z':Ia _=Ge v:=z;cases z'⟩
 keep:=λi h h' st k=>k it (by simp) _ st
 item:=by intro X U hw M Z i pins s σ H E I L st hg;subst U hw M;obtain⟨f0,f1,f2,f3,f4,f5⟩:=L it (by simp);have W:=Walks.range (prog:=X.prog) (w:=X.w) (I.ok.hd Z) it lo 1 n;refine W.item i s _ _ hg st λv h' tk hv G kk=>?_;obtain⟨t,rfl⟩:=hv;have I1:Inv X pins σ H { s with heap:=h',toks:=tk }:=I.turned (λb o B e=>kk b o (by simpa using B) e) f0 f1 f3 f4 f5;refine⟨_,rfl,oY (s:={ s with heap:=h',toks:=tk }) (n:= "range_iterator") G rfl rfl (by decide) ⟨.int (lo+i),H,I1,⟨t,?_⟩,⟨rfl,rfl⟩,G,λb B=>(L b B).1⟩⟩;rw[Int.mul_one]
 done:=by intro X U hw M Z i pins s σ H E I L st hg;subst U hw M;obtain⟨f0,f1,f2,f3,f4,f5⟩:=L it (by simp);exact wpAny_pyNext_range_end (I.ok.hd Z) st (by have:n<=i:=hg;omega) λh' eb=>⟨rfl,I.turned (t':=s.toks) (λb o B e=>eb b o B e) f0 f1 f3 f4 f5⟩
 self:=λ_ _ _ _ _ st h=>wpAny_pyIter_rangeiter st h
section
variable {X:Cx} {tg:A6}
noncomputable def aMA(K:Ap)(tl:TE):TI:=λσ H R=>tl σ H λx H1=>∃a,x=.ref a/\(∃xs,SqL K H1 a xs)/\R (Itl K a) H1
theorem aGZ{l:A6}{G:TE}(M:PE X l G):PI X tg l (aMA X.K G):=by
 intro pins s σ H R I h;refine thn (M pins s σ H _ I h) λv s1 ⟨x,H1,B,r1,q1⟩=>?_;obtain⟨a,e,⟨xs,U⟩,q⟩:=q1;subst e;cases r1;obtain⟨Z,rv,p,hz⟩:=B.list U;refine CY p.isList ?_;refine⟨s1.heap.objs.size,[s1.heap.objs.size],_,_,H1,rfl,B.kept (t':=s1.toks) λb o e=>Ab _ e,sK a _,⟨_,Al _ rfl,rfl,rfl⟩,λb L=>?_,q⟩;have e:b=s1.heap.objs.size:=by simpa using L
 subst e;exact B.fpOk (An _) (B.hok.fresh (An _))
theorem xD{pins:List (Addr×Obj)}{σ:St}{H:Hp}{s:Ad}{R:It->Hp->Prop}{E:Value->Ad->Prop}{lo hi:Int}{t u v:Tok}{tk:Nat}(I:Inv X pins σ H s)(M:-(2 ^ 62)<=lo)(U:lo<2 ^ 62)(Z:-(2 ^ 62)<=hi)(h4:hi<2 ^ 62)
 (q:R (Itr lo (hi-lo).toNat) H):As (A5 X.prog X.w) X.A (H9 (.ref s.heap.objs.size)) (PIE X pins σ tg R) E { s with heap:=s.heap.push { cls:=.type "range",data:=.fields #[.int lo t,.int hi u,.int 1 v] },toks:=tk }:=by
 refine wpAny_pyIter_range (IsRange.new ..) (small_one M U Z h4) ?_;have B:Inv X pins σ H { s with heap:=s.heap.push { cls:=.type "range",data:=.fields #[.int lo t,.int hi u,.int 1 v] },toks:=tk }:=I.kept λb o e=>Ab _ e;refine⟨(s.heap.push { cls:=.type "range",data:=.fields #[.int lo t,.int hi u,.int 1 v] }).objs.size,[(s.heap.push { cls:=.type "range",data:=.fields #[.int lo t,.int hi u,.int 1 v] }).objs.size],_,_,H,rfl,
  B.kept (t':=tk) λb o e=>Ab _ e,zY _ lo (hi-lo).toNat,?_,λb hb=>?_,q⟩
 have G:lo+((0:Nat):Int)*1=lo:=by simp
 have L:(((hi-lo).toNat:Nat):Int)-((0:Nat):Int)=J5 lo hi 1:=by rw[rangeSize_one];split <;> omega
 show JU _ _ (lo+((0:Nat):Int)*1) ((((hi-lo).toNat:Nat):Int)-((0:Nat):Int)) 1;rw[G,L];exact Al _ rfl;have e:b=(s.heap.push { cls:=.type "range",data:=.fields #[.int lo t,.int hi u,.int 1 v] }).objs.size:=by simpa using hb
 subst e;exact B.fpOk (An _) (B.hok.fresh (An _))
noncomputable def aMB(ta:TA):TI:=λσ H R=>ta σ H λvs H1=>∃j:Int,vs=[.int j]/\-(2 ^ 62)<=j/\j<2 ^ 62/\R (Itr 0 j.toNat) H1
noncomputable def aMC(ta:TA):TI:=λσ H R=>ta σ H λvs H1=>∃i j:Int,vs=[.int i,.int j]/\(-(2 ^ 62)<=i/\i<2 ^ 62/\-(2 ^ 62)<=j/\j<2 ^ 62)/\R (Itr i (j-i).toNat) H1
theorem aCQ{a:A6}{G:TA}{p pos:Du}(U:Gl X "range")(Z:X.mg "range" = none)(M:PA X [a] G)(hs:AA [a] X.env=[(false,Ch a X.env)]:=by rfl):PI X tg (.Call (.Name "range" p) [a] [] pos) (aMB G):=by
 intro pins s σ H R I h;refine KR (dY I U Z boot_range (Bv (thn (M pos pins s σ H _ I h) λus s1 ⟨vs,H1,L,r1,B⟩=>?_) hs rfl));obtain⟨j,e,B,q2,q⟩:=B;subst e;cases r1 with
 | cons r rr=>cases rr;obtain⟨t,rfl⟩:=r;exact call_range_1 (xD L (by omega) (by omega) B q2 (by simpa using q))
theorem aCR{a b:A6}{L:TA}{p pos:Du}(Z:Gl X "range")(hm:X.mg "range" = none)(U:PA X [a,b] L)(hs:AA [a,b] X.env=[(false,Ch a X.env),(false,Ch b X.env)]:=by rfl)(B:AA [b] X.env=[(false,Ch b X.env)]:=by rfl) :
 PI X tg (.Call (.Name "range" p) [a,b] [] pos) (aMC L):=by
 intro pins s σ H R I h;refine KR (dY I Z hm boot_range (Bv (thn (U pos pins s σ H _ I h) λus s1 ⟨vs,H1,M,r1,G⟩=>?_) (by rw[hs,B]) (by rw[B];rfl)));obtain⟨i,j,e,⟨G,q2,q3,q4⟩,q⟩:=G;subst e;cases r1 with
 | cons r rr=>
  cases rr with
  | cons r' rr=>cases rr;obtain⟨t,rfl⟩:=r;obtain⟨t',rfl⟩:=r';exact call_range_2 (xD M G q2 q3 q4 q)
noncomputable def aPD(wi:TI)(g:TG)(tb:TS):TS:=λD σ H=>wi σ H λJ'' H1=>∃W:Nat->Nat->St->Hp->Prop,(∃m,W 0 m σ H1)/\∀i m σ H,W i m σ H ->
 (J''.stop i H/\D.nx σ H)\/(J''.go i H/\∃N:St->Hp->Prop,(∀σ' H',N σ' H'->∃m',m'<m/\W (i+1) m' σ' H')/\∀x H',J''.yld i H x H'->g x σ H' λσ2 H2=>tb { D with nx:=N,ct:=N,bk:=D.nx } σ2 H2)
noncomputable def oZ(fp:List Addr)(h:Heap):List (Addr×Obj):=fp.filterMap λb=>(h.get? b).map λo=>(b,o)
theorem gK{fp:List Addr}{h:Heap}{b:Addr}{o:Obj}(B:b∈fp)(e:h.get? b=some o):(b,o)∈oZ fp h:=B0.mpr ⟨b,B,by rw[e];rfl⟩
theorem aCS{fp:List Addr}{h:Heap}{p:Addr×Obj}(I:p∈oZ fp h):p.1∈fp/\h.get? p.1=some p.2:=by
 obtain⟨b,G,e⟩:=B0.mp I;cases q:h.get? b with
 | none=>rw[q] at e;cases e|some o=>rw[q] at e;have B:(b,o)=p:=Ao e;subst B;exact⟨G,q⟩
theorem Inv.pinned{pins:List (Addr×Obj)}{σ:St}{H:Hp}{s:Ad}{fp:List Addr}(I:Inv X pins σ H s)(L:∀b∈fp,lG X pins H b)(M:∀b∈fp,∃o,s.heap.get? b=some o/\∀v,o.data≠.cell v):Inv X (pins++oZ fp s.heap) σ H s:=
 I.pins_of λp U=>(C1.mp U).elim (λz=>I.pin p (AD _ z)) λz=>by obtain⟨G,e⟩:=aCS z;obtain⟨f0,f1,f2,_⟩:=L p.1 G;obtain⟨o,B,d⟩:=M p.1 G;rw[e] at B;cases B;exact⟨e,f0,f1,f2,d⟩
theorem Inv.unpinned{pins pl:List (Addr×Obj)}{σ:St}{H:Hp}{s:Ad}(I:Inv X (pins++pl) σ H s):Inv X pins σ H s:=I.pins_of λp B=>I.pin p (AD _ (Bo _ B))
theorem aEe{Z:A6}{body:List BY}{wi:TI}{g:TG}{tb:TS}{pos:Du}(hp:PassesOwn (A5 X.prog X.w) X.A X.env X.xe)(hc:X.calm=true)(hi:PI X tg Z wi)(hg:PG X tg g)(U:PSs X body tb)
 (hs:∀x,BJ Z X.env x=pure x:=by intro _;rfl):PS X (.For tg Z body [] pos) (aPD wi g tb):=by
 intro pins s σ H D I h;refine wpAny_For (thn (hi pins s σ H _ I h) λv s1 h1=>thn h1 λw6 s2 h2=>?_) hs;obtain⟨it,fp,tn,J'',H2,e,I2,T,w4,f2,W,⟨m0,w0⟩,q5⟩:=h2;subst e;have q0:∀{H':Hp},(∀b∈fp,H' b=none)->∀b∈fp,lG X pins H' b:=λhn b U=>⟨hn b U,(f2 b U).2⟩
 refine codeAny_forLoop_any (λn s'=>∃i σ' H',Inv X pins σ' H' s'/\tn i s'.heap/\(∀b∈fp,H' b=none)/\W i n σ' H') ?_ m0 ⟨0,σ,H2,I2,w4,λb U=>(f2 b U).1,w0⟩;rintro n s3 ⟨i,q1,H3,I3,q4,q3,w3⟩;rcases q5 i n q1 H3 w3 with⟨stop,qn⟩|⟨go,N,hN,step⟩
 refine D3 hp (thn (T.done X rfl rfl rfl hc i pins s3 q1 H3 X.xe I3 (q0 q3) q4 stop) λr s4 ⟨hr,I4⟩=>?_);subst hr;exact F9 ⟨q1,H3,I4,qn⟩;refine D3 hp (thn (T.item X rfl rfl rfl hc i pins s3 q1 H3 X.xe I3 (q0 q3) q4 go) λr s4 ⟨u,hr,h4⟩=>?_);subst hr;refine D3 hp (thn h4 λ_ s5 ⟨x,H5,I5,r5,y5,q2,q9⟩=>?_);have q8:=I5.pinned (q0 q9) (T.obj _ _ q2);refine D3 hp (thn (hg _ s5 q1 H5 x u _ q8 r5 (step x H5 y5)) λ_ s6 ⟨w5,H6,I6,q6⟩=>?_);refine D3 hp (thn (U _ s6 w5 H6 _ I6 q6) λf s7 q7=>?_);have M:∀{B:St} {G:Hp},Inv X (pins++oZ fp s5.heap) B G s7->N B G->∃m,m<n/\∃i σ' H',Inv X pins σ' H' s7/\tn i s7.heap/\(∀b∈fp,H' b=none)/\W i m σ' H':=λ{B G} L n7=>by obtain⟨m',hm,w7⟩:=hN B G n7;refine⟨m',hm,i+1,B,G,L.unpinned,T.keep _ _ _ q2 λb U o e=>(L.pin (b,o) (AD _ (AD _ (gK U e)))).1,λb U=>?_,w7⟩;obtain⟨o,e,d⟩:=T.obj _ _ q2 b U;exact(L.pin (b,o) (AD _ (AD _ (gK U e)))).2.1
 cases f with
 | next=>obtain⟨B,G,L,n7⟩:=q7;exact M L n7|cont=>obtain⟨B,G,L,n7⟩:=q7;exact M L n7|brk=>obtain⟨B,G,L,q7⟩:=q7;exact⟨B,G,L.unpinned,q7⟩|ret v=>obtain⟨x7,B,G,L,r7,q7⟩:=q7;exact⟨x7,B,G,L.unpinned,r7,q7⟩
end
theorem aEf{K:Ap}{a:Addr}{xs:List V}{g:TG}{U:TS}{D:Ends}{σ:St}{H:Hp}(B:Nat->St->Hp->Prop)(Z:B 0 σ H)(hl:∀i σ H,i<=xs.length->B i σ H->SqL K H a xs)
 (hs:∀i x σ H,xs[i]? = some x->B i σ H->g x σ H λG L=>U { D with nx:=B (i+1),ct:=B (i+1),bk:=D.nx } G L) (hd:∀σ H,B xs.length σ H->D.nx σ H) :
 ∃W:Nat->Nat->St->Hp->Prop,(∃m,W 0 m σ H)/\∀i m σ H,W i m σ H ->
  ((Itl K a).stop i H/\D.nx σ H)\/((Itl K a).go i H/\∃N:St->Hp->Prop,(∀σ' H',N σ' H'->∃M,M<m/\W (i+1) M σ' H')/\∀x H',(Itl K a).yld i H x H'->g x σ H' λG L=>U { D with nx:=N,ct:=N,bk:=D.nx } G L):=by
 refine⟨λi m σ H=>m=xs.length-i/\i<=xs.length/\B i σ H,⟨xs.length,by simp,A9 _,Z⟩,?_⟩;rintro i m σ H ⟨rfl,hi,p⟩;have q:=hl i σ H hi p;by_cases I:i<xs.length;refine .inr ⟨⟨xs,xs[i],q,by simp[I]⟩,B (i+1),λσ' H' p'=>⟨xs.length-(i+1),by omega,rfl,I,p'⟩,λx H' y=>?_⟩;obtain⟨e,y⟩:=y;subst e;exact hs i x σ _ (y xs q) p;have e:i=xs.length:=by omega
 subst e;exact .inl ⟨⟨xs,q,An _⟩,hd σ H p⟩
abbrev R2:=V->V->Hp->VK->Prop
noncomputable def OpR(X:Cx)(f:Value->Value->Kr Value)(r:R2):Prop:=
 ∀(pins:List (Addr×Obj)) (s:Ad) (σ:St) (H:Hp) (x y:V) (v u:Value) (Q:VK),Inv X pins σ H s->bB x v->bB y u->r x y H Q ->
  As (A5 X.prog X.w) X.A (f v u) (EP X pins σ Q) X.xe s
noncomputable def UnR(X:Cx)(f:Value->Kr Value)(r:V->Hp->VK->Prop):Prop:=
 ∀(pins:List (Addr×Obj)) (s:Ad) (σ:St) (H:Hp) (x:V) (v:Value) (Q:VK),Inv X pins σ H s->bB x v->r x H Q ->
  As (A5 X.prog X.w) X.A (f v) (EP X pins σ Q) X.xe s
noncomputable def fV(X:Cx)(f:Value)(r:List V->Hp->VK->Prop):Prop:=
 ∀(pins:List (Addr×Obj)) (s:Ad) (σ:St) (H:Hp) (xs:List V) (us:List Value) (Q:VK),Inv X pins σ H s->aX xs us->r xs H Q ->
  As (A5 X.prog X.w) X.A (call f us) (EP X pins σ Q) X.xe s
noncomputable def aPE(X:Cx)(r:V->Hp->(Bool->Hp->Prop)->Prop):Prop:=
 ∀(pins:List (Addr×Obj)) (s:Ad) (σ:St) (H:Hp) (x:V) (v:Value) (Q:Bool->Hp->Prop),Inv X pins σ H s->bB x v->r x H Q ->
  As (A5 X.prog X.w) X.A (truthy v) (TP X pins σ Q) X.xe s
noncomputable def tOp(r:R2)(ta tb:TE):TE:=λσ H Q=>ta σ H λx H1=>tb σ H1 λy H2=>r x y H2 Q
noncomputable def tUn(r:V->Hp->VK->Prop)(ta:TE):TE:=λσ H Q=>ta σ H λx H1=>r x H1 Q
noncomputable def rI(C:Int->Int->Prop)(g:Int->Int->V):R2:=λx y H Q=>∃i j,x=.int i/\y=.int j/\C i j/\Q (g i j) H
noncomputable def rI0(g:Int->Int->V):R2:=λx y H Q=>∃i j,x=.int i/\y=.int j/\Q (g i j) H
noncomputable def rU(g:Int->V):V->Hp->VK->Prop:=λx H Q=>∃i,x=.int i/\Q (g i) H
section
variable {X:Cx} {a b c:A6} {ta tb tc:TE} {pos:Du}
theorem aJH(Z:PE X a ta)(hb:PE X b tb){pins:List (Addr×Obj)}{s:Ad}{σ:St}{H:Hp}{R:V->V->Hp->Prop}(I:Inv X pins σ H s)
 (h:ta σ H λx H1=>tb σ H1 λy B=>R x y B) {Q:Value->Ad->Prop} {f:Value->Value->Kr Value}
 (hf:∀v u s2 x y B,Inv X pins σ B s2->bB x v->bB y u->R x y B->As (A5 X.prog X.w) X.A (f v u) Q X.xe s2) :
 As (A5 X.prog X.w) X.A (Ch a X.env) (λv G=>As (A5 X.prog X.w) X.A (Ch b X.env) (λu L=>As (A5 X.prog X.w) X.A (f v u) Q X.xe L) X.xe G) X.xe s:=by refine thn (Z pins s σ H _ I h) λv s1 ⟨x,H1,M,r1,q1⟩=>?_;refine thn (hb pins s1 σ H1 _ M q1) λu s2 ⟨y,B,U,r2,q2⟩=>?_;exact hf v u s2 x y B U r1 r2 q2
theorem aMD{op:Operator}{r:R2}(U:OpR X (Cp op) r)(L:PE X a ta)(M:PE X b tb):PE X (.BinOp a op b pos) (tOp r ta tb):=by intro pins s σ H Q I h;exact JV (aJH L M I h λv u s2 x y B G Z ry q=>U pins s2 σ B x y v u Q G Z ry q)
theorem aME{op:UnaryOp}{r:V->Hp->VK->Prop}(L:UnR X (unaryOp op) r)(G:PE X a ta):PE X (.UnaryOp op a pos) (tUn r ta):=by intro pins s σ H Q I h;exact UnaryOp_ (thn (G pins s σ H _ I h) λv s1 ⟨x,H1,B,U,M⟩=>L pins s1 σ H1 x v Q B U M)
theorem opI{f:Value->Value->Kr Value}{C:Int->Int->Prop}{g:Int->Int->Int}
 (B:∀(i j:Int) (t u:Tok) (s:Ad) (Q:Value->Ad->Prop) (E:Value->Ad->Prop),C i j->Q (.int (g i j) s.toks) { s with toks:=s.toks+1 }->As (A5 X.prog X.w) X.A (f (.int i t) (.int j u)) Q E s) :
 OpR X f (rI C λi j=>.int (g i j)):=by intro pins s σ H x y v u Q I L M h;obtain⟨i,j,rfl,rfl,G,q⟩:=h;obtain⟨t,rfl⟩:=L;obtain⟨t',rfl⟩:=M;exact B i j t t' s _ _ G ⟨.int (g i j),H,I.tok _,⟨_,rfl⟩,q⟩
theorem aMF{f:Value->Value->Kr Value}{g:Int->Int->Int}
 (B:∀(i j:Int) (t u:Tok) (s:Ad) (Q:Value->Ad->Prop) (E:Value->Ad->Prop),Q (.int (g i j) s.toks) { s with toks:=s.toks+1 }->As (A5 X.prog X.w) X.A (f (.int i t) (.int j u)) Q E s) :
 OpR X f (rI0 λi j=>.int (g i j)):=by intro pins s σ H x y v u Q I G L h;obtain⟨i,j,rfl,rfl,q⟩:=h;obtain⟨t,rfl⟩:=G;obtain⟨t',rfl⟩:=L;exact B i j t t' s _ _ ⟨.int (g i j),H,I.tok _,⟨_,rfl⟩,q⟩
theorem aHa{f:Value->Value->Kr Value}{g:Int->Int->Bool}
 (B:∀(i j:Int) (t u:Tok) (s:Ad) (Q:Value->Ad->Prop) (E:Value->Ad->Prop),Q (.bool (g i j)) s->As (A5 X.prog X.w) X.A (f (.int i t) (.int j u)) Q E s) :
 OpR X f (rI0 λi j=>.bl (g i j)):=by intro pins s σ H x y v u Q I G L h;obtain⟨i,j,rfl,rfl,q⟩:=h;obtain⟨t,rfl⟩:=G;obtain⟨t',rfl⟩:=L;exact B i j t t' s _ _ ⟨.bl (g i j),H,I,rfl,q⟩
noncomputable def aPF(i j:Int):Prop:=0<j/\j<1073741824
noncomputable def aPG(i j:Int):Prop:=0<=j/\j<=1000000/\i.natAbs<2 ^ 64
noncomputable def aJI(i j:Int):Prop:=(-(2 ^ 64)<i/\i<2 ^ 64)\/(-(2 ^ 64)<j/\j<2 ^ 64)
theorem aJI.ok{i j:Int}(h:aJI i j):IntMulOk i j:=by
 rcases h with⟨B,G⟩|⟨B,G⟩
 exact .of_left (Jq B G);exact .of_right (Jq B G)
theorem aJJ:OpR X (Cp .Add) (rI0 λi j=>.int (i+j)):=aMF λ_ _ _ _ _ _ _ q=>add_int q
theorem aJK:OpR X (Cp .Sub) (rI0 λi j=>.int (i-j)):=aMF λ_ _ _ _ _ _ _ q=>sub_int q
theorem aJL:OpR X (Cp .Mult) (rI aJI λi j=>.int (i*j)):=opI λ_ _ _ _ _ _ _ B q=>mul_int q B.ok
theorem aHb:OpR X (Cp .FloorDiv) (rI aPF λi j=>.int (i / j)):=opI λi j _ _ _ _ _ B q=>by have G:(0:Int)<j:=B.1;have I:j<1073741824:=B.2;exact floordiv_int (by omega) (by rw[Int.fdiv_eq_ediv_of_nonneg i (by omega)];exact q) (.inl (PyProof.noPylong_small (by omega)))
theorem aJM:OpR X (Cp .Mod) (rI (λ_ j=>0<j) λi j=>.int (i % j)):=opI λi j _ _ _ _ _ B q=>by have G:(0:Int)<j:=B;exact mod_int' (by omega) (by rw[Int.fmod_eq_emod_of_nonneg i (by omega)];exact q)
theorem aJN:OpR X (Cp .Pow) (rI aPG λi j=>.int (i ^ j.toNat)):=opI λ_ _ _ _ _ _ _ B q=>pow_int_small B.1 B.2.1 B.2.2 q
theorem unI{f:Value->Kr Value}{g:Int->Int}
 (B:∀(i:Int) (t:Tok) (s:Ad) (Q:Value->Ad->Prop) (E:Value->Ad->Prop),Q (.int (g i) s.toks) { s with toks:=s.toks+1 }->As (A5 X.prog X.w) X.A (f (.int i t)) Q E s) :
 UnR X f (rU λi=>.int (g i)):=by intro pins s σ H x v Q I G h;obtain⟨i,rfl,q⟩:=h;obtain⟨t,rfl⟩:=G;exact B i t s _ _ ⟨.int (g i),H,I.tok _,⟨_,rfl⟩,q⟩
theorem aJO:UnR X (unaryOp .USub) (rU λi=>.int (-i)):=unI λ_ _ _ _ _ q=>neg_int q
theorem zZ{pins:List (Addr×Obj)}{σ:St}{H:Hp}{s:Ad}{Q:VK}{k B:Bool}(I:Inv X pins σ H s)(q:Q (.bl k) H)(e:k=B):EP X pins σ Q (.bool B) s:=by subst e;exact⟨.bl k,H,I,rfl,q⟩
theorem aMG:OpR X (BP .Lt) (rI0 λi j=>.bl (decide (i<j))):=aHa λ_ _ _ _ _ _ _ q=>lt_int q
theorem aMH:OpR X (BP .LtE) (rI0 λi j=>.bl (decide (i<=j))):=aHa λ_ _ _ _ _ _ _ q=>le_int q
theorem aMI:OpR X (BP .Gt) (rI0 λi j=>.bl (decide (j<i))):=aHa λ_ _ _ _ _ _ _ q=>gt_int q
theorem aMJ:OpR X (BP .GtE) (rI0 λi j=>.bl (decide (j<=i))):=aHa λ_ _ _ _ _ _ _ q=>ge_int q
theorem aCT:OpR X (BP .In) (λx y H Q=>∃i j,x=.str i/\y=.str j/\Q (.bl (!(CA j i 0 j.length 1).isEmpty)) H):=by intro pins s σ H x y v u Q I B G h;obtain⟨i,j,rfl,rfl,q⟩:=h;obtain⟨t,rfl⟩:=B;obtain⟨t',rfl⟩:=G;exact in_str (zZ I q rfl)
theorem aJP:OpR X (BP .Is) (λx y H Q=>y=.non/\Q (.bl (decide (x=.non))) H):=by
 intro pins s σ H x y v u Q I B G h;obtain⟨rfl,q⟩:=h;cases G;refine is_none_gen (zZ I q ?_);cases x <;> first
  | (cases B;rfl)
  | (obtain⟨t,rfl⟩:=B;rfl)
theorem aHc:OpR X (BP .IsNot) (λx y H Q=>y=.non/\Q (.bl (!decide (x=.non))) H):=by
 intro pins s σ H x y v u Q I B G h;obtain⟨rfl,q⟩:=h;cases G;refine isnot_none_gen (zZ I q ?_);cases x <;> first
  | (cases B;rfl)
  | (obtain⟨t,rfl⟩:=B;rfl)
theorem aBq{op:CmpOp}{r:R2}(Z:OpR X (BP op) r)(L:PE X a ta)(M:PE X b tb)(U:Gn op b=false):PE X (.Compare a [op] [b] pos) (tOp r ta tb):=by intro pins s σ H Q I h;exact wpAny_Compare1 (aJH L M I h λv u s2 x y B G rx ry q=>Z pins s2 σ B x y v u Q G rx ry q) U
noncomputable def aIQ(t:TE):TT:=λσ H Q=>t σ H λx H'=>∃k,x=.bl k/\Q k H'
theorem aBr{op:CmpOp}{r:R2}(ho:OpR X (BP op) r)(Z:PE X a ta)(hb:PE X b tb)(hm:Gn op b=false):PT X (.Compare a [op] [b] pos) (aIQ (tOp r ta tb)):=by
 intro pins s σ H Q I h;refine wpAny_isTrue_Compare1 (thn (Z pins s σ H _ I h) λv s1 ⟨x,H1,L,r1,q1⟩=>thn (hb pins s1 σ H1 _ L q1) λu s2 ⟨y,B,M,r2,q2⟩=>
  thn (ho pins s2 σ B x y v u _ M r1 r2 q2) λc s3 ⟨z,G,U,r3,k,e,q3⟩=>?_) hm
 subst e;cases r3;exact BH ⟨G,U,q3⟩
noncomputable def aEg(r r':R2)(ta tb tc:TE):TE:=λσ H Q=>ta σ H λx H1=>tb σ H1 λy H2=>r x y H2 λz H3=>∃k,z=.bl k /\
 (if k=true then tc σ H3 λw' H4=>r' y w' H4 Q else Q (.bl false) H3)
theorem aEh{op B:CmpOp}{r Z:R2}(ho:OpR X (BP op) r)(G:OpR X (BP B) Z)(ha:PE X a ta)(hb:PE X b tb)(hc:PE X c tc)
 (hm:J6 [op,B] [b,c]=false:=by with_unfolding_all rfl):PE X (.Compare a [op,B] [b,c] pos) (aEg r Z ta tb tc):=by
 intro pins s σ H Q I h;refine Compare_chain (thn (ha pins s σ H _ I h) λv s1 ⟨x,H1,I1,r1,q1⟩=>chain_link (thn (hb pins s1 σ H1 _ I1 q1) λu s2 ⟨y,H2,I2,r2,q2⟩=>
  thn (ho pins s2 σ H2 x y v u _ I2 r1 r2 q2) λd s3 ⟨z,L,M,r3,k,e,U⟩=>?_)) hm
 subst e;cases r3;refine BH ?_;cases k with
 | false=>exact ite_ff ⟨.bl false,L,M,rfl,U⟩|true=>exact ite_tt (chain_last (thn (hc pins s3 σ L _ M U) λw' s4 ⟨z',H4,I4,r4,q4⟩=>G pins s4 σ H4 y z' u w' Q I4 r2 r4 q4))
theorem aEi{op B:CmpOp}{r Z:R2}(ho:OpR X (BP op) r)(G:OpR X (BP B) Z)(ha:PE X a ta)(hb:PE X b tb)(hc:PE X c tc)
 (hm:J6 [op,B] [b,c]=false:=by with_unfolding_all rfl):PT X (.Compare a [op,B] [b,c] pos) (aIQ (aEg r Z ta tb tc)):=by
 intro pins s σ H Q I h;refine isTrue_chain (thn (ha pins s σ H _ I h) λv s1 ⟨x,H1,I1,r1,q1⟩=>test_link (thn (hb pins s1 σ H1 _ I1 q1) λu s2 ⟨y,H2,I2,r2,q2⟩=>
  thn (ho pins s2 σ H2 x y v u _ I2 r1 r2 q2) λd s3 ⟨z,L,M,r3,k,e,U⟩=>?_)) hm
 subst e;cases r3;refine BH ?_;cases k with
 | false=>obtain⟨k',e',q'⟩:=U;cases e';exact ite_ff ⟨L,M,q'⟩|true=>refine ite_tt (test_last (thn (hc pins s3 σ L _ M U) λw' s4 ⟨z',H4,I4,r4,q4⟩=>thn (G pins s4 σ H4 y z' u w' _ I4 r2 r4 q4) λd' s5 ⟨z2,H5,I5,r5,k2,e2,q5⟩=>?_));subst e2;cases r5;exact BH ⟨H5,I5,q5⟩
noncomputable def aHd(K:Ap)(x:V)(H:Hp)(k:Bool):Prop:=
 match x with
 | .non=>k=false|.bl b=>k=b|.int i=>k=(i != 0)
 | .str y=>y.length<=sizeLine/\k=((y.length:Int) != 0)
 | .byt y=>y.size<=sizeLine/\k=((y.size:Int) != 0)
 | .ref p=>(∃xs,SqL K H p xs/\k=!xs.isEmpty)\/(∃xs,SqT K H p xs/\k=!xs.isEmpty)\/∃kvs,H p=some (.dK kvs)/\k=!kvs.isEmpty|_=>False
theorem aAa{κ:Type}{kvs:List (κ×V)}{vs:List (κ×Value)}(r:KV kvs vs):(!vs.isEmpty)=!kvs.isEmpty:=by cases r <;> rfl
theorem pA{xs:List V}{B:List Value}(r:aX xs B):(!B.toArray.isEmpty)=!xs.isEmpty:=by cases r <;> simp
theorem jX:(sizeLine:Nat)<2 ^ 63:=by rw[AY];decide
theorem aEj:aPE X (λx H Q=>∃k,aHd X.K x H k/\Q k H):=by
 intro pins s σ H x v Q I L h;obtain⟨k,e,q⟩:=h;have hl:=jX;have hs:sizeLine=16777216:=AY;cases x with
 | non=>cases L;have B:k=false:=e;subst B;exact truthy_none ⟨H,I,q⟩|bl b=>cases L;have B:k=b:=e;subst B;exact BH ⟨H,I,q⟩|int i=>obtain⟨t,rfl⟩:=L;have B:k=(i != 0):=e;subst B;exact PySem.P.truthy_int ⟨H,I,q⟩|str y=>obtain⟨t,rfl⟩:=L;obtain⟨hy,B⟩:y.length<=sizeLine/\k=((y.length:Int) != 0):=e;subst B;exact PySem.P.truthy_str (by omega) ⟨H,I.tok _,q⟩|byt y=>obtain⟨t,rfl⟩:=L;obtain⟨hy,B⟩:y.size<=sizeLine/\k=((y.size:Int) != 0):=e;subst B;exact PySem.W.truthy_bytes (by omega) ⟨H,I.tok _,q⟩|ref p=>
  cases L;have B:(∃xs,SqL X.K H p xs/\k=!xs.isEmpty)\/(∃xs,SqT X.K H p xs/\k=!xs.isEmpty)\/∃kvs,H p=some (.dK kvs)/\k=!kvs.isEmpty:=e;rcases B with⟨xs,M,B⟩|⟨xs,M,B⟩|⟨kvs,M,B⟩
  subst B;obtain⟨U,r,pl,hz⟩:=I.list M;have G:=r.length;exact wpAny_truthy_list pl.isList (by simp only[Ah];omega) ⟨H,I.tok _,by rw[pA r];exact q⟩;subst B;obtain⟨U,r,pl,hz⟩:=I.tuple M;have G:=r.length;exact truthy_tuple pl (by simp only[Ah];omega) ⟨H,I.tok _,by rw[pA r];exact q⟩;subst B;obtain⟨hz,Z,vs,r,m⟩:kvs.length<=sizeLine/\(p==Cb)=false/\∃vs,KV kvs vs/\s.heap.DictOf (gJ X.prog X.w) p vs:=I.hok p _ M;have G:kvs.length=vs.length:=Jp r;exact wpAny_truthy_dict Z m (by omega) ⟨H,I.tok _,by rw[aAa r];exact q⟩
 | _=>exact(show False from e).elim
theorem aEk(L:PE X a ta)(M:∀B,isTrue a X.env B=(do let v<-B;GH a.pos;Ft [v] (truthy v))) :
 PT X a (λσ H Q=>ta σ H λx H'=>∃k,aHd X.K x H' k/\Q k H'):=by intro pins s σ H Q I h;exact isTrue_plain (thn (L pins s σ H _ I h) λv s1 ⟨x,H1,G,Z,U⟩=>aEj pins s1 σ H1 x v Q G Z U) (M _)
theorem aAb:OpR X (Cp .Add) (λx y H Q=>∃i j,x=.str i/\y=.str j/\i.length+j.length<=sizeLine/\Q (.str (i++j)) H):=by intro pins s σ H x y v u Q I B G h;obtain⟨i,j,rfl,rfl,hz,q⟩:=h;obtain⟨t,rfl⟩:=B;obtain⟨t',rfl⟩:=G;exact add_str (λt' tk=>⟨.str (i++j),H,I.tok _,⟨_,rfl⟩,q⟩) hz
theorem xE{x:V}{us:List Value}(r:aX [x] us):∃u,us=[u]/\bB x u:=by
 cases r with
 | cons B G=>cases G;exact⟨_,rfl,B⟩
theorem aMK{x y:V}{us:List Value}(r:aX [x,y] us):∃u B,us=[u,B]/\bB x u/\bB y B:=by
 cases r with
 | cons G I=>
  cases I with
  | cons L M=>cases M;exact⟨_,_,rfl,G,L⟩
theorem aCU(G:X.calm=true):fV X (.builtin "max") (λxs H Q=>∃i j,xs=[.int i,.int j]/\Q (.int (if j>i then j else i)) H):=by
 intro pins s σ H xs us Q I r h;obtain⟨i,j,rfl,q⟩:=h;obtain⟨u,L,rfl,⟨t,rfl⟩,⟨t',rfl⟩⟩:=aMK r;refine max_two_ints (I.ok.hd G) λh' tk k=>⟨_,H,I.kept k,?_,q⟩
 by_cases B:j>i;rw[if_pos B,if_pos B];exact⟨_,rfl⟩;rw[if_neg B,if_neg B];exact⟨_,rfl⟩
end
structure aAc (h:Heap) (x dx C:Addr) (mA:Str->Option Value):Prop where
 obj:h.get? x=some (Cc C dx)
 ns:h.Ns1 dx mA
 ne:dx≠x
theorem aCV{h:Heap}{dx:Addr}{mA:Str->Option Value}(n:h.Ns1 dx mA):∃od,h.get? dx=some od/\∀name,E1 name od=some (mA name):=by
 obtain⟨o,es,ep,L,hd,G,_,I⟩:=n;refine⟨o,L,λname=>?_⟩;have e:=I name;unfold nsFind findBy at e;rw[<-Array.find?_toList] at e;unfold E1;rw[hd];dsimp only;split;rename_i y q;rw[q] at e;exact congrArg some e;rename_i q;rw[q] at e;have a:es.toList.any (·.refKey)=false:=by rw[GI];intro y M;obtain⟨z,t,B⟩:=G y (Array.mem_toList_iff.mp M);simp[KI,B]
 grind
theorem aAc.look{h:Heap}{x dx C:Addr}{mA:Str->Option Value}(I:aAc h x dx C mA):∃od,PySem.W.InstAt h x (Cc C dx) C (some od)/\∀name,E1 name od=some (mA name):=
 let ⟨od,ho,hl⟩:=aCV I.ns
 ⟨od,⟨I.obj,rfl,rfl,ho⟩,hl⟩
section
variable {prog:A2} {w:AL} {A:AT} {E:Value->Ad->Prop} {s:Ad} {K:Ap} {x dx C f:Addr} {mA:Str->Option Value} {name:Str} {v:Value}
theorem aHe{B:Bool}{Q:Value->Ad->Prop}(X:K.In s.heap)(I:aAc s.heap x dx C mA)(M:DS K C name=true)(U:EJ K C=true)
 (L:BW K (.ref C) name=some none) (hv:mA name=some v) (G:HA v=true) (h:Q v { s with toks:=s.toks+1 }) :
 As (A5 prog w) A (K3 (.ref x) name B) Q E s:=by obtain⟨od,J'',Z⟩:=I.look;exact PySem.W.get_value X J'' (Er M).1 (PySem.W.findObj_own U L rfl (by rw[Z,hv])) G h
theorem aEl{pl:Kr Bool}{Q:Value×List Value->Ad->Prop}(X:K.In s.heap)(I:aAc s.heap x dx C mA)(B:DS K C name=true)
 (G:BW K (.ref C) name=some (some (.ref f))) (ht:GJ K (.ref f)=true) (M:mA name=none) (h:Q (.ref f,[.ref x]) s) :
 As (A5 prog w) A (HB (.ref x) name pl) Q E s:=by obtain⟨od,J'',L⟩:=I.look;exact PySem.W.method_fn X J'' (Er B).1 (Er B).2 G (beq_iff_eq.mp ht) (by show(E1 name od).map (·.isSome)=some false;rw[L,M];rfl) h
theorem aHf{ns:List Str}{Q:Unit->Ad->Prop}(X:K.In s.heap)(I:aAc s.heap x dx C mA)
 (hs:BW K (.ref C) "__setattr__" = some (some (.builtin "object.__setattr__"))) (hp:GK K C=true) (ht:FA K C name=some none) (hh:EJ K C=true)
 (hw:GF mA ns) (q2:ns.length<=sizeLine)
 (h:∀h',aAc h' x dx C (λy=>if y=name then some v else mA y)->BR dx s.heap h'->Q () { s with heap:=h',toks:=s.toks+2 }) :
 As (A5 prog w) A (setAttr (.ref x) name v) Q E s:=by obtain⟨od,J'',hl⟩:=I.look;refine PySem.W.set_plain X J'' hs (PySem.W.osa_open (s:={ s with toks:=s.toks+1 }) (r:=none) X J'' hp ht λb=>?_);obtain⟨cd,hc,M⟩:=PySem.W.any_some hh;have hx:s.heap.get? x=some ⟨.ref C,some dx,.plain,#[]⟩:=I.obj;refine Aa (Ae (Aa (Aa (wpAny_loadPart hx (Aa (Ks (s:={ s with toks:=s.toks+1 }) (PySem.W.looks_clsIn X hc) ?_))))));rw[M];refine Ae (a:=some dx) (Aa (Ae (Aa ?_)));refine wpAny_nsSet1 (s:={ s with toks:=s.toks+1 }) I.ns λh' B G=>?_;obtain⟨oD,q1,q0,Z,U,L⟩:=B.count (K4 name v hw);refine Aa (wpAny_lookBehind Z (by rw[U];exact pastItsLine_dict (AW L (by rw[Dk];omega))) ?_);exact Ae (h _ ⟨(G.2 _ (Dj I.ne)).trans I.obj,B,I.ne⟩ G)
theorem aEm{R:Fu->Ad->Prop}{vs:List Value}{B:List (Str×Value)}(X:K.In s.heap)(I:Ij K C=true)
 (hi:BW K (.ref C) "__init__" = some (some (.ref f))) (G:PySem.W.typeIn K (.ref f)=some (.type "function"))
 (h:D4 (A5 prog w) (A.under (.builtin "type.__call__" ⟨.ref C::vs,B⟩)) (.call (.ref f) ⟨.ref (s.heap.objs.size+1)::vs,B⟩) (PySem.W.InitBack (s.heap.objs.size+1) R)
  { s with heap:=(s.heap.push BA).push (Cc C s.heap.objs.size) }) :
 D4 (A5 prog w) A (.call (.ref C) ⟨vs,B⟩) R s:=by obtain⟨L,g,d,t,os⟩:=s;exact PySem.W.make_core (PySem.W.makes_of X I) (PySem.W.looks_findIn X hi) (λself=>PySem.W.bind_fn X self G) (.inl rfl) h
end
noncomputable def putF(f:Str)(v:V):List (Str×V)->List (Str×V)
 | []=>[(f,v)]
 | (g,x)::r=>if g=f then (g,v)::r else (g,x)::putF f v r
theorem nN(f g:Str)(v:V):∀fs:List (Str×V),(putF f v fs).lookup g=if g=f then some v else fs.lookup g
 | []=>by show BN g [(f,v)]=_;grind|(k,x)::r=>by have B:=nN f g v r;rw[show putF f v ((k,x)::r)=(if k=f then (k,v)::r else (k,x)::putF f v r) from rfl];grind
theorem mP(f:Str)(v:V):∀fs:List (Str×V),f∈(putF f v fs).map (·.1)/\∀g,g∈fs.map (·.1)->g∈(putF f v fs).map (·.1)
 | []=>⟨by simp[putF],λg h=>by simp at h⟩
 | (k,x)::r=>by obtain⟨i1,i2⟩:=mP f v r;rw[show putF f v ((k,x)::r)=(if k=f then (k,v)::r else (k,x)::putF f v r) from rfl];grind
theorem nO(f:Str)(v:V):∀fs:List (Str×V),(putF f v fs).length<=fs.length+1
 | []=>by simp[putF]|(k,x)::r=>by have G:=nO f v r;rw[show putF f v ((k,x)::r)=(if k=f then (k,v)::r else (k,x)::putF f v r) from rfl];by_cases B:k=f;rw[if_pos B,Dk,Dk];omega;rw[if_neg B,Dk,Dk];omega
theorem rV.some_of{v:V}{o:Option Value}(r:rV (some v) o):∃u,o=some u/\bB v u:=by
 cases o with
 | none=>exact(show False from r).elim|some u=>exact⟨u,rfl,r⟩
theorem rV.none_of{o:Option Value}(r:rV none o):o=none:=by
 cases o with
 | none=>rfl|some u=>exact(show False from r).elim
theorem aCW{v:V}{u:Value}(r:bB v u):HA u=true:=by
 cases v with
 | non=>cases(show u=Ca from r);rfl|bl b=>cases(show u=D6 b from r);rfl|int i=>obtain⟨t,e⟩:=(show ∃t,u=Gc i t from r);cases e;rfl|str x=>obtain⟨t,e⟩:=(show ∃t,u=Hw x t from r);cases e;rfl|byt b=>obtain⟨t,e⟩:=(show ∃t,u=JR b t from r);cases e;rfl|flt b=>obtain⟨t,e⟩:=(show ∃t,u=JS b t from r);cases e;rfl|ref a=>cases(show u=AG a from r);rfl|ty n=>cases(show u=Fo n from r);rfl
section
variable {P:A2} {w:AL} {H H':Hp} {h h':Heap} {a C dx:Addr} {fs fs':List (Str×V)}
theorem uM(hok:HOk P w H h)(e:H a=some (.ins C dx fs)):∃mA,aAc h a dx C mA/\(∀f,rV (fs.lookup f) (mA f))/\GF mA (fs.map (·.1))/\fs.length<=1000/\H dx=some (.own a):=by
 obtain⟨d,z,ne,B,mA,n,r,q⟩:=(show eJ P w H h a (.ins C dx fs) from hok a _ e)
 exact⟨mA,⟨B,n,ne⟩,r,q,z,d⟩
end
structure Cls (K:Ap) (C:Addr):Prop where
 pg:DS K C KJ=true
 hd:EJ K C=true
 po:GK K C=true
 sa:BW K (.ref C) "__setattr__" = some (some (.builtin "object.__setattr__"))
theorem Cls.get{K:Ap}{C:Addr}(c:Cls K C)(f:Str):DS K C f=true:=c.pg
noncomputable def dZ(K:Ap)(C:Addr)(f:Str):Prop:=BW K (.ref C) f=some none
theorem dZ.taker{K:Ap}{C:Addr}{f:Str}(n:dZ K C f):FA K C f=some none:=by unfold FA;rw[show BW K (.ref C) f=some none from n];rfl
structure xG (K:Ap) (C:Addr) (m:Str) (f:Addr):Prop where
 at_:BW K (.ref C) m=some (some (.ref f))
 fn:GJ K (.ref f)=true
 kp:CB K (.ref f)=true
section
variable {X:Cx} {pins:List (Addr×Obj)} {σ:St} {H:Hp} {s:Ad} {a C dx:Addr} {fs:List (Str×V)} {f:Str} {v:V} {A:AT} {E:Value->Ad->Prop}
theorem aAd{b:Bool}{Q:Value->Ad->Prop}(I:Inv X pins σ H s)(e:H a=some (.ins C dx fs))(c:Cls X.K C)(n:dZ X.K C f)(l:fs.lookup f=some v)
 (h:∀u G,Inv X pins σ H G->bB v u->Q u G):As (A5 X.prog X.w) A (K3 (.ref a) f b) Q E s:=by obtain⟨mA,O,r,_,_,_⟩:=uM I.hok e;obtain⟨u,L,B⟩:=rV.some_of (v:=v) (o:=mA f) (by rw[<-l];exact r f);exact aHe I.kIn O (c.get f) c.hd n L (aCW B) (h u _ (I.tok _) B)
theorem aAe{m:Str}{g:Addr}{pl:Kr Bool}{Q:Value×List Value->Ad->Prop}(I:Inv X pins σ H s)(e:H a=some (.ins C dx fs))(c:Cls X.K C)(k:xG X.K C m g)(l:fs.lookup m=none)
 (h:Q (.ref g,[.ref a]) s):As (A5 X.prog X.w) A (HB (.ref a) m pl) Q E s:=by obtain⟨mA,O,r,_,_,_⟩:=uM I.hok e;have B:mA m=none:=rV.none_of (by rw[<-l];exact r m);exact aEl I.kIn O (c.get m) k.at_ k.fn B h
theorem aAf{y:V}{u:Value}{Q:Unit->Ad->Prop}(I:Inv X pins σ H s)(e:H a=some (.ins C dx fs))(c:Cls X.K C)(n:dZ X.K C f)(hl:fs.length<1000)(ry:bB y u)
 (h:∀L,Inv X pins σ (upd H a (.ins C dx (putF f y fs))) L->Q () L):As (A5 X.prog X.w) A (setAttr (.ref a) f u) Q E s:=by
 obtain⟨mA,O,r,M,_,G⟩:=uM I.hok e;have hz:(fs.map (·.1)).length<=sizeLine:=by rw[Eh,AY];omega
 refine aHf I.kIn O c.sa c.po n.taker c.hd M hz λh' B sb=>h _ ?_;have hd:∃o,h'.get? dx=some o:=let ⟨o,_,_,e',_⟩:=B.ns;⟨o,e'⟩;refine I.write (x:=a) (e:=dx) (by rw[e];exact C7) (.inr G) (λb q U z=>(sb.2 b U).trans z) hd ?_;refine⟨by rw[aJ O.ne];exact G,?_,O.ne,B.obj,_,B.ns,λg=>?_,λg Z=>?_⟩;have:=nO f y fs;omega;show rV ((putF f y fs).lookup g) (if g=f then some u else mA g);rw[nN];by_cases q:g=f;rw[if_pos q,if_pos q];exact ry;rw[if_neg q,if_neg q];exact r g;by_cases q:g=f;rw[q];exact(mP f y fs).1;refine(mP f y fs).2 g (M g λz=>Z ?_);grind
theorem Inv.made(I:Inv X pins σ H s):Inv X pins σ (upd (upd H s.heap.objs.size (.own (s.heap.objs.size+1))) (s.heap.objs.size+1) (.ins C s.heap.objs.size []))
 { s with heap:=(s.heap.push BA).push (Cc C s.heap.objs.size) }:=by
 have B:(s.heap.push BA).get? s.heap.objs.size=some BA:=Al s.heap rfl;have L:((s.heap.push BA).push (Cc C s.heap.objs.size)).get? (s.heap.objs.size+1)=some (Cc C s.heap.objs.size):=by have:=Al (s.heap.push BA) (o:=Cc C s.heap.objs.size) rfl;rwa [Bl] at this
 have M:(s.heap.push BA).Ns s.heap.objs.size (λ_=>none):=⟨BA,#[],_,B,rfl,(λe U=>absurd U (by simp)),λ_=>rfl⟩
 have G:=I.laid (a:=s.heap.objs.size) (o:=.own (s.heap.objs.size+1)) (h':=s.heap.push BA) (t':=s.toks) (λb u q=>Ab _ q) (An _) ⟨_,B⟩;refine G.laid (a:=s.heap.objs.size+1) (o:=.ins C s.heap.objs.size []) (t':=s.toks) (λb u q=>Ab _ q) (JB (Bl _ _)) ?_;have ne:s.heap.objs.size≠s.heap.objs.size+1:=A4 (B3 _);refine⟨by rw[aJ ne,aP],A9 _,ne,L,λ_=>none,(K5 M).at λo q=>Ab _ q,λ_=>C7,λy Z=>absurd rfl Z⟩
theorem aHg{prog:A2}{w:AL}{env:JA}{e:A6}{f:Str}{pos:Du}{s:Ad}{Q:Value->Ad->Prop}(G:DZ e f env (Ch e env)=Ch e env)
 (h:As (A5 prog w) A (Ch e env) (λo B=>As (A5 prog w) A (K3 o f true) Q E B) E s):As (A5 prog w) A (Ch (.Attribute e f pos) env) Q E s:=
 Attribute_any_ h (by rw[arm_eval_Attribute,G])
end
noncomputable def aPH(K:Ap)(ta:TE)(f:Str):TE:=λσ H Q=>ta σ H λx H1=>∃a C dx fs v,x=.ref a/\H1 a=some (.ins C dx fs)/\Cls K C/\dZ K C f/\fs.lookup f=some v/\Q v H1
noncomputable def aPI(K:Ap)(ta tv:TE)(f:Str):TS:=λD σ H=>tv σ H λy H1=>ta σ H1 λx H2=>∃a C dx fs,x=.ref a/\H2 a=some (.ins C dx fs)/\Cls K C/\dZ K C f/\fs.length<1000 /\
 D.nx σ (upd H2 a (.ins C dx (putF f y fs)))
section
variable {X:Cx} {o e value:A6} {f:Str} {pos pos' tpos:Du} {ta tv:TE}
theorem aJQ(U:PE X e ta)(M:DZ e f X.env (Ch e X.env)=Ch e X.env):PE X (.Attribute e f pos) (aPH X.K ta f):=by intro pins s σ H Q I h;refine aHg M (thn (U pins s σ H _ I h) λu s1 ⟨x,H1,B,rx,a,C,dx,fs,v,ex,L,c,n,l,q⟩=>?_);subst ex;obtain rfl:u=AG a:=rx;exact aAd B L c n l λu' s2 G Z=>⟨v,H1,G,Z,q⟩
theorem aJR(U:PE X o ta)(Z:PE X value tv)(hs:H0 value (some (.Attribute o f pos')) pos.line X.env=pure false):PS X (.Assign [.Attribute o f pos'] value pos) (aPI X.K ta tv f):=by intro pins s σ H D I h;refine plainObj_wpAny_Assign_Attribute (thn (Z pins s σ H _ I h) λu s1 ⟨y,H1,B,ry,q⟩=>thn (U pins s1 σ H1 _ B q) λov s2 ⟨x,H2,G,rx,a,C,dx,fs,ex,M,c,n,l,q2⟩=>?_) hs;subst ex;obtain rfl:ov=AG a:=rx;exact aAf G M c n l ry λs3 L=>⟨σ,_,L,q2⟩
end
structure fS (k:Nat) (A:AT):Prop where
 hd:A.handled=none
 gd:A.guards=some []
 dp:A.depth+3*k+5<IG
 un:A.units+16*k+200<cLine
theorem fS.deeper{k:Nat}{A:AT}(r:fS (k+1) A)(env:JA):fS k (A.deeper env):=
 ⟨r.hd,r.gd,by have:=r.dp;show A.depth+1+3*k+5<_;omega,by have:=r.un;show A.units+3+16*k+200<_;omega⟩
theorem aAg{A:AT}{C:Addr}{us:List Value}{B:List (Str×Value)}:(A.under (.builtin "type.__call__" ⟨.ref C::us,B⟩)).depth=A.depth+1:=by
 first|rfl|simp[GL,Code.weight,Code.isCreation,Code.isGuard,Code.isCaller,JW,GM,guardIds]
theorem aAh{A:AT}{C:Addr}{us:List Value}{B:List (Str×Value)}:(A.under (.builtin "type.__call__" ⟨.ref C::us,B⟩)).units=A.units+1:=by
 first|rfl|simp[GL,Code.cUnits,JW,GM]
theorem fS.make{k:Nat}{A:AT}(r:fS (k+1) A)(C:Addr)(us:List Value)(B:List (Str×Value)):fS k (A.under (.builtin "type.__call__" ⟨.ref C::us,B⟩)):=
 ⟨r.hd,r.gd,by have:=r.dp;rw[aAg];omega,by have:=r.un;rw[aAh];omega⟩
theorem fS.depth{k:Nat}{A:AT}(r:fS k A):A.depth<IG:=by have:=r.dp;omega
noncomputable def aJS:TA:=λ_ H Q=>Q [] H
noncomputable def aIR(ta:TE)(tr:TA):TA:=λσ H Q=>ta σ H λx H1=>tr σ H1 λxs H2=>Q (x::xs) H2
section
variable {X:Cx} {e:A6} {es:List A6} {te:TE} {t:TA} {pos:Du}
theorem eP:PA X [] aJS:=λ_ _ _ _ H Q I h=>DF ⟨[],H,I,.nil,h⟩
theorem cZ(M:PE X e te)(U:PA X es t)(hs:AA (e::es) X.env=(false,Ch e X.env)::AA es X.env:=by rfl):PA X (e::es) (aIR te t):=by intro pos pins s σ H Q I h;rw[hs];show As _ _ (IA ((false,Ch e X.env)::Cd pos (AA es X.env))) _ _ s;refine Cq (thn (M pins s σ H _ I h) λu s1 ⟨x,H1,G,r1,Z⟩=>?_);exact thn (U pos pins s1 σ H1 _ G Z) λus s2 ⟨xs,B,L,r2,q2⟩=>⟨x::xs,B,L,.cons r1 r2,q2⟩
noncomputable def aPJ(t:TA):TE:=λσ H Q=>t σ H λxs H1=>xs.length<=sizeLine/\∀p,H1 p=none->Q (.ref p) (upd H1 p (.tup xs))
noncomputable def aPK(t:TA):TE:=λσ H Q=>t σ H λxs H1=>xs.length<=sizeLine/\∀p,H1 p=none->Q (.ref p) (upd H1 p (.lst xs))
theorem aEn{x1}(h:PA X es t):PE X (.Tuple es x1 pos) (aPJ t):=by intro pins s σ H Q I L;refine wpAny_Tuple_spliced (thn (h pos pins s σ H _ I L) λus s1 ⟨xs,H1,B,r,z,q⟩=>⟨by rw[<-r.length];exact z,?_⟩);have G:H1 s1.heap.objs.size=none:=B.hok.fresh (An _);refine⟨.ref s1.heap.objs.size,upd H1 s1.heap.objs.size (.tup xs),B.laid (t':=s1.toks) (λb u e=>Ab _ e) (An _) ?_,rfl,q _ G⟩;exact⟨z,us,r,⟨_,Al _ rfl,rfl,_,rfl⟩⟩
theorem aAi(h:PA X es t):PE X (.List es pos) (aPK t):=by intro pins s σ H Q I L;refine wpAny_List_spliced (thn (h pos pins s σ H _ I L) λus s1 ⟨xs,H1,B,r,z,q⟩=>⟨by rw[<-r.length];exact z,?_⟩);have G:H1 s1.heap.objs.size=none:=B.hok.fresh (An _);refine⟨.ref s1.heap.objs.size,upd H1 s1.heap.objs.size (.lst xs),B.laid (t':=s1.toks) (λb u e=>Ab _ e) (An _) ?_,rfl,q _ G⟩;exact⟨z,us,0,r,Al _ rfl⟩
end
abbrev Sp:=List V->Hp->VK->XK->Prop
abbrev CXT:=List JA->Hp->Ad->XK->Value->Ad->Prop
structure aAj (P:A2) (w:AL) (K:Ap) (mg:Str->Option Value) (base:Heap) (A:AT) (outer:List JA) (s:Ad) (H:Hp):Prop where
 frames:A.frames=some outer
 mod:Mod K mg base
 bs:∀b o,base.get? b=some o->s.heap.get? b=some o/\H b=none
 bsz:base.objs.size<=s.heap.objs.size
 funs:s.heap.FunFrames base outer
 frf:∀b∈frs outer,H b=none
 hok:HOk P w H s.heap
 bare:EI s.gens
noncomputable def CE(outer:List JA)(P:A2)(w:AL)(H:Hp)(s:Ad)(Q:VK)(u:Value)(s':Ad):Prop:=
 ∃v H',s'.os=s.os/\EI s'.gens/\Un (frs outer) [] H H' s.heap s'.heap/\HOk P w H' s'.heap/\bB v u/\Q v H'
noncomputable def CR(CX:CXT)(outer:List JA)(P:A2)(w:AL)(H:Hp)(s:Ad)(Q:VK)(E:XK)(r:Fu)(s':Ad):Prop:=
 match r with
 | .ok (.ret u)=>CE outer P w H s Q u s'|.ok _=>False|.error e=>CX outer H s E e s'
structure eY (P:A2) (w:AL) (K:Ap) (mg:Str->Option Value) (base:Heap) (CX:CXT) (k:Nat) (f:Addr) (fd:Dv) (ps:List Str) (sp:Sp):Prop where
 len:∀vs H Q E,sp vs H Q E->vs.length=ps.length
 run:∀(A:AT) (outer:List JA) (s:Ad) (H:Hp) (args:Args) (us:List Value) (vs:List V) (Q:VK) (E:XK),fS k A->aAj P w K mg base A outer s H->JC s fd args (ps.zip us)->aX vs us->sp vs H Q E ->
  D4 (A5 P w) A (.call (.ref f) args) (CR CX outer P w H s Q E) s
theorem aAj.make{P:A2}{w:AL}{K:Ap}{mg:Str->Option Value}{base:Heap}{A:AT}{outer:List JA}{s:Ad}{H:Hp}(e:aAj P w K mg base A outer s H)(C:Addr)(us:List Value)(B:List (Str×Value)) :
 aAj P w K mg base (A.under (.builtin "type.__call__" ⟨.ref C::us,B⟩)) outer s H:=⟨by first|exact e.frames|(simpa[GL,Code.envs,GM,pushEnvs] using e.frames),e.mod,e.bs,e.bsz,e.funs,e.frf,e.hok,e.bare⟩
section
variable {X:Cx} {pins:List (Addr×Obj)} {σ:St} {H:Hp} {s s':Ad}
theorem Inv.env0(I:Inv X pins σ H s):aAj X.prog X.w X.K X.mg X.base X.A X.stack s H:=
 ⟨I.ok.frames,I.ok.mod,I.bs,AW I.ok.bsz I.sz,I.stack,I.stkFree,I.hok,I.bare⟩
theorem Inv.after{Q:VK}{u:Value}(I:Inv X pins σ H s)(h:CE X.stack X.prog X.w H s Q u s'):EP X pins σ Q u s':=by obtain⟨v,H',os,bare,un,hok,r,q⟩:=h;obtain⟨G,g,d,t,B⟩:=s';obtain rfl:B=s.os:=os;exact⟨v,H',I.call (h':=G) (g':=g) (d':=d) (t':=t) (ch:=[]) un hok bare (λb z=>absurd z (by simp)),r,q⟩
end
noncomputable def aIS(sp:Sp)(dvs:List V)(E:XK)(t:TA):TE:=λσ H Q=>t σ H λvs H1=>sp (vs++dvs) H1 Q E
noncomputable def aML(C:Addr)(m:Str)(sp:Sp)(dvs:List V)(E:XK)(ta:TE)(t:TA):TE:=λσ H Q=>ta σ H λx H1=>∃a dx fs,x=.ref a/\H1 a=some (.ins C dx fs)/\fs.lookup m=none /\
 t σ H1 λvs H2=>sp (x::(vs++dvs)) H2 Q E
noncomputable def aMM(C:Addr)(sp:Sp)(dvs:List V)(E:XK)(t:TA):TE:=λσ H Q=>t σ H λvs H1=>∀x dx,H1 x=none->H1 dx=none->dx≠x ->
 sp (.ref x::(vs++dvs)) (upd (upd H1 dx (.own x)) x (.ins C dx [])) (λv H2=>v=.non/\Q (.ref x) H2) E
noncomputable def dM(K:Ap)(fd:Dv)(ps:List Str)(ds:List Value):Prop:=
 ∀(s:Ad) (us:List Value),K.In s.heap->(us++ds).length=ps.length->JC s fd ⟨us,[]⟩ (ps.zip (us++ds))
theorem dM.all{K:Ap}{fd:Dv}{ps:List Str}(h:∀us:List Value,us.length=ps.length->IH fd ⟨us,[]⟩=pure (ps.zip us)):dM K fd ps []:=λs us _ B=>by rw[Bd] at B ⊢;exact .of_eq (h us B)
noncomputable def jY(CX:CXT)(X:Cx)(E:XK):Prop:=∀(pins:List (Addr×Obj)) (σ:St) (H:Hp) (s:Ad) (e:Value) (s':Ad),Inv X pins σ H s->CX X.stack H s E e s'->X.xe e s'
section
variable {X:Cx} {CX:CXT} {k:Nat} {f C:Addr} {fd:Dv} {ps:List Str} {sp:Sp} {dvs:List V} {ds:List Value} {E:XK} {x m:Str} {p pos apos:Du} {e o:A6} {es:List A6} {ta:TE} {t:TA}
theorem aAk{pins:List (Addr×Obj)}{σ:St}{H:Hp}{s:Ad}{Q:VK}{us:List Value}{vs:List V}(F:eY X.prog X.w X.K X.mg X.base CX k f fd ps sp)(Z:fS k X.A)(M:dM X.K fd ps ds)(hd:aX dvs ds)(hx:jY CX X E)
 (I:Inv X pins σ H s) (r:aX vs us) (h:sp (vs++dvs) H Q E):As (A5 X.prog X.w) X.A (call (.ref f) us) (EP X pins σ Q) X.xe s:=by
 have G:aX (vs++dvs) (us++ds):=r.append hd;have U:(us++ds).length=ps.length:=by rw[<-G.length];exact F.len _ _ _ _ h
 refine II (DG (F.run X.A X.stack s H ⟨us,[]⟩ (us++ds) (vs++dvs) Q E Z I.env0 (M s us I.kIn U) G h) λr s' B=>?_);cases r with
 | error e=>exact hx pins σ H s e s' I B|ok L=>
  cases L with
  | ret u=>exact I.after B|next=>exact Ce B|brk=>exact Ce B|cont=>exact Ce B
theorem aHh(F:eY X.prog X.w X.K X.mg X.base CX k f fd ps sp)(hr:fS k X.A)(hg:Gl X x)(hm:X.mg x=some (.ref f))(hk:CB X.K (.ref f)=true)(U:dM X.K fd ps ds)(hd:aX dvs ds)(hx:jY CX X E)
 (M:PA X (e::es) t) (B:(x==("__debug__" : Str))=false:=by decide) (Z:AA (e::es) X.env=(false,Ch e X.env)::AA es X.env:=by rfl) (G:(Cd pos (AA es X.env)).any (·.1)=false:=by rfl) :
 PE X (.Call (.Name x p) (e::es) [] pos) (aIS sp dvs E t):=by intro pins s σ H Q I h;refine Bq (oJ I hg hm ?_ B);refine E2 (h₀:=X.base) I.ok.mod.kin hk (thn (M pos pins s σ H _ I h) λus s1 ⟨vs,H1,L,r,q⟩=>⟨L.kIn,?_⟩) Z G;exact aAk F hr U hd hx L r q
theorem aEo(F:eY X.prog X.w X.K X.mg X.base CX k f fd ps sp)(Z:fS k X.A)(L:Gl X x)(U:X.mg x=some (.ref f))(M:CB X.K (.ref f)=true)(G:dM X.K fd ps ds)(hd:aX dvs ds)(hx:jY CX X E)
 (B:(x==("__debug__" : Str))=false:=by decide):PE X (.Call (.Name x p) [] [] pos) (aIS sp dvs E aJS):=by intro pins s σ H Q I h;refine Bq (oJ I L U ?_ B);exact PySem.W.callWith_K0 I.kIn M (aAk (us:=[]) F Z G hd hx I .nil h)
theorem aHi{pl:Kr Bool}(he:PE X o ta)(c:Cls X.K C)(U:xG X.K C m f)(F:eY X.prog X.w X.K X.mg X.base CX k f fd ps sp)(hr:fS k X.A)(hb:dM X.K fd ps ds)(hd:aX dvs ds)(hx:jY CX X E)(ha:PA X (e::es) t)
 (G:AA (e::es) X.env=(false,Ch e X.env)::AA es X.env:=by rfl) (B:(Cd pos (AA es X.env)).any (·.1)=false:=by rfl)
 (ht:Ch (.Call (.Attribute o m apos) (e::es) [] pos) X.env=(do
  let ov<-Ch o X.env
  GH apos.atName
  let (f,first)<-Ft [ov] (HB ov m pl)
  callWith pos f first (Cd pos (AA (e::es) X.env)) (E3 pos (Df [] X.env))):=by rfl) :
 PE X (.Call (.Attribute o m apos) (e::es) [] pos) (aML C m sp dvs E ta t):=by intro pins s σ H Q I h;refine PySem.W.methodCall_KW (pl:=pl) (thn (he pins s σ H _ I h) λu s1 ⟨x,H1,L,rx,a,dx,fs,ex,Z,l,q⟩=>?_) ht;subst ex;obtain rfl:u=AG a:=rx;refine aAe L Z c U l ?_;refine E2 (first:=[.ref a]) (h₀:=X.base) I.ok.mod.kin U.kp (thn (ha pos pins s1 σ H1 _ L q) λus s2 ⟨vs,H2,M,r,q2⟩=>⟨M.kIn,?_⟩) G B;exact aAk (us:=.ref a::us) (vs:=.ref a::vs) F hr hb hd hx M (.cons rfl r) q2
structure Mk (K:Ap) (C f:Addr):Prop where
 makes:Ij K C=true
 init:BW K (.ref C) "__init__" = some (some (.ref f))
 fn:GJ K (.ref f)=true
 kp:CB K (.ref C)=true
theorem aEp{pins:List (Addr×Obj)}{σ:St}{H:Hp}{s:Ad}{Q:VK}{us:List Value}{vs:List V}(M:Mk X.K C f)(F:eY X.prog X.w X.K X.mg X.base CX k f fd ps sp)(hr:fS (k+1) X.A)(hb:dM X.K fd ps ds)(hd:aX dvs ds)
 (hx:jY CX X E) (I:Inv X pins σ H s) (r:aX vs us)
 (h:∀x dx,H x=none->H dx=none->dx≠x->sp (.ref x::(vs++dvs)) (upd (upd H dx (.own x)) x (.ins C dx [])) (λv Z=>v=.non/\Q (.ref x) Z) E) :
 As (A5 X.prog X.w) X.A (call (.ref C) us) (EP X pins σ Q) X.xe s:=by
 have L:=h (s.heap.objs.size+1) s.heap.objs.size (I.hok.fresh (Ec _)) (I.hok.fresh (An _)) (A4 (B3 _));have G:=Inv.made (C:=C) I;have U:aX (V.ref (s.heap.objs.size+1)::(vs++dvs)) (AG (s.heap.objs.size+1)::(us++ds)):=.cons rfl (r.append hd);have hl:(AG (s.heap.objs.size+1)::us++ds).length=ps.length:=by have e:=U.length;rw[F.len _ _ _ _ L] at e;exact e.symm
 refine II (aEm (f:=f) I.kIn M.makes M.init (beq_iff_eq.mp M.fn) (DG (F.run _ X.stack _ _ ⟨AG (s.heap.objs.size+1)::us,[]⟩ (AG (s.heap.objs.size+1)::(us++ds)) _ _ E (hr.make C us [])
  (G.env0.make C us []) (hb _ (AG (s.heap.objs.size+1)::us) G.kIn hl) U L) λr s' B=>?_))
 cases r with
 | error e=>exact hx pins σ _ _ e s' G B|ok fl=>
  cases fl with
  | ret u=>obtain⟨v,H',I3,rv,ev,q3⟩:=G.after B;subst ev;exact⟨rv,⟨V.ref (s.heap.objs.size+1),H',I3,rfl,q3⟩⟩|next=>exact Ce B|brk=>exact Ce B|cont=>exact Ce B
theorem aHj(M:Mk X.K C f)(F:eY X.prog X.w X.K X.mg X.base CX k f fd ps sp)(hr:fS (k+1) X.A)(hg:Gl X x)(hm:X.mg x=some (.ref C))(Z:dM X.K fd ps ds)(hd:aX dvs ds)(hx:jY CX X E)
 (U:PA X (e::es) t) (B:(x==("__debug__" : Str))=false:=by decide) (he:AA (e::es) X.env=(false,Ch e X.env)::AA es X.env:=by rfl) (G:(Cd pos (AA es X.env)).any (·.1)=false:=by rfl) :
 PE X (.Call (.Name x p) (e::es) [] pos) (aMM C sp dvs E t):=by intro pins s σ H Q I h;refine Bq (oJ I hg hm ?_ B);refine E2 (h₀:=X.base) I.ok.mod.kin M.kp (thn (U pos pins s σ H _ I h) λus s1 ⟨vs,H1,L,r,q⟩=>⟨L.kIn,?_⟩) he G;exact aEp M F hr Z hd hx L r q
end
structure lH (N P:List Str) (sc:De):Prop where
 kind:sc.kind=.function
 co:sc.isCoroutine=false
 gen:sc.isGenerator=false
 nd:N.Nodup
 pre:N.take P.length=P
 par:∀x∈P,sc.names.lookup x=some .local\/sc.names.lookup x=some .cell
 nofree:∀y∈sc.names,y.2≠.free
theorem sL{kindOf:Str->Option Ci}{x:Str}:∀{binds:List (Str×Value)} {m:Str->Option Value},(∀v,(x,v)∉binds)->IJ kindOf binds m x=m x
 | [],_,_=>rfl|(n,v)::r,m,h=>by unfold IJ;rw[sL λw B=>h w (Ag _ B)];split;grind;rfl
theorem sM{kindOf:Str->Option Ci}{x:Str}:∀{binds:List (Str×Value)} {m:Str->Option Value},(∀v,(x,v)∉binds)->IK kindOf binds m x=m x
 | [],_,_=>rfl|(n,v)::r,m,h=>by unfold IK;rw[sM λw B=>h w (Ag _ B)];split;rfl;grind
theorem sN{kindOf:Str->Option Ci}{x:Str}{v:Value}:∀{P:List Str} {vs:List Value} {i:Nat} {m:Str->Option Value},P.Nodup->P[i]? = some x->vs[i]? = some v->kindOf x=some .local ->
 IJ kindOf (P.zip vs) m x=some v
 | [],_,_,_,_,h,_,_=>by simp at h|_::_,[],_,_,_,_,h,_=>by simp at h|p::P,w::vs,0,m,nd,h1,h2,hk=>by simp at h1 h2;subst h1;subst h2;show IJ kindOf ((p,w)::P.zip vs) m p=_;unfold IJ;rw[sL λv B=>(Az.mp nd).1 (Ei B).1,if_pos hk];simp|p::P,w::vs,i+1,m,nd,h1,h2,hk=>by show IJ kindOf ((p,w)::P.zip vs) m x=_;unfold IJ;exact sN (i:=i) (Az.mp nd).2 (by simpa using h1) (by simpa using h2) hk
theorem sO{kindOf:Str->Option Ci}{x:Str}{v:Value}:∀{P:List Str} {vs:List Value} {i:Nat} {m:Str->Option Value},P.Nodup->P[i]? = some x->vs[i]? = some v->kindOf x≠some .local ->
 IK kindOf (P.zip vs) m x=some v
 | [],_,_,_,_,h,_,_=>by simp at h|_::_,[],_,_,_,_,h,_=>by simp at h|p::P,w::vs,0,m,nd,h1,h2,hk=>by simp at h1 h2;subst h1;subst h2;show IK kindOf ((p,w)::P.zip vs) m p=_;unfold IK;rw[sM λv B=>(Az.mp nd).1 (Ei B).1,if_neg hk];simp|p::P,w::vs,i+1,m,nd,h1,h2,hk=>by show IK kindOf ((p,w)::P.zip vs) m x=_;unfold IK;exact sO (i:=i) (Az.mp nd).2 (by simpa using h1) (by simpa using h2) hk
noncomputable def start(N:List Str)(vs:List V):St:=vs.map some++Aj (N.length-vs.length) none
noncomputable def xH(CX:CXT)(P:A2)(w:AL)(K:Ap)(mg:Str->Option Value)(base:Heap)(N:List Str)(qual:Str)(scope:De)(f:Addr)(cd:Value)(A:AT)(outer:List JA)(s:Ad)(H:Hp)(E:XK):Cx where
 prog:=P
 w:=w
 K:=K
 mg:=mg
 base:=base
 A:=A.deeper (FM qual scope s.heap.objs.size f cd)
 N:=N
 s₀:=s
 H₀:=H
 env:=FM qual scope s.heap.objs.size f cd
 outer:=outer
 stack:=FM qual scope s.heap.objs.size f cd::outer
 ex:=[]
 calm:=true
 fn:=λ_=>true
 pn:=[]
 xe:=λe s'=>As (A5 P w) (A.deeper (FM qual scope s.heap.objs.size f cd)) (leaving (FM qual scope s.heap.objs.size f cd) e) (λ_ s''=>CX outer H s E e s'') (λe' s''=>CX outer H s E e' s'') s'
theorem xI{sc:De}{n:Nat}{x:Str}(h:sc.names.lookup x=some .cell):∃c,(J7 n sc.names []).lookup x=some c:=by have q:=Fv sc.names n [] (.inl h);exact Option.isSome_iff_exists.mp q
theorem aCX{CX:CXT}{P:A2}{w:AL}{K:Ap}{mg:Str->Option Value}{base:Heap}{N ps:List Str}{qual:Str}{scope:De}{f:Addr}{Z:Value}{A:AT}{outer:List JA}{s s1:Ad}{H:Hp}{E:XK}{us:List Value}{vs:List V}
 (S:lH N ps scope) (hd:A.handled=none) (G:aAj P w K mg base A outer s H) (hl:vs.length=ps.length) (r:aX vs us)
 (x:InCallC s s.heap.objs.size (IJ (FM qual scope s.heap.objs.size f Z).kindOf (ps.zip us) λ_=>none) (J7 (s.heap.objs.size+1) scope.names []) (IK (FM qual scope s.heap.objs.size f Z).kindOf (ps.zip us) λ_=>none) s1) :
 Inv (xH CX P w K mg base N qual scope f Z A outer s H E) [] (start N vs) H s1:=by
 have q0:ps.length<=N.length:=by have:=congrArg Ib S.pre;rw[Be] at this;omega
 obtain⟨h1,tk,rfl,hk⟩:=x.done;have L:∀b:Addr,b∉(xH CX P w K mg base N qual scope f Z A outer s H E).ex:=λb z=>absurd (show b∈([]:List Addr) from z) (by simp);refine⟨⟨G.mod,S.kind,rfl,rfl,An _,λy z c h1 B=>?_,λy I=>?_,λy c _ h=>?_,λ_=>hd,Around.frames_deeper G.frames,.inr ⟨rfl,rfl⟩,λb z=>absurd z (L b),G.bs,G.bsz,λb _ _=>L b,λb z=>absurd z (L b),G.funs,G.frf⟩,
  rfl,G.bare,Un.kept hk,⟨_,x.toInCall.ns,λi y v h1 B h3=>?_⟩,λy c h=>⟨_,x.cell y c h⟩,G.hok.fresh (An _),λy c h=>?_,λp M=>absurd (show p∈([]:List (Addr×Obj)) from M) (by simp),G.hok.kept hk,?_⟩
 exact name_of_addr x.apart (B6 h1) (B6 B);have I:scope.names.lookup y=some .cell\/scope.names.lookup y=some .free:=I;rcases I with I|I;exact xI I;exact absurd rfl (S.nofree _ (B6 I));exact DE (x.above y c (B6 h));have hi:i<vs.length:=by unfold start at B;by_cases hi:i<vs.length;exact hi;rw[A3 (by simpa using hi)] at B;rw[BF] at B;split at B <;> cases B
 have ha:vs[i]? = some v:=by
  unfold start at B;rw[A0 (by simpa using hi),Ar] at B;cases e:vs[i]? with
  | none=>rw[e] at B;cases B|some a=>rw[e] at B;cases B;rfl
 obtain⟨u,hu,rv⟩:=r.get ha;have M:ps[i]? = some y:=by rw[<-S.pre,List.getElem?_take_of_lt (by omega)];exact h1
 have U:ps.Nodup:=by rw[<-S.pre];exact S.nd.sublist (GN _ _)
 refine⟨u,rv,?_⟩;rcases S.par y (List.mem_of_getElem? M) with k|k;exact .inl ⟨k,sN U M hu k⟩;obtain⟨c,e⟩:=xI (n:=s.heap.objs.size+1) k;refine .inr ⟨.inl k,c,e,?_⟩;have q:=x.cell y c e;rw[sO U M hu (by show scope.names.lookup y≠_;rw[k];decide)] at q;exact q;exact G.hok.fresh (DE (x.above y c (B6 h)));unfold start;show _=N.length;rw[D7,Eh,AQ];omega
theorem aMN{CX:CXT}{P:A2}{w:AL}{K:Ap}{mg:Str->Option Value}{base:Heap}{k:Nat}{f:Addr}{name qual:Str}{B:Gf}{body:List BY}{scope:De}{dV kV doc pm cdv ct oc:Value}{an od:Option Addr}
 {osl:Array (Option Value)} {N ps:List Str} {sp:Sp} (lk:K.lookup f=some ⟨oc,od,.func (Fw name qual B body scope dV kV doc pm an cdv ct),osl⟩) (q0:IL K cdv qual=true) (S:lH N ps scope)
 (len:∀vs H Q E,sp vs H Q E->vs.length=ps.length)
 (G:∀(A:AT) (outer:List JA) (s:Ad) (H:Hp) (vs:List V) (Q:VK) (E:XK),fS k (A.deeper (FM qual scope s.heap.objs.size f cdv))->sp vs H Q E ->
  ∃t,PSs (xH CX P w K mg base N qual scope f cdv A outer s H E) body t/\t { nx:=λ_ H'=>Q .non H',rt:=Q } (start N vs) H) :
 eY P w K mg base CX (k+1) f (Fw name qual B body scope dV kV doc pm an cdv ct) ps sp:=by
 refine⟨len,λA outer s H args us vs Q E hr M hb r Z=>?_⟩;have hl:=len _ _ _ _ Z;have KX:K.In s.heap:=M.mod.kin.keeps λb o e=>(M.bs b o e).1;have lim:s.heap.NoLimit:=M.mod.nolimit.keeps λb o e=>(M.bs b o e).1;have L:∀y∈ps.zip us,scope.names.lookup y.1=some .local\/(scope.names.lookup y.1=some .cell/\((J7 (s.heap.objs.size+1) scope.names []).lookup y.1).isSome=true):=λ⟨n,v⟩ hy=>by rcases S.par n (Ei hy).1 with q|q;exact .inl q;exact .inr ⟨q,Fv _ _ _ (.inl q)⟩
 refine codeAny_call_function hr.depth (KX _ _ lk) rfl S.co S.gen rfl (PySem.W.codeRec_of KX q0) (hb _ _ _ _ ?_);refine wpAny_newFunctionEnv_cells S.kind L λenv he s1 x=>?_;subst he;refine⟨lim.keeps x.toInCall.keep,codeAny_func ?_⟩;obtain⟨t,ht,hq⟩:=G A outer s H vs Q E (hr.deeper _) Z;have I:Inv (xH CX P w K mg base N qual scope f cdv A outer s H E) [] (start N vs) H s1:=aCX S hr.hd M hl r x;refine CJ (ht [] s1 (start N vs) H _ I hq) (λfl s' hs=>?_) λe s' hs=>hs;have U:∀{σ':St} {H':Hp} {v:V} {u:Value},Inv (xH CX P w K mg base N qual scope f cdv A outer s H E) [] σ' H' s'->bB v u->Q v H'->CE outer P w H s Q u s':=
  λ{σ' H' v u} J'' rv q=>⟨v,H',J''.os,J''.bare,J''.base,J''.hok,rv,q⟩
 cases fl with
 | ret u=>obtain⟨v,σ',H',J'',rv,q⟩:=hs;exact U J'' rv q|next=>obtain⟨σ',H',J'',q⟩:=hs;exact U (v:=V.non) (u:=Ca) J'' rfl q|brk=>obtain⟨_,_,_,q⟩:=hs;exact Ce q|cont=>obtain⟨_,_,_,q⟩:=hs;exact Ce q
section
variable {X:Cx} {x:Str} {p pos:Du} {e:A6} {es:List A6} {t:TA} {id T:String} {r:List V->Hp->VK->Prop}
noncomputable def tCB(r:List V->Hp->VK->Prop)(t:TA):TE:=λσ H Q=>t σ H λvs H1=>r vs H1 Q
theorem pB(U:fV X (.builtin id) r)(hg:Gl X x)(hm:X.mg x=none)(hv:BC x=some (.builtin id))(M:PA X (e::es) t)(hn:x ≠ "__name__" := by decide)(B:(x==("__debug__" : Str))=false:=by decide)
 (Z:AA (e::es) X.env=(false,Ch e X.env)::AA es X.env:=by rfl) (G:(Cd pos (AA es X.env)).any (·.1)=false:=by rfl):PE X (.Call (.Name x p) (e::es) [] pos) (tCB r t):=by intro pins s σ H Q I h;refine Bq (dY I hg hm hv ?_ hn B);exact B4 (thn (M pos pins s σ H _ I h) λus s1 ⟨vs,H1,L,r1,q1⟩=>U pins s1 σ H1 vs us Q L r1 q1) Z G
theorem sP(U:fV X (.type T) r)(hg:Gl X x)(hm:X.mg x=none)(hv:BC x=some (.type T))(M:PA X (e::es) t)(hn:x ≠ "__name__" := by decide)(B:(x==("__debug__" : Str))=false:=by decide)
 (Z:AA (e::es) X.env=(false,Ch e X.env)::AA es X.env:=by rfl) (G:(Cd pos (AA es X.env)).any (·.1)=false:=by rfl):PE X (.Call (.Name x p) (e::es) [] pos) (tCB r t):=by intro pins s σ H Q I h;refine Bq (dY I hg hm hv ?_ hn B);exact Bv (thn (M pos pins s σ H _ I h) λus s1 ⟨vs,H1,L,r1,q1⟩=>U pins s1 σ H1 vs us Q L r1 q1) Z G
end
end L2
namespace HT
open PySem PyProof.Rows
section
variable {prog:A2} {w:AL} {A:AT} {E:Value->Ad->Prop} {s:Ad}
theorem cat_tup{t b:Addr}{vs ws:List Value}{Q:Value->Ad->Prop}(ht:IsTup s.heap t vs.toArray)(hb:IsTup s.heap b ws.toArray)(hv:vs≠[])
 (h1:ws=[]->Q (.ref t) s) (h2:ws≠[]->Q (.ref s.heap.objs.size) { s with heap:=s.heap.push { cls:=.type "tuple",data:=.seq (vs++ws).toArray } })
 (q1:vs.length+ws.length<=sizeLine):As (A5 prog w) A (Cp .Add (.ref t) (.ref b)) Q E s:=by
 obtain⟨⟨cls,dd,data,sl⟩,U,hc,n,hd⟩:=id ht;obtain⟨⟨q2,G,q0,M⟩,B,I,n2,L⟩:=id hb;simp only at hc hd I L;subst hc hd I L;have e:vs.toArray++ws.toArray=(vs++ws).toArray:=by simp
 by_cases Z:ws=[]
 exact Fx ⟨_,U,rfl⟩ ⟨_,B,rfl⟩ Fb Go DH DB (Dw _ _)
  (tuple_addW1 t b vs.toArray ws.toArray n n2 dd G sl M (by simpa using hv) (by simp[Z])) ⟨U,B,h1 Z⟩
 refine Fx ⟨_,U,rfl⟩ ⟨_,B,rfl⟩ Fb Go DH DB (Dw _ _)
  (tuple_addW2 t b vs.toArray ws.toArray n n2 dd G sl M (by simpa using hv) (by simpa using Z) (by rw[Ah,Ah];exact q1)) ⟨U,B,?_⟩
 rw[e];exact h2 Z
noncomputable def sIx(n d:Nat):Option Int->Nat
 | none=>d|some v=>if v<0 then (v+(n:Int)).toNat else min v.toNat n
theorem aJT(n d:Nat)(hd:d<=n)(o:Option Int):sIx n d o<=n:=by
 cases o with
 | none=>exact hd|some v=>show(if v<0 then (v+(n:Int)).toNat else min v.toNat n)<=n;by_cases B:v<0;rw[if_pos B];omega;rw[if_neg B];exact Nat.min_le_right _ _
theorem aBs(v:Int)(n d:Nat):(if v<0 then max (v+(n:Int)) 0 else min v (n:Int))=((sIx n d (some v):Nat):Int):=by
 show(if v<0 then max (v+(n:Int)) 0 else min v (n:Int))=(((if v<0 then (v+(n:Int)).toNat else min v.toNat n):Nat):Int)
 by_cases B:v<0;simp only[if_pos B];omega;simp only[if_neg B];omega
theorem aAl(lo hi:Option Int)(n:Nat):Dm lo hi 1 (n:Int)=(((sIx n 0 lo:Nat):Int),((sIx n n hi:Nat):Int)):=by
 have B:¬ ((1:Int)<0):=by omega
 unfold Dm;simp only[B,if_false];refine JX ?_ ?_;cases lo with
 | none=>rfl|some v=>exact aBs v n 0
 cases hi with
 | none=>rfl|some v=>exact aBs v n n
theorem aAm(i j:Nat):Cw (i:Int) (j:Int) 1=j-i:=by
 unfold Cw;have B:(1:Int)>0:=by omega
 simp only[B,if_true,Int.ediv_one];split <;> omega
theorem pC{v:Value}{o:Option Int}{Q:Option Int->Ad->Prop}(p:Fy v o)(h:Q o s):As (A5 prog w) A (Ik v) Q E s:=by
 cases p with
 | none=>exact IM h|int i t=>exact slicePart_int h
theorem sliceApplied_gen{sl:Addr}{I L:Value}{lo hi:Option Int}{n:Nat}{Q:Int×Int×Nat->Ad->Prop}(hs:s.heap.IsSliceOf sl I L .none)(pl:Fy I lo)(U:Fy L hi)
 (h:Q (((sIx n 0 lo:Nat):Int),1,sIx n n hi-sIx n 0 lo) s):As (A5 prog w) A (E4 (.ref sl) (pure (n:Int))) Q E s:=by obtain⟨os,G,M,B⟩:=id hs;unfold E4 Jn;refine Aa (Aa (Bc G B (x:=I) rfl (Aa (Bc G B (x:=L) rfl (Aa (Bc G B (x:=.none) rfl (Ae ?_)))))));refine Aa (IM ?_);show As _ _ (if ((1:Int)==0)=true then _ else _) _ _ s;rw[if_neg (by decide)];refine Aa (pC pl (Aa (pC U (Aa (Ae ?_)))));show As _ _ (match Dm lo hi 1 (n:Int) with|(lo,hi)=>pure (lo,(1:Int),Cw lo hi 1)) _ _ s;rw[aAl lo hi n];show As _ _ (pure (((sIx n 0 lo:Nat):Int),(1:Int),Cw ((sIx n 0 lo:Nat):Int) ((sIx n n hi:Nat):Int) 1)) _ _ s;rw[aAm];exact Ae h
theorem aEq(xs:Array Value)(i k:Nat):((Au k).filterMap λ(m:Nat)=>xs[((i:Int)+(m:Int)*1).toNat]?).toArray=((xs.toList.drop i).take k).toArray:=by
 have e:(λ(m:Nat)=>xs[((i:Int)+(m:Int)*1).toNat]?)=λm=>xs[i+m]? := by
  funext m
  have:((i:Int)+(m:Int)*1).toNat=i+m:=by omega
  rw[this]
 rw[e];have:=pick_run xs i k;rw[List.filterMap_map] at this;have B:((λx=>xs[x]?)∘λx=>i+x)=λm=>xs[i+m]? := rfl;rw[B] at this;rw[this]
theorem getItem_tuple_cut{t sl:Addr}{items:Array Value}{U Z:Value}{lo hi:Option Int}{Q:Value->Ad->Prop}(ht:IsTup s.heap t items)(hs:s.heap.IsSliceOf sl U Z .none)(pl:Fy U lo)(pu:Fy Z hi)
 (hw:¬ (sIx items.size 0 lo=0/\sIx items.size items.size hi=items.size))
 (h:Q (.ref s.heap.objs.size) { s with heap:=s.heap.push { cls:=.type "tuple",data:=.seq ((items.toList.drop (sIx items.size 0 lo)).take (sIx items.size items.size hi-sIx items.size 0 lo)).toArray } })
 (q3:items.size<=sizeLine):As (A5 prog w) A (Fz (.ref t) (.ref sl)) Q E s:=by
 have B:sizeOk (.seq ((items.toList.drop (sIx items.size 0 lo)).take (sIx items.size items.size hi-sIx items.size 0 lo)).toArray):=by show((items.toList.drop (sIx items.size 0 lo)).take (sIx items.size items.size hi-sIx items.size 0 lo)).toArray.size<=sizeLine;rw[Ah,Be,DT,AH];omega
 have hj:sIx items.size items.size hi<=items.size:=aJT _ _ (An _) hi;obtain⟨os,M,I,q0⟩:=id hs;have G:s.TypeIs (.ref sl) "slice" := ⟨os,M,I⟩
 unfold Fz
 try with_reducible refine Br ?_
 first|refine Aa (Ae ?_)|skip
 refine Aa (GO ht.typeIs (by decide) ?_);refine Aa (AU (name:=Str.ofString "__getitem__") ht.typeIs Bj
  (AZ Bj ht.typeIs Gh ?_ (Gw _ _)))
 show As _ _ (E5 (.ref t) >>= _) _ _ s;refine Aa (Jr ht ?_);refine Aa (DI G ?_);rw[if_pos (by decide)];refine Aa (sliceApplied_gen hs pl pu ?_);have L:¬ ((((sIx items.size 0 lo:Nat):Int)==0&&(1:Int)==1&&(sIx items.size items.size hi-sIx items.size 0 lo)==items.size)=true):=by intro q;rw[HC,HC] at q;have q1:((sIx items.size 0 lo:Nat):Int)=0:=eq_of_beq q.1.1;have q2:sIx items.size items.size hi-sIx items.size 0 lo=items.size:=eq_of_beq q.2;exact hw ⟨by omega,by omega⟩
 show As _ _ (if (((sIx items.size 0 lo:Nat):Int)==0&&(1:Int)==1&&(sIx items.size items.size hi-sIx items.size 0 lo)==items.size)=true then _ else _) _ _ s;rw[if_neg L,aEq]
 first
  | exact Aa (m:=C8 _) (Bm (Ae ⟨_,rfl,Ae h⟩) B)
  | exact Aa (m:=C8 _) (Bm (Aa (Ae (Ae ⟨_,rfl,Ae h⟩))) B)
  | exact Aa (Aa (m:=C8 _) (Bm (Ae (Ae ⟨_,rfl,Ae h⟩)) B))
  | exact Aa (Aa (m:=C8 _) (Bm (Ae ⟨_,rfl,Ae h⟩) B))
end
end HT
namespace L2
open PySem PySem.Spec PyProof.Rows
abbrev TO:=St->Hp->(Option Int->Hp->Prop)->Prop
noncomputable def PO(X:Cx)(e:Option A6)(t:TO):Prop:=
 ∀(pins:List (Addr×Obj)) (s:Ad) (σ:St) (H:Hp) (Q:Option Int->Hp->Prop),Inv X pins σ H s->t σ H Q ->
  As (A5 X.prog X.w) X.A (evalPart e X.env) (λu s'=>∃o H',Inv X pins σ H' s'/\Fy u o/\Q o H') X.xe s
noncomputable def aHk:TO:=λ_ H Q=>Q none H
noncomputable def aMO(t:TE):TO:=λσ H Q=>t σ H λx H1=>∃i,x=.int i/\Q (some i) H1
section
variable {X:Cx} {e:A6} {te:TE} {lo hi:Option A6} {tl th:TO} {pos p2:Du}
theorem aHl:PO X none aHk:=by intro pins s σ H Q I h;rw[Js];exact Ae ⟨none,H,I,.none,h⟩
theorem aHm(h:PE X e te):PO X (some e) (aMO te):=by intro pins s σ H Q I G;rw[evalPart_some];refine thn (h pins s σ H _ I G) λu s1 ⟨x,H1,B,M,L⟩=>?_;obtain⟨i,rfl,q⟩:=L;obtain⟨t,rfl⟩:=M;exact⟨some i,H1,B,.int i t,q⟩
noncomputable def SlR(X:Cx)(r:V->Option Int->Option Int->Hp->VK->Prop):Prop:=
 ∀(pins:List (Addr×Obj)) (s:Ad) (σ:St) (H:Hp) (x:V) (v vl vu:Value) (lo hi:Option Int) (sl:Addr) (Q:VK),Inv X pins σ H s->bB x v->s.heap.IsSliceOf sl vl vu .none->Fy vl lo->Fy vu hi->r x lo hi H Q ->
  ∃T id,typeLookup (.type T) "__getitem__" = pure (some (.builtin id))/\s.TypeIs v T/\As (A5 X.prog X.w) X.A (Fz v (.ref sl)) (EP X pins σ Q) X.xe s
theorem SlR.or{r G:V->Option Int->Option Int->Hp->VK->Prop}(h:SlR X r)(h':SlR X G):SlR X (λx lo hi H Q=>r x lo hi H Q\/G x lo hi H Q):=by intro pins s σ H x v M U lo hi sl Q I L hs pl B q;rcases q with q|q;exact h pins s σ H x v M U lo hi sl Q I L hs pl B q;exact h' pins s σ H x v M U lo hi sl Q I L hs pl B q
noncomputable def tSl(r:V->Option Int->Option Int->Hp->VK->Prop)(te:TE)(tl th:TO):TE:=λσ H Q=>te σ H λx H1=>tl σ H1 λl H2=>th σ H2 λu H3=>r x l u H3 Q
theorem aEr{r:V->Option Int->Option Int->Hp->VK->Prop}(hr:SlR X r)(he:PE X e te)(hl:PO X lo tl)(hu:PO X hi th):PE X (.Subscript e (.Slice lo hi none p2) pos) (tSl r te tl th):=by intro pins s σ H Q I h;refine Subscript_ (thn (he pins s σ H _ I h) λv s1 ⟨x,H1,Z,r1,q1⟩=>?_);refine wpAny_Slice (thn (hl pins s1 σ H1 _ Z q1) λG s2 ⟨l,U,I2,pl,q2⟩=>thn (hu pins s2 σ U _ I2 q2) λL B ⟨u,M,I3,pu,q3⟩=>?_);rw[Js];refine Ae ?_;have I4:Inv X pins σ M { B with heap:=B.heap.push { cls:=.type "slice",data:=.fields #[G,L,.none] } }:=I3.kept (t':=B.toks) λb ob q=>Ab _ q;obtain⟨T,id,hT,ht,hg⟩:=hr pins { B with heap:=B.heap.push { cls:=.type "slice",data:=.fields #[G,L,.none] } } σ M x v G L l u B.heap.objs.size Q I4 r1 (Kt ..) pl pu q3;show As (A5 X.prog X.w) X.A (Jt e (.Slice lo hi none p2) v (.ref B.heap.objs.size)) (EP X pins σ Q) X.xe { B with heap:=B.heap.push { cls:=.type "slice",data:=.fields #[G,L,.none] } };exact tail_any (ops:=[.ref B.heap.objs.size,v]) ht hT hg (by with_unfolding_all rfl)
noncomputable def xJ(xs:List V)(lo hi:Option Int):List V:=(xs.drop (HT.sIx xs.length 0 lo)).take (HT.sIx xs.length xs.length hi-HT.sIx xs.length 0 lo)
theorem nP(xs:List V)(lo hi:Option Int):(xJ xs lo hi).length<=xs.length:=by unfold xJ;rw[Be,DT];omega
noncomputable def aEs(K:Ap):V->Option Int->Option Int->Hp->VK->Prop:=λx lo hi H Q=>∃a xs,x=.ref a/\SqT K H a xs /\
 ¬ (HT.sIx xs.length 0 lo=0/\HT.sIx xs.length xs.length hi=xs.length)/\∀p,H p=none->Q (.ref p) (upd H p (.tup (xJ xs lo hi)))
theorem aJU:SlR X (aEs X.K):=by
 intro pins s σ H x v vl vu lo hi sl Q I Z hs pl U h;obtain⟨a,xs,rfl,M,L,q⟩:=h;cases Z;obtain⟨G,r,ht,hz⟩:=I.tuple M;have B:G.toArray.size=xs.length:=by rw[Ah];exact r.length.symm
 refine⟨"tuple",_,Bj.lookup,ht.typeIs,?_⟩;refine HT.getItem_tuple_cut ht hs pl U (by rw[B];exact L) ?_ (by rw[B];exact hz);rw[B];refine⟨.ref s.heap.objs.size,_,I.laid (t':=s.toks) (o:=.tup (xJ xs lo hi)) (λb ob q=>Ab _ q) (An _) ?_,rfl,q _ (I.hok.fresh (An _))⟩;exact⟨AW (nP xs lo hi) hz,_,(r.drop (HT.sIx xs.length 0 lo)).take (HT.sIx xs.length xs.length hi-HT.sIx xs.length 0 lo),HD _ _⟩
noncomputable def aMP(K:Ap):R2:=λx y H Q=>∃a b xs ys,x=.ref a/\y=.ref b/\SqT K H a xs/\SqT K H b ys/\xs≠[]/\xs.length+ys.length<=sizeLine /\
 (ys=[]->Q (.ref a) H)/\(ys≠[]->∀p,H p=none->Q (.ref p) (upd H p (.tup (xs++ys))))
theorem aX.nil_iff{xs:List V}{us:List Value}(r:aX xs us):us=[]↔xs=[]:=by
 cases r with
 | nil=>simp|cons _ _=>simp
theorem aHn:OpR X (Cp .Add) (aMP X.K):=by intro pins s σ H x y v u Q I rx ry h;obtain⟨a,b,xs,ys,rfl,rfl,M,U,Z,hz,q1,q2⟩:=h;cases rx;cases ry;obtain⟨q0,G,p1,_⟩:=I.tuple M;obtain⟨L,B,p2,_⟩:=I.tuple U;refine HT.cat_tup p1 p2 (λz=>Z (G.nil_iff.mp z)) (λz=>⟨.ref a,H,I,rfl,q1 (B.nil_iff.mp z)⟩) (λz=>?_) (by rw[<-G.length,<-B.length];exact hz);refine⟨.ref s.heap.objs.size,_,I.laid (t':=s.toks) (o:=.tup (xs++ys)) (λb ob q=>Ab _ q) (An _) ?_,rfl,q2 (λw=>z (B.nil_iff.mpr w)) _ (I.hok.fresh (An _))⟩;exact⟨by rw[D7];exact hz,_,G.append B,HD _ _⟩
end
noncomputable def ixN(n:Nat)(i:Int):Option Nat:=if 0<=i then (if i<n then some i.toNat else none) else if -(n:Int)<=i then some (i+n).toNat else none
noncomputable def atI{α:Type}(xs:List α)(i:Int):Option α:=(ixN xs.length i).bind λj=>xs[j]?
theorem aBt{n:Nat}{i:Int}{j:Nat}(h:ixN n i=some j):seqIndex? i n=some j/\j<n/\-(n:Int)<=i/\i<n:=by unfold ixN at h;by_cases G:0<=i;rw[if_pos G] at h;by_cases B:i<n;rw[if_pos B] at h;have e:i.toNat=j:=Ao h;exact⟨by rw[Ic G B,e],by omega,by omega,B⟩;rw[if_neg B] at h;cases h;rw[if_neg G] at h;by_cases B:-(n:Int)<=i;rw[if_pos B] at h;have e:(i+n).toNat=j:=Ao h;exact⟨by rw[GP (by omega) B,e],by omega,B,by omega⟩;rw[if_neg B] at h;cases h
theorem uN{α:Type}{xs:List α}{i:Int}{v:α}(h:atI xs i=some v):∃j,seqIndex? i xs.length=some j/\xs[j]? = some v/\j<xs.length/\-(xs.length:Int)<=i/\i<xs.length:=by
 unfold atI at h;cases e:ixN xs.length i with
 | none=>rw[e] at h;cases h|some j=>rw[e] at h;obtain⟨B,G,I,L⟩:=aBt e;exact⟨j,B,h,G,I,L⟩
noncomputable def aBu(b:A6):Prop:=∀o i,JY b false o i=operate [o,i] (Fz o i)
noncomputable def IxR(X:Cx)(r:R2):Prop:=
 ∀(value slice:A6) (pins:List (Addr×Obj)) (s:Ad) (σ:St) (H:Hp) (x y:V) (v u:Value) (Q:VK),Inv X pins σ H s->bB x v->bB y u->r x y H Q ->
  JY slice false v u=operate [v,u] (Fz v u)->As (A5 X.prog X.w) X.A (Jt value slice v u) (EP X pins σ Q) X.xe s
noncomputable def MtR(X:Cx)(id:String)(r:V->List V->Hp->VK->Prop):Prop:=
 ∀(pins:List (Addr×Obj)) (s:Ad) (σ:St) (H:Hp) (x:V) (xs:List V) (v:Value) (us:List Value) (Q:VK),Inv X pins σ H s->bB x v->aX xs us->r x xs H Q ->
  As (A5 X.prog X.w) X.A (call (.builtin id) (v::us)) (EP X pins σ Q) X.xe s
section
variable {X:Cx} {a b:A6} {ta tb:TE} {pos:Du}
theorem IxR.or{r L:R2}(h:IxR X r)(h':IxR X L):IxR X (λx y H Q=>r x y H Q\/L x y H Q):=by intro G B pins s σ H x y v u Q I M U q hs;rcases q with q|q;exact h G B pins s σ H x y v u Q I M U q hs;exact h' G B pins s σ H x y v u Q I M U q hs
theorem xK{r:R2}(U:IxR X r)(L:PE X a ta)(M:PE X b tb)(hs:aBu b):PE X (.Subscript a b pos) (tOp r ta tb):=by intro pins s σ H Q I h;exact Subscript_ (aJH L M I h λv u s2 x y B G Z ry q=>U a b pins s2 σ B x y v u Q G Z ry q (hs _ _))
noncomputable def aJV(K:Ap):R2:=λx y H Q=>∃p xs i v,x=.ref p/\y=.int i/\SqL K H p xs/\atI xs i=some v/\Q v H
noncomputable def aMQ(K:Ap):R2:=λx y H Q=>∃p xs i v,x=.ref p/\y=.int i/\SqT K H p xs/\atI xs i=some v/\Q v H
noncomputable def aMR:R2:=λx y H Q=>∃z i c,x=.str z/\y=.int i/\z.length<=sizeLine/\atI z.cps.toList i=some c/\Q (.str ⟨#[c]⟩) H
theorem lI:IxR X (aJV X.K):=by
 intro q0 Z pins s σ H x y v u Q I rx ry h hs;obtain⟨p,xs,i,z,rfl,rfl,hq,he,q⟩:=h;cases rx;obtain⟨t,rfl⟩:=ry;obtain⟨M,r,pl,hz⟩:=I.list hq;obtain⟨j,G,h2,h3,h4,h5⟩:=uN he;obtain⟨w,ew,U⟩:=r.get h2;have hl:=r.length;have hn:=jX;have B:EP X pins σ Q w s:=⟨z,H,I,U,q⟩
 by_cases h0:0<=i;have L:i.toNat=j:=by rw[Ic h0 h5] at G;exact Ao G
 exact item_listR pl.isList h0 (by omega) (by rw[L];simpa using ew) B hs;have L:(i+(M.toArray.size:Int)).toNat=j:=by rw[GP (by omega) h4] at G;rw[Ah,<-hl];exact Ao G
 exact F0 (x:=w) pl.isList.typeIs GQ.lookup
  (wpAny_getItem_list_neg (Q:=λr s'=>r=w/\EP X pins σ Q r s') pl.isList (by omega) (by rw[Ah] <;> omega) (by omega) (by rw[L];simpa using ew) ⟨rfl,B⟩) hs
theorem aJW:IxR X (aMQ X.K):=by
 intro M L pins s σ H x y v u Q I rx ry h hs;obtain⟨p,xs,i,z,rfl,rfl,hq,he,q⟩:=h;cases rx;obtain⟨t,rfl⟩:=ry;obtain⟨q0,r,pl,hz⟩:=I.tuple hq;obtain⟨j,Z,h2,h3,h4,h5⟩:=uN he;obtain⟨w,U,G⟩:=r.get h2;have hl:=r.length;have hn:=jX;have B:EP X pins σ Q w s:=⟨z,H,I,G,q⟩
 exact F0 (x:=w) pl.typeIs slot_tuple_getitem.lookup
  (getItem_tuple (j:=j) (Q:=λr s'=>r=w/\EP X pins σ Q r s') pl (by omega) (by omega) (by rw[Ah,<-hl];exact Z) (by simpa using U) ⟨rfl,B⟩) hs
theorem aJX:IxR X aMR:=by
 intro G B pins s σ H x y v u Q I rx ry h hs;obtain⟨z,i,c,rfl,rfl,hz,he,q⟩:=h;obtain⟨t,rfl⟩:=rx;obtain⟨t',rfl⟩:=ry;obtain⟨j,L,Z,h3,h4,h5⟩:=uN he;have hl:z.cps.toList.length=z.length:=by simp[IN]
 rw[hl] at L h4 h5;have hn:=jX;exact tail_any (typeIs_str s z t) HE.lookup (getItem_str (c:=c) (by
  have M:decide (i < -(2 ^ 63:Int))=false:=Aw (by omega);have U:decide (i ≥ 2 ^ 63)=false:=Aw (by omega);rw[M,U,ET]) (by rw[L];simpa using Z) ⟨.str ⟨#[c]⟩,H,I.tok _,⟨_,rfl⟩,q⟩) hs
noncomputable def rIx(K:Ap):R2:=λx y H Q=>aJV K x y H Q\/aMQ K x y H Q\/aMR x y H Q
theorem aJY:IxR X (rIx X.K):=lI.or (aJW.or aJX)
theorem aAn(B:List Value)(n j:Nat)(u:Value):Bt (·.setIfInBounds j u) { cls:=.type "list",data:=.seq B.toArray n }={ cls:=.type "list",data:=.seq (B.set j u).toArray n }:=by simp[Bt]
theorem Inv.lst{pins:List (Addr×Obj)}{σ:St}{H:Hp}{s:Ad}{p:Addr}{xs:List V}(I:Inv X pins σ H s)(h:H p=some (.lst xs)) :
 ∃(B:List Value) (n:Nat),aX xs B/\s.heap.get? p=some { cls:=.type "list",data:=.seq B.toArray n }/\xs.length<=sizeLine:=by obtain⟨z,B,n,r,e⟩:=I.hok p _ h;exact⟨B,n,r,e,z⟩
theorem Inv.lstUpd{pins:List (Addr×Obj)}{σ:St}{H:Hp}{s:Ad}{p:Addr}{xs G:List V}{B its':List Value}{n n':Nat}{f:Obj->Obj}(I:Inv X pins σ H s)(h:H p=some (.lst xs))
 (U:s.heap.get? p=some { cls:=.type "list",data:=.seq B.toArray n }) (L:f { cls:=.type "list",data:=.seq B.toArray n }={ cls:=.type "list",data:=.seq its'.toArray n' }) (r:aX G its') (hz:G.length<=sizeLine) (t:Nat) :
 Inv X pins σ (upd H p (.lst G)) { s with heap:=s.heap.update p f,toks:=t }:=by
 have e:(s.heap.update p f).get? p=some { cls:=.type "list",data:=.seq its'.toArray n' }:=by rw[CU f U (by rw[L] <;> rfl),L]
 refine I.write (x:=p) (e:=p) (by rw[h];trivial) (.inl rfl) (λb u M q=>(CL _ _ (Dj M)).trans q) ⟨_,e⟩ ?_;exact⟨hz,its',n',r,e⟩
noncomputable def aMS:V->V->V->Hp->(Hp->Prop)->Prop:=λo i v H Q=>∃p xs k j,o=.ref p/\i=.int k/\H p=some (.lst xs)/\ixN xs.length k=some j/\Q (upd H p (.lst (xs.set j v)))
theorem xL:aMx X aMS:=by
 intro pins s σ H o i v ov iv u Q I ro ri rv h;obtain⟨p,xs,k,j,rfl,rfl,hp,hj,q⟩:=h;cases ro;obtain⟨t,rfl⟩:=ri;obtain⟨B,n,r,U,hz⟩:=I.lst hp;obtain⟨G,h2,h3,h4⟩:=aBt hj;have M:=r.length;have hn:=jX;have Z:Inv X pins σ (upd H p (.lst (xs.set j v))) { s with heap:=s.heap.update p (Bt (·.setIfInBounds j u)) }:=
  I.lstUpd hp U (aAn B n j u) (r.set rv j) (by rw[A1];exact hz) s.toks
 by_cases h0:0<=k;have L:k.toNat=j:=by rw[Ic h0 h4] at G;exact Ao G
 exact PySem.W.ki_setAt U h0 (by omega) (by rw[Ah,<-M];exact h4) (by rw[L];exact⟨_,Z,q⟩);have L:(k+(B.toArray.size:Int)).toNat=j:=by rw[GP (by omega) h3] at G;rw[Ah,<-M];exact Ao G
 exact PySem.W.ki_setBack U (by omega) (by rw[Ah,<-M];exact h3) (by omega) (by rw[L];exact⟨_,Z,q⟩)
theorem uO(lo hi:Option Int)(n:Nat):(DC lo hi none n).1=((HT.sIx n 0 lo:Nat):Int)/\(DC lo hi none n).2.1=((HT.sIx n n hi:Nat):Int)/\(DC lo hi none n).2.2=1:=by
 refine⟨?_,?_,rfl⟩;cases lo with
 | none=>simp[DC,HT.sIx]|some i=>simp only[DC,HT.sIx,Fc,show(1:Int)>0 by decide,if_true];by_cases h:i<0;simp only[h,if_true] <;> omega;simp only[h,if_false] <;> omega
 cases hi with
 | none=>simp[DC,HT.sIx]|some i=>simp only[DC,HT.sIx,Fc,show(1:Int)>0 by decide,if_true];by_cases h:i<0;simp only[h,if_true] <;> omega;simp only[h,if_false] <;> omega
theorem rW(B:List Value)(lo hi:Option Int):slicePick B.toArray lo hi none=((B.drop (HT.sIx B.length 0 lo)).take (HT.sIx B.length B.length hi-HT.sIx B.length 0 lo)).toArray:=by obtain⟨G,I,L⟩:=uO lo hi B.toArray.size;unfold slicePick;rw[G,I,L];simp only[sliceRange_one,pick_run,Ah] <;> rfl
noncomputable def aEt(K:Ap):V->Option Int->Option Int->Hp->VK->Prop:=λx lo hi H Q=>∃a xs,x=.ref a/\SqL K H a xs/\∀p,H p=none->Q (.ref p) (upd H p (.lst (xJ xs lo hi)))
theorem aHo:SlR X (aEt X.K):=by intro pins s σ H x v vl vu lo hi sl Q I U hs pl M h;obtain⟨a,xs,rfl,G,q⟩:=h;cases U;obtain⟨L,r,ht,hz⟩:=I.list G;have B:=r.length;refine⟨"list",_,GQ.lookup,ht.isList.typeIs,?_⟩;refine wpAny_getItem_list_slice ht.isList hs pl M .none (by simp) ?_ (by rw[Ah] <;> omega);rw[rW,<-B];refine⟨.ref s.heap.objs.size,_,I.laid (t':=s.toks) (o:=.lst (xJ xs lo hi)) (λb Z q=>Ab _ q) (An _) ?_,rfl,q _ (I.hok.fresh (An _))⟩;exact⟨AW (nP xs lo hi) hz,_,0,(r.drop (HT.sIx xs.length 0 lo)).take (HT.sIx xs.length xs.length hi-HT.sIx xs.length 0 lo),Al _ rfl⟩
theorem uP:OpR X (BP .NotIn) (λx y H Q=>∃i j,x=.str i/\y=.str j/\Q (.bl (!(!(CA j i 0 j.length 1).isEmpty))) H):=by intro pins s σ H x y v u Q I B G h;obtain⟨i,j,rfl,rfl,q⟩:=h;obtain⟨t,rfl⟩:=B;obtain⟨t',rfl⟩:=G;exact notIn_str ⟨.bl _,H,I,rfl,q⟩
theorem uQ:fV X (.builtin "len") (λxs H Q=>∃p G,xs=[.ref p]/\(SqL X.K H p G\/SqT X.K H p G)/\Q (.int G.length) H):=by intro pins s σ H xs us Q I r h;obtain⟨p,G,rfl,L,q⟩:=h;obtain⟨u,rfl,Z⟩:=xE r;cases Z;have hn:=jX;rcases L with L|L;obtain⟨M,U,pl,hz⟩:=I.list L;have B:=U.length;exact Calls.call_len_list pl.isList (by simp only[Ah] <;> omega) ⟨.int G.length,H,I.tok _,⟨s.toks+1,by rw[Ah,B]⟩,q⟩;obtain⟨M,U,pl,hz⟩:=I.tuple L;have B:=U.length;exact len_tuple pl (by simp only[Ah] <;> omega) ⟨.int G.length,H,I.tok _,⟨s.toks+1,by rw[Ah,B]⟩,q⟩
theorem uR:fV X (.builtin "len") (λxs H Q=>∃z,xs=[.str z]/\z.length<=sizeLine/\Q (.int z.length) H):=by intro pins s σ H xs us Q I r h;obtain⟨z,rfl,hz,q⟩:=h;obtain⟨u,rfl,t,rfl⟩:=xE r;have B:=jX;exact len_str (by omega) ⟨.int z.length,H,I.tok _,⟨_,rfl⟩,q⟩
theorem fV.or{f:Value}{r B:List V->Hp->VK->Prop}(h:fV X f r)(h':fV X f B):fV X f (λxs H Q=>r xs H Q\/B xs H Q):=by intro pins s σ H xs us Q I G q;rcases q with q|q;exact h pins s σ H xs us Q I G q;exact h' pins s σ H xs us Q I G q
theorem uS:fV X (.type "list") (λxs H Q=>∃p M,xs=[.ref p]/\(SqL X.K H p M\/SqT X.K H p M)/\∀l,H l=none->Q (.ref l) (upd H l (.lst M))):=by
 intro pins s σ H xs us Q I r h;obtain⟨p,M,rfl,hq,q⟩:=h;obtain⟨u,rfl,rx⟩:=xE r;cases rx;have U:∀(B:List Value),aX M B->M.length<=sizeLine->∀(h':Heap) (G:Nat),(∀b o',s.heap.get? b=some o'->h'.get? b=some o') ->
  h'.get? s.heap.objs.size=some { cls:=.type "list",dict:=none,data:=.seq B.toArray G,slots:=#[] }->EP X pins σ Q (.ref s.heap.objs.size) { s with heap:=h' }:=λB L hz h' G kp e=>
  ⟨.ref s.heap.objs.size,_,I.laid (t':=s.toks) kp (An _) (show eJ X.prog X.w _ h' _ (.lst M) from⟨hz,B,G,L,e⟩),rfl,q _ (I.hok.fresh (An _))⟩
 rcases hq with hq|hq;obtain⟨B,L,pl,hz⟩:=I.list hq;have Z:=L.length;obtain⟨o,ho,hc,n,hd⟩:=pl.isList;exact Ju p (.inl rfl) ho hc hd (λh' G kp e=>U B L hz h' G kp e) (by simp only[Ah] <;> omega);obtain⟨B,L,pl,hz⟩:=I.tuple hq;have Z:=L.length;obtain⟨o,ho,hc,n,hd⟩:=pl;exact Ju p (.inr rfl) ho hc hd (λh' G kp e=>U B L hz h' G kp e) (by simp only[Ah] <;> omega)
theorem rX:fV X (.type "tuple") (λxs H Q=>∃p G,xs=[.ref p]/\((SqL X.K H p G/\∀l,H l=none->Q (.ref l) (upd H l (.tup G)))\/(SqT X.K H p G/\Q (.ref p) H))):=by
 intro pins s σ H xs us Q I r h;obtain⟨p,G,rfl,h⟩:=h;obtain⟨u,rfl,rx⟩:=xE r;cases rx;rcases h with⟨L,q⟩|⟨L,q⟩
 obtain⟨B,M,pl,hz⟩:=I.list L;have Z:=M.length;refine call_tuple_list pl.isList (λh' kp=>?_) (by simp only[Ah] <;> omega);have U:Inv X pins σ H { s with heap:=h' }:=I.kept (t':=s.toks) kp;have I2:Inv X pins σ (upd H h'.objs.size (.tup G)) { s with heap:=h'.push { cls:=.type "tuple",data:=.seq B.toArray } }:=
  U.laid (t':=s.toks) (λb o e=>Ab _ e) (An _) (show eJ X.prog X.w _ _ _ (.tup G) from⟨hz,B,M,HD _ _⟩)
 exact⟨.ref h'.objs.size,_,I2,rfl,q _ (U.hok.fresh (An _))⟩;obtain⟨B,M,pl,hz⟩:=I.tuple L;exact call_tuple_same pl ⟨.ref p,H,I,rfl,q⟩
noncomputable def tyV(K:Ap)(T:String)(x:V)(H:Hp):Prop:=match x with
 | .str _=>T = "str"|.int _=>T = "int"|.ref p=>(T = "list" /\ ∃xs,SqL K H p xs)\/(T = "tuple" /\ ∃o,K.lookup p=some o/\o.cls=.type "tuple" /\ o.dict=none) \/
  (T = "dict" /\ ((∃kvs,H p=some (.dK kvs))\/∃kvs,H p=some (.dT kvs)))\/(T = "set" /\ ∃S n,H p=some (.set S n))
 | _=>False
theorem aJZ{pins:List (Addr×Obj)}{σ:St}{H:Hp}{s:Ad}{T:String}{x:V}{v:Value}(I:Inv X pins σ H s)(r:bB x v)(ty:tyV X.K T x H) :
 s.TypeIs v T/\∀a,v=.ref a->∃L,s.heap.get? a=some L/\L.dict=none:=by
 cases x with
 | str z=>obtain⟨t,rfl⟩:=r;cases(show T = "str" from ty);exact⟨typeIs_str s z t,λ_ e=>nomatch e⟩|int i=>obtain⟨t,rfl⟩:=r;cases(show T = "int" from ty);exact⟨F1 s i t,λ_ e=>nomatch e⟩|ref p=>
  cases r;rcases ty with⟨rfl,xs,U⟩|⟨rfl,o,B,M,hd⟩|⟨rfl,B⟩|⟨rfl,S,n,B⟩
  obtain⟨Z,_,pl,_⟩:=I.list U;refine⟨pl.isList.typeIs,λa e=>?_⟩;cases e;obtain⟨o,n,e,c,hd,_⟩:=pl;exact⟨o,e,hd⟩;refine⟨⟨o,I.kIn p o B,M⟩,λa e=>?_⟩;cases e;exact⟨o,I.kIn _ o B,hd⟩;have z:∃o,s.heap.get? p=some o/\o.ExactDict:=by
   rcases B with⟨kvs,B⟩|⟨kvs,B⟩
   obtain⟨_,_,_,_,o,_,_,e,ex,_⟩:=I.hok p _ B;exact⟨o,e,ex⟩;obtain⟨_,_,_,_,o,_,_,e,ex,_⟩:=I.hok p _ B;exact⟨o,e,ex⟩
  obtain⟨o,e,ex⟩:=z;refine⟨⟨o,e,ex.1⟩,λa G=>?_⟩;cases G;exact⟨o,e,ex.2.1⟩;obtain⟨o,_,_,_,e,ex,_⟩:=I.hok p _ B;refine⟨⟨o,e,ex.1⟩,λa G=>?_⟩;cases G;exact⟨o,e,ex.2.1⟩
 | _=>exact Ce ty
noncomputable def tBM(K:Ap)(T:String)(r:V->List V->Hp->VK->Prop)(to:TE)(t:TA):TE:=λσ H Q=>to σ H λx H1=>tyV K T x H1/\t σ H1 λxs H2=>r x xs H2 Q
variable {o e:A6} {es:List A6} {to:TE} {t:TA} {name:Str} {apos cpos:Du} {T id:String} {r:V->List V->Hp->VK->Prop}
theorem aBv(pa:PlainAttrs T)(slot:Slot T name id)(U:typeOf (.builtin id)=pure (.type "method_descriptor"))(hm:MtR X id r)(ho:PE X o to)(ha:PA X (e::es) t)
 (G:DZ o name X.env (Ch o X.env)=Ch o X.env:=by rfl)
 (M:((Cd cpos (AA (e::es) X.env)).all (λx=>!x.1)&&(E3 cpos (Df [] X.env)).all (λx=>x.1.isSome)
  && decide ((e::es).length+([]:List EK).length+(if ([]:List EK).isEmpty then 0 else 1)<30))=true:=by rfl)
 (L:(apos.endLine==cpos.line)=true:=by rfl) (hs:AA (e::es) X.env=(false,Ch e X.env)::AA es X.env:=by rfl) (B:(Cd cpos (AA es X.env)).any (·.1)=false:=by rfl) :
 PE X (.Call (.Attribute o name apos) (e::es) [] cpos) (tBM X.K T r to t):=by intro pins s σ H Q I h;refine DJ G M L rfl (thn (ho pins s σ H _ I h) λv s1 ⟨x,H1,Z,r1,ty,q1⟩=>?_);obtain⟨h1,h2⟩:=aJZ Z r1 ty;refine⟨T,id,pa,slot,U,h1,h2,?_⟩;have hA:=ha cpos pins s1 σ H1 _ Z q1;rw[hs] at hA ⊢;refine DK (by show(false||(Cd cpos (AA es X.env)).any (·.1))=false;rw[B] <;> rfl) (Ed ?_);exact thn hA λus s2 ⟨vs,H2,I2,r2,q2⟩=>hm pins s2 σ H2 x vs v us Q I2 r1 r2 q2
end
noncomputable def MtM(X:Cx)(id:String)(r:V->List V->Hp->VK->Prop):Prop:=
 ∀(pins:List (Addr×Obj)) (s:Ad) (σ:St) (H:Hp) (x:V) (xs:List V) (v:Value) (us:List Value) (Q:VK),Inv X pins σ H s->bB x v->aX xs us->r x xs H Q ->
  As (A5 X.prog X.w) X.A (call (.builtin id) (v::us)) (EP X pins σ Q) X.xe s
theorem aX.one:∀{x:V} {us:List Value},aX [x] us->∃u,us=[u]/\bB x u:=by intro x us h;cases h with|cons r t=>cases t;exact⟨_,rfl,r⟩
theorem aX.zero:∀{us:List Value},aX [] us->us=[]
 | _,.nil=>rfl
theorem aX.rep{xs:List V}{us:List Value}(h:aX xs us):∀k:Nat,aX (Aj k xs).flatten (Aj k us).flatten
 | 0=>.nil|k+1=>by rw[B7,B7,CZ,CZ];exact aX.append h (aX.rep h k)
theorem mQ(G:List Value):∀(k:Nat) (B:List Value),
 IP (λL M=>L++M) B.toArray (Aj k G.toArray)=(B++(Aj k G).flatten).toArray
 | 0,B=>by simp|k+1,B=>by
  have e:B.toArray++G.toArray=(B++G).toArray:=by simp
  have I:(B++G)++(Aj k G).flatten=B++(Aj (k+1) G).flatten:=by rw[B7,CZ,EL]
  rw[<-I,<-mQ G k (B++G),<-e,B7,BD]
section
variable {X:Cx} {pins:List (Addr×Obj)} {σ:St} {H:Hp} {s:Ad} {l b:Addr} {xs ys zs:List V}
theorem Inv.lset{B its':List Value}{n:Nat}{f:Array Value->Array Value}{t':Nat}(I:Inv X pins σ H s)(G:H l=some (.lst xs))
 (e:s.heap.get? l=some { cls:=.type "list",data:=.seq B.toArray n }) (M:f B.toArray=its'.toArray) (Z:aX ys its') (hz:ys.length<=sizeLine) :
 Inv X pins σ (upd H l (.lst ys)) { s with heap:=s.heap.update l (Bt f),toks:=t' }:=by have q:=HF e f;rw[M] at q;refine I.write (x:=l) (e:=l) (by rw[G];exact trivial) (.inl rfl) (λb' u L U=>(CL s.heap (Bt f) (Dj L)).trans U) ⟨_,q⟩ ?_;exact⟨hz,its',_,Z,q⟩
theorem Inv.lnew{B:List Value}{t':Nat}(I:Inv X pins σ H s)(G:aX ys B)(hz:ys.length<=sizeLine) :
 Inv X pins σ (upd H s.heap.objs.size (.lst ys)) { s with heap:=s.heap.push { cls:=.type "list",data:=.seq B.toArray },toks:=t' }:=
 I.laid (λ_ _ q=>Ab _ q) (An _) ⟨hz,B,0,G,Al _ rfl⟩
theorem Inv.fresh(I:Inv X pins σ H s):H s.heap.objs.size=none:=I.hok.fresh (An _)
theorem Inv.lstM(I:Inv X pins σ H s)(G:H l=some (.lst xs)):xs.length<=sizeLine/\∃(B:List Value) (n:Nat),aX xs B/\xs.length=B.length/\s.heap.get? l=some { cls:=.type "list",data:=.seq B.toArray n }:=by obtain⟨z,B,n,r,e⟩:=I.hok l _ G;exact⟨z,B,n,r,r.length,e⟩
theorem xM{n:Nat}(h:n<=sizeLine):C9 n=false:=by unfold C9;exact Aw (by omega)
end
section
variable {X:Cx}
noncomputable def aBw:V->List V->Hp->VK->Prop:=λx vs H Q=>∃l xs y,x=.ref l/\vs=[y]/\H l=some (.lst xs)/\xs.length<sizeLine/\Q .non (upd H l (.lst (xs++[y])))
theorem sQ:MtM X "list.append" aBw:=by intro pins s σ H x vs v us Q I M rv h;obtain⟨l,xs,y,rfl,rfl,G,hz,q⟩:=h;cases M;obtain⟨u,rfl,L⟩:=rv.one;obtain⟨z,B,n,r,U,e⟩:=I.lstM G;refine D8 Gx ⟨_,e,rfl⟩ Gi (FN _ _) (GR l B.toArray n u (by rw[Ah];omega)) ⟨e,?_⟩;refine⟨.non,_,I.lset (its':=B++[u]) G e (by simp) (r.append (.cons L .nil)) ?_,rfl,q⟩;rw[D7,Cv];omega
noncomputable def aHp:V->List V->Hp->VK->Prop:=λx vs H Q=>∃l b xs zs,x=.ref l/\vs=[.ref b]/\H l=some (.lst xs)/\H b=some (.lst zs)/\xs.length+zs.length<=sizeLine/\Q .non (upd H l (.lst (xs++zs)))
theorem aCY:MtM X "list.extend" aHp:=by
 intro pins s σ H x vs v us Q I rx rv h;obtain⟨l,b,xs,zs,rfl,rfl,U,hB,hz,q⟩:=h;cases rx;obtain⟨u,rfl,ru⟩:=rv.one;cases ru;obtain⟨z,G,n,r,hl,e⟩:=I.lstM U;obtain⟨z2,B,n2,r2,q0,Z⟩:=I.lstM hB;have M:G.toArray.size+B.toArray.size<=sizeLine:=by rw[Ah,Ah];omega
 have L:¬ (!G.toArray.isEmpty&&C9 (G.toArray.size+B.toArray.size))=true:=by rw[xM M,IQ];exact D5
 refine D8 F.slot_list_extend ⟨_,e,rfl⟩ F.entry_list_extend (F.args_list_extend_2 _ _)
  (GS l G.toArray n b B.toArray n2 L (by rw[Ah];omega) (by omega)) ⟨e,Z,?_⟩
 refine⟨.non,_,I.lset (its':=G++B) U e (by simp) (r.append r2) ?_,rfl,q⟩;rw[D7];omega
noncomputable def aPL:R2:=λx y H Q=>∃l k xs,x=.ref l/\y=.int k/\H l=some (.lst xs)/\-(2 ^ 63)<=k/\k<2 ^ 63/\xs.length*k.toNat<=sizeLine /\
 ∀p,H p=none->Q (.ref p) (upd H p (.lst (Aj k.toNat xs).flatten))
theorem uT{α:Type}(xs:List α)(k:Nat):(Aj k xs).flatten.length=k*xs.length:=by simp_all
theorem aKa:OpR X (Cp .Mult) aPL:=by
 intro pins s σ H x y v u Q I rx ry h;obtain⟨l,k,xs,rfl,rfl,hH,h1,h2,hz,q⟩:=h;cases rx;obtain⟨t,rfl⟩:=ry;obtain⟨z,B,n,r,hl,e⟩:=I.lstM hH;have Z:B.toArray.size*k.toNat<=sizeLine:=by rw[Ah,<-hl];exact hz
 have L:¬ B.toArray.size*k.toNat>(2 ^ 63-1) / 8:=by
  have:(sizeLine:Nat)<=(2 ^ 63-1) / 8:=by decide
  omega
 have M:¬ (!IR k)=true:=by rw[fitsIndex_both h1 h2];grind
 have G:¬ C9 (B.toArray.size*k.toNat)=true:=by rw[xM Z];exact D5
 have q0:IP (λx1 x2=>x1++x2) #[] (Aj (if B.toArray.isEmpty=true then 0 else k.toNat) B.toArray)=(Aj k.toNat B).flatten.toArray:=by
  have f0:∀m:Nat,IP (λx1 x2=>x1++x2) #[] (Aj m B.toArray)=(Aj m B).flatten.toArray:=λm=>by have:=mQ B m [];rw[C2] at this;exact this
  rw[f0];cases B with
  | nil=>simp|cons a r'=>rw[if_neg (by simp)]
 refine ED (T:= "list") (U:= "int") (by decide) ⟨_,e,rfl⟩ (λs'=>F1 s' k t) noFill_list_mul Il Ej repeat_list HG.lookup
  (D8 Ej (F1 s k t) HH (GU _ _) (int___rmul___int_list k t l B.toArray n)
   ⟨e,rfl,⟨_,e,rfl⟩,D8 F.slot_list_mul ⟨_,e,rfl⟩ F.entry_list_mul (F.args_list_mul_2 _ _) (GC l B.toArray n k t M L G) ⟨e,?_⟩⟩)
 rw[q0];exact⟨.ref _,_,I.lnew (t':=s.toks) (r.rep k.toNat) (by rw[uT,GV];exact hz),rfl,q _ I.fresh⟩
end
end L2
namespace Att
open PySem PySem.W PySem.Calls PyProof.Rows
theorem nZ{P:IS}{h:Heap}:∀(ns:List Int) (vs:List Value),WellAll P h vs (ns.map KL)->IB vs ns:=by
 intro ns
 induction ns with
 | nil=>intro vs w;rw[List.map_nil] at w;cases w;exact .nil|cons n ns B=>
  intro vs w;rw[List.map_cons] at w;cases w with
  | cons a b=>cases a;exact .cons _ _ (B _ b)
theorem aCZ{l:K6}{n:Nat}(hn:l.most=some n){P:IS}{h:Heap}{args:List WData}{G:List Value}
 (B:l.row.toRowW.claim.pre args=true) (Z:WellAll P h G args) :
 ∃a vs ns,G=[AG a]/\args=[WData.list (ns.map KL)]/\h.get? a=some { cls:=.type "list",data:=.seq vs.toArray }/\IB vs ns/\ns.length<=n:=by
 have U:WShape.hasAll [] args [.list .int]=true:=(pre_splitW B).1;have hc:l.pre.holds [] { args:=args }=true:=(pre_splitW B).2;obtain⟨d,r,rfl,h1,h2⟩:=hasAllW_cons U;obtain rfl:=hasAllW_nil h2;obtain⟨xs,rfl,h3⟩:=hasW_list h1;obtain⟨ns,rfl⟩:=items_int h3;have L:ns.length<=n:=by
  unfold OpenLaw.pre at hc;have M:(WTm.not (.lt (.lit (.int (n:Int))) (.len (.arg 0)))).holds [] { args:=[.list (ns.map .int)] }=true:=by have M:=(holds_andW hc).1;rw[hn] at M;exact M
  have h5:=condW_of M (w_not (w_lt w_lit (w_len_list (w_arg rfl))));rw[Eh] at h5;grind
 cases Z with
 | cons w1 w2=>
  cases w2;cases w1 with
  | list ho I=>exact⟨_,_,ns,rfl,rfl,ho,nZ ns _ I,L⟩
theorem aDa(l:K6)(args:List WData):l.row.toRowW.claim.post args (.bool true) args=true:=
 postW_of (r:=l.row.toRowW) (X:=(true==true))
  (show Ku [] (.bool true) .bool=true by first|rfl|decide|simp[Ku,WShape.arms,WShape.armsAll])
  (show(WTm.eq .res (.lit (.bool true))).value [] { args:=args,res:=some (.bool true),after:=args }=some (.bool (true==true)) from w_eq_bool (w_res rfl) w_lit) rfl
theorem attach_call{l:K6}{n:Nat}{q:A2}{I:List Str}{XP:(Str->Option Value)->Heap->Prop}{YP:AL->Heap->Prop}{d:DefRec}
 (hn:l.most=some n) (q1:d.params.defaults=[])
 (call:∀(w:AL) (s₀ B:Ad) (mg mb:Str->Option Value) (fa:Addr) (o:Obj) (pm cd doc:Value) (a:Addr) (vs:List Value) (ns:List Int),
  Ground q I [] XP w s₀ mg mb B.heap->YP w B.heap ->
  B.heap.get? fa=some o->o.data=.func (docDef d.name d.params d.body d.scope pm cd doc)->B.heap.CodeRec cd d.name->mg d.name=some (.ref fa) ->
  B.heap.get? a=some { cls:=.type "list",data:=.seq vs.toArray }->IB vs ns->ns.length<=n->B.gens=#[] ->
  D4 (A5 l.prog w) F2 (.call (.ref fa) ⟨[.ref a],[]⟩) (λr s'=>r=.ok (.ret (.bool true))/\OldK B.heap s'.heap/\s'.os=B.os/\EI s'.gens) B) :
 WalkO q I XP YP l.row.toRowW d [] (λf vs=>Gy f vs):=by intro w s₀ B mg mb G Y fa o pm cd doc dV kV ho hd q0 hD q2 hg args q5 as Z q4 q7 q3 q6;obtain rfl:dV=.none:=Dflts.none hD q1;obtain rfl:kV=.none:=Dflts.noKw hD;obtain⟨a,vs,ns,rfl,rfl,U,L,M⟩:=aCZ hn Z q3;refine enter_call (DG (call w s₀ B mg mb fa o pm cd doc a vs ns G Y ho (fd_plain hd) q0 q2 U L M hg) λr s' hq=>?_);obtain⟨rfl,h2,h3,h4⟩:=hq;exact⟨.inl ⟨.bool true,.bool true,[],rfl,λ_=>rfl,.bool true,aDa l _,λ_=>⟨EM,λ_ hm=>(nomatch hm)⟩⟩,h2,h3,h4⟩
end Att
namespace L2
open PySem PySem.Spec PyProof.Rows
theorem sR:∀{vs:List Value} {ns:List Int},IB vs ns->aX (ns.map V.int) vs
 | _,_,.nil=>.nil|_,_,.cons n t h=>.cons ⟨t,rfl⟩ (sR h)
noncomputable def aHq(H:Hp):Prop:=∀b,H b=none\/∃o xs,H b=some (.frz o (.lst xs))
theorem aEu{P:A2}{w:AL}{K:Ap}{mg mb:Str->Option Value}{CX:CXT}{k:Nat}{fa a:Addr}{fd:Dv}{x:Str}{sp:Sp}{B:Ad}{vs:List Value}{ns:List Int}
 (KX:K.In B.heap) (q2:B.heap.Ns AI mg) (I:B.heap.Ns Fq mb) (q6:∀x:Str,x ≠ "__name__" -> mb x=BC x) (q1:B.heap.NoLimit) (hg:B.gens=#[])
 (ha:B.heap.get? a=some { cls:=.type "list",data:=.seq vs.toArray }) (hi:IB vs ns) (hl:ns.length<=sizeLine) (hr:fS k F2)
 (F:∀base:Heap,K.In base->base.Ns AI mg->eY P w K mg base CX k fa fd [x] sp) (Z:∀(s:Ad) (u:Value),JC s fd ⟨[u],[]⟩ [(x,u)])
 (q7:∀H:Hp,aHq H->SqL K H a (ns.map V.int)->sp [.ref a] H (λv _=>v=.bl true) λ_ _ _=>False)
 (q5:∀H e L,CX [] H B (λ_ _ _=>False) e L->False) :
 D4 (A5 P w) F2 (.call (.ref fa) ⟨[.ref a],[]⟩) (λr L=>r=.ok (.ret (.bool true))/\OldK B.heap L.heap/\L.os=B.os/\EI L.gens) B:=by
 have rv:=sR hi;have q4:=hi.length;have U:∀H:Hp,aHq H->SqL K H a (ns.map V.int)->HOk P w H B.heap->(∀b,H b≠none->b=a)->(H a≠none->K.lookup a=none) ->
  D4 (A5 P w) F2 (.call (.ref fa) ⟨[.ref a],[]⟩) (λr L=>r=.ok (.ret (.bool true))/\OldK B.heap L.heap/\L.os=B.os/\EI L.gens) B:=by
  intro H hO hS hok hA hK;have G:∀{b:Addr} {o:Obj},B.heap.get? b=some o->H b=none->(uK B.heap H).get? b=some o:=λe n=>aDW e n;have q8:∀{b:Addr} {o:Obj} {es:Array Ey} {ep:Nat},B.heap.get? b=some o->o.data=.dict es ep->H b=none:=λ{b o es ep} e d=>by
   cases q:H b with
   | none=>rfl|some u=>have e':b=a:=hA b (by rw[q];simp);grind
  have M:∀{b:Addr} {m:Str->Option Value},B.heap.Ns b m->(uK B.heap H).Ns b m:=λ{b m} ⟨o,es,ep,e,d,r⟩=>⟨o,es,ep,G e (q8 e d),d,r⟩
  have q0:K.In (uK B.heap H):=λb o e=>G (KX b o e) (by
   cases q:H b with
   | none=>rfl|some u=>
    have e':b=a:=hA b (by rw[q];simp);grind)
  have hM:Mod K mg (uK B.heap H):=⟨q0,M q2,⟨mb,M I,q6⟩,let ⟨mc,h1,h2⟩:=q1;⟨mc,M h1,h2⟩⟩
  have e0:aAj P w K mg (uK B.heap H) F2 [] B H:=⟨rfl,hM,λb o e=>aGR e,JB (aCN _ _),trivial,λb I=>absurd (show b∈([]:List Addr) from I) (by simp),hok,.of_eq hg⟩
  refine DG ((F _ q0 (M q2)).run F2 [] B H ⟨[.ref a],[]⟩ [.ref a] [.ref a] _ _ hr e0 (Z B (.ref a)) (.cons rfl .nil) (q7 H hO hS)) λr L h=>?_;cases r with
  | error e=>exact(q5 H e L h).elim|ok fl=>
   cases fl with
   | next=>exact Ce h|brk=>exact Ce h|cont=>exact Ce h|ret u=>
    obtain⟨v,H',os,bare,un,q3,r',q⟩:=h;have q':v=.bl true:=q;subst q';obtain rfl:u=D6 true:=r';refine⟨rfl,OldK.of_keep λb o e=>?_,os,bare⟩;cases q:H b with
    | none=>exact un.keep b o e q (by intro z;exact absurd (show b∈([]:List Addr) from z) (by simp)) (by simp)|some u=>
     rcases hO b with z|⟨ob,xs,z⟩
     rw[q] at z;cases z;have z2:=un.frzs b ob _ z;obtain⟨e1,_⟩:=hok b _ z;obtain⟨e2,_⟩:=q3 b _ z2;rw[e] at e1;grind
 cases hk:K.lookup a with
 | some o=>have e:=KX a o hk;rw[ha] at e;cases e;refine U (λ_=>none) (λ_=>.inl rfl) (.inr ⟨_,vs.toArray,_,hk,rfl,rfl,rfl,by rw[Ah,q4];exact hl,by simpa using rv⟩) (λb u z=>by have z':(none:Option HO)=some u:=z;cases z') (λb z=>absurd rfl z) λz=>absurd rfl z|none=>refine U (λb=>if b=a then some (.frz { cls:=.type "list",data:=.seq vs.toArray } (.lst (ns.map V.int))) else none) (λb=>?_) (.inl (.inr ⟨{ cls:=.type "list",data:=.seq vs.toArray },if_pos rfl⟩)) (λb u z=>?_) (λb z=>?_) λ_=>hk;by_cases I:b=a;exact .inr ⟨_,_,if_pos I⟩;exact .inl (if_neg I);by_cases I:b=a;have z':=(if_pos I).symm.trans z;cases z';subst I;exact⟨ha,by rw[Eh];exact hl,vs,_,rv,ha⟩;have z':=(if_neg I).symm.trans z;cases z';by_cases I:b=a;exact I;exact absurd (if_neg I) z
noncomputable def gL(s:BY):Gf:=match s with|.FunctionDef _ a _ _ _ _ _ _ _ _=>a|_=>{ posonlyargs:=[],args:=[],vararg:=none,kwonlyargs:=[],kw_defaults:=[],kwarg:=none,defaults:=[] }
noncomputable def defBody(s:BY):List BY:=match s with|.FunctionDef _ _ b _ _ _ _ _ _ _=>b|_=>[]
noncomputable def bC(s:BY):De:=match s with|.FunctionDef _ _ _ _ _ _ sc _ _ _=>sc|_=>{ kind:=.function,names:=[],isGenerator:=false,isCoroutine:=false }
abbrev CX0:CXT:=λ_ _ _ _ _ _=>False
abbrev E0:XK:=λ_ _ _=>False
theorem aBx{X:Cx}:jY CX0 X E0:=λ_ _ _ _ _ _ _ h=>h.elim
structure Fun (K:Ap) (x qual:Str) (st:BY) (f:Addr) (fd:Dv):Prop where
 ex:∃(oc:Value) (od:Option Addr) (kV doc pm:Value) (an:Option Addr) (cdv ct:Value) (osl:Array (Option Value)),
  fd=Fw x qual (gL st) (defBody st) (bC st) .none kV doc pm an cdv ct/\K.lookup f=some ⟨oc,od,.func fd,osl⟩/\IL K cdv qual=true
 kp:CB K (.ref f)=true
section
variable {P:A2} {w:AL} {K:Ap} {mg:Str->Option Value} {base:Heap}
theorem Fun.ok{x qual:Str}{st:BY}{f:Addr}{fd:Dv}{N ps:List Str}{k:Nat}{sp:Sp}(F:Fun K x qual st f fd)(S:lH N ps (bC st))(len:∀vs H Q E,sp vs H Q E->vs.length=ps.length)
 (B:∀(cdv:Value) (A:AT) (outer:List JA) (s:Ad) (H:Hp) (vs:List V) (Q:VK) (E:XK),fS k (A.deeper (FM qual (bC st) s.heap.objs.size f cdv))->sp vs H Q E ->
  ∃t,PSs (xH CX0 P w K mg base N qual (bC st) f cdv A outer s H E).nox (defBody st) t/\t { nx:=λ_ H'=>Q .non H',rt:=Q } (start N vs) H):eY P w K mg base CX0 (k+1) f fd ps sp:=by obtain⟨oc,od,kV,doc,pm,an,cdv,ct,osl,rfl,M,G⟩:=F.ex;refine aMN M G S len λA outer s H vs Q E L I=>?_;obtain⟨t,h,q⟩:=B cdv A outer s H vs Q E L I;exact⟨t,h.nox,q⟩
theorem Fun.binds{x qual:Str}{st:BY}{f:Addr}{fd:Dv}{ps:List Str}(F:Fun K x qual st f fd)
 (h:∀(kV doc pm:Value) (an:Option Addr) (cdv ct:Value) (us:List Value),us.length=ps.length->IH (Fw x qual (gL st) (defBody st) (bC st) .none kV doc pm an cdv ct) ⟨us,[]⟩=pure (ps.zip us)):dM K fd ps []:=by obtain⟨oc,od,kV,doc,pm,an,cdv,ct,osl,rfl,G,B⟩:=F.ex;exact .all (h kV doc pm an cdv ct)
end
theorem aKb{A B:Prop}(h:B):if false=true then A else B:=by rw[if_neg D5];exact h
theorem aPM{A B:Prop}(h:A):if true=true then A else B:=by rw[if_pos rfl];exact h
noncomputable def aL(H H':Hp):Prop:=∀b o,H b=some o->H' b=some o
theorem aL.refl(H:Hp):aL H H:=λ_ _ h=>h
theorem aL.trans{H H1 B:Hp}(a:aL H H1)(b:aL H1 B):aL H B:=λc o h=>b c o (a c o h)
theorem aL.free{H H':Hp}(e:aL H H'){l:Addr}(h:H' l=JZ):H l=JZ:=by
 cases q:H l with
 | none=>rfl|some o=>rw[e l o q] at h;cases h
theorem aL.seq{K:Ap}{H H':Hp}{a:Addr}{xs:List V}(e:aL H H')(h:SqL K H a xs):SqL K H' a xs:=by rcases h with(h|⟨o,h⟩)|h;exact .inl (.inl (e _ _ h));exact .inl (.inr ⟨o,e _ _ h⟩);exact .inr h
end L2
end
namespace L2
open PySem PySem.Spec PyProof.Rows PySem.Builtin
set_option maxRecDepth 100000 in
theorem mR:fillsNumberSlot (.type "tuple") "mul" = pure false:=
 PySem.fillsNumberSlot_seq DU.lookup (by decide +kernel) GW.lookup (by decide +kernel)
theorem uU:seqRepeat? (.type "tuple")=pure (some (.builtin "tuple.__mul__")):=by unfold seqRepeat?;rw[HI (name:= "__mul__") DU.lookup (by decide +kernel),HI (name:= "__rmul__") GW.lookup (by decide +kernel)];rfl
theorem pD(a:Int)(t:Tok)(l:Addr)(od:Option Addr)(items:Array Value)(n:Nat)(sl:Array (Option Value)):K7 (BI.«int.__rmul__» ⟨[.int a t,.ref l],[]⟩) (λ_ R s=>s.heap.get? l=some { cls:=.type "tuple",dict:=od,data:=.seq items n,slots:=sl }/\R (.ok (.ret Value.notImplemented)) s):=
 .of_wp λprog w A R s h=>by obtain⟨G,g,d,tk,os⟩:=s;obtain⟨B,h⟩:=h;wp_walk;exact⟨_,rfl,h⟩
theorem xN(l:Addr)(t:Tok)(od:Option Addr)(items:Array Value)(n:Nat)(sl:Array (Option Value)):K7 (BI.«tuple.__mul__» ⟨[.ref l,.int 1 t],[]⟩) (λ_ R s=>s.heap.get? l=some { cls:=.type "tuple",dict:=od,data:=.seq items n,slots:=sl }/\R (.ok (.ret (.ref l))) s):=
 .of_wp λprog w A R s h=>by obtain⟨G,g,d,tk,os⟩:=s;obtain⟨B,h⟩:=h;wp_walk;exact⟨_,rfl,h⟩
theorem xO(l:Addr)(t:Tok)(k:Int)(od:Option Addr)(items:Array Value)(n:Nat)(sl:Array (Option Value))(Z:1<k)(h2:k<2 ^ 63)(B:items.isEmpty=false)(hz:items.size*k.toNat<=sizeLine)(hs:((Aj k.toNat items).foldl (·++·) #[]).size<=sizeLine):K7 (BI.«tuple.__mul__» ⟨[.ref l,.int k t],[]⟩) (λ_ R s=>s.heap.get? l=some { cls:=.type "tuple",dict:=od,data:=.seq items n,slots:=sl }/\R (.ok (.ret (.ref s.heap.objs.size))) { s with heap:=s.heap.push { cls:=.type "tuple",data:=.seq ((Aj k.toNat items).foldl (·++·) #[]) } }):=
 .of_wp λprog w A R s h=>by
  obtain⟨hp,g,d,tk,os⟩:=s;obtain⟨hl,h⟩:=h;wp_walk;have G:(decide (k < -2 ^ 63)||decide (k ≥ 2 ^ 63))=false:=by rw[Aw (by omega),Aw (by omega)];rfl
  have I:(items.isEmpty||k==1)=false:=by rw[B,beq_eq_false_iff_ne.mpr (by omega)];rfl
  have L:(decide (k<=0)||items.isEmpty)=false:=by rw[B,Aw (by omega)];rfl
  have e:((items.size*k.toNat:Nat):Int)=(items.size:Int)*k:=by rw[Im,Int.toNat_of_nonneg (by omega)]
  have M:Tuple.tupleTooMany ((items.size:Int)*k)=false:=by unfold Tuple.tupleTooMany;rw[<-e];exact Aw (by omega)
  have U:¬ (items.size:Int)*k>(2 ^ 63-1) / 8:=by
   have:(sizeLine:Nat)<=(2 ^ 63-1) / 8:=by decide
   rw[<-e];omega
  rw[if_neg (by rw[G];grind)]
  wp_walk
  rw[if_neg (by rw[I];grind),if_neg (by rw[L];grind),if_neg U,if_neg (by rw[M];grind)];unfold Tuple.tupleExact newObj;simp only[if_neg (F3.mpr hs)]
  wp_walk
  exact⟨_,rfl,h⟩
section
variable {X:Cx}
theorem aHr:OpR X (Cp .Mult) (λx y H Q=>∃a k xs,x=.ref a/\y=.int k/\SqT X.K H a xs/\xs≠[]/\1<=k/\k<2 ^ 63/\xs.length*k.toNat<=sizeLine /\
 (k=1->Q (.ref a) H)/\(1<k->∀p,H p=none->Q (.ref p) (upd H p (.tup (Aj k.toNat xs).flatten)))):=by
 intro pins s σ H x y v u Q I rx ry h;obtain⟨a,k,xs,rfl,rfl,ha,hx,h1,h2,hz,q1,q2⟩:=h;cases rx;obtain⟨t,rfl⟩:=ry;obtain⟨B,r,⟨o,G,hc,n,hd⟩,_⟩:=I.tuple ha;obtain⟨oc,od,dt,sl⟩:=o;subst hc hd;have M:=r.length;have L:=λU (hq:As (A5 X.prog X.w) X.A (call (.builtin "tuple.__mul__") [.ref a,.int k t]) U X.xe s)=>ED (by decide) (show s.TypeIs (.ref a) "tuple" from⟨_,G,rfl⟩) (λs'=>F1 s' k t) mR Il Ej uU HG.lookup
  (D8 Ej (F1 s k t) HH (GU _ _) (pD k t a od B.toArray n sl) ⟨G,rfl,⟨_,G,rfl⟩,hq⟩)
 refine L _ ?_;by_cases hk:k=1;subst hk;exact D8 DU ⟨_,G,rfl⟩ GX (Gz _ _) (xN a t od B.toArray n sl) ⟨G,.ref a,H,I,rfl,q1 rfl⟩;have Z:B.toArray.isEmpty=false:=by grind
 have f0:=mQ B k.toNat [];rw[C2] at f0;refine D8 DU ⟨_,G,rfl⟩ GX (Gz _ _) (xO a t k od B.toArray n sl (by omega) h2 Z (by rw[Ah,<-M];exact hz) (by rw[f0,Ah,uT,<-M,GV];exact hz)) ⟨G,?_⟩;rw[f0];refine⟨.ref s.heap.objs.size,_,I.laid (λb ob q=>Ab _ q) (An _) ?_,rfl,q2 (by omega) _ (I.hok.fresh (An _))⟩;exact⟨by rw[uT,GV];exact hz,_,r.rep k.toNat,HD _ _⟩
end
end L2
namespace L2
open PySem PySem.Spec PyProof.Rows
abbrev TKV:=List (List Int×Addr×Value)
noncomputable def aPN(k:List Int):Int:=IT (Dn (k.map K1))
noncomputable def aKc(a:Addr)(xs:TKV)(h:Heap):Prop:=
 (a==Cb)=false/\xs.length<=sizeLine/\∃o es ep,h.get? a=some o/\o.ExactDict/\o.data=.dict es ep/\es.toList=xs.map (λx=>⟨aPN x.1,.ref x.2.1,x.2.2⟩)/\(xs.map (·.1)).Nodup
abbrev eZ(a:Addr)(xs:TKV):HO:=.ext (aKc a xs)
theorem aBy:∀I L:Heap,aKc a xs I->(∀o,I.get? a=some o->L.get? a=some o)->aKc a xs L:=by rintro I L ⟨U,Z,o',G,B,z3,z4⟩ M;exact⟨U,Z,o',G,B,M _ z3,z4⟩
section
variable {prog:A2} {w:AL} {K:Type} [DecidableEq K] {knd:Ka prog w K} {A:AT} {E:Value->Ad->Prop} {s:Ad} {d a:Addr} {k:K} {xs:List (K×Addr×Value)}
theorem oA{Q:Value->Ad->Prop}(hu:knd.room A)(B:knd.is s.heap k a)(hm:s.heap.DictOfH knd d xs)
 (h1:∀p,Et xs k=some p->Q p.2 { s with toks:=s.toks+knd.draws k })
 (h2:Et xs k=none->∀h',h'.DictOfH knd d (xs++[(k,a,v)])->BR d s.heap h'->Q v { s with heap:=h',toks:=s.toks+knd.draws k })
 (q0:xs.length<=sizeLine):As (A5 prog w) A (FO d (.ref a) v) Q E s:=by
 obtain⟨o,es,ep,I,hc,hd,Z,L,hn⟩:=hm;unfold FO
 try with_reducible refine Br ?_
 refine Aa (knd.pyHash hu B (Aa (wpAny_dictFind_heap hu B I hd Z L hn ?_ ?_)));intro M;have U:=not_mem_keys_of_get M;refine Aa (D9 (Aa (wpAny_updateDictKeys (hz:=by have e:=size_of_entries Z;omega) I hd (Ae (h2 (atKey_none_of_get M) _ ⟨_,_,ep+1,CU _ I (Obj.isFreed_of_dict (FP hd _)),
  hc.mapDictKeys _,FP hd _,?_,?_,?_⟩ (B8 ..))))))
 simp[Z,entryOfKey];intro x G;rcases C1.mp G with G|G;exact knd.keeps (L x G) I hd (B8 ..);simp only[A8] at G;subst G;exact knd.keeps B I hd (B8 ..);rw[B2,Da];refine⟨hn,by simp,?_⟩;intro x G y hy;simp only[mC,mN,A8] at hy;subst hy;exact λe=>U (e▸G);intro j p hj;refine Aa (wpAny_dictEntries I hd ?_);rw[entry_at Z j,hj];exact Aa (D9 (Ae (h1 p (atKey_of_get hn hj))))
theorem lJ(knd:Ka prog w K)(d a:Addr)(hd:(d==Cb)=false)(v:Value) :
 MeetsIn prog w (BI.«dict.setdefault» ⟨[.ref d,.ref a,v],[]⟩) (λA R s=>knd.room A.in1/\∃k xs,knd.is s.heap k a/\s.heap.DictOfH knd d xs/\xs.length<=sizeLine /\
  (∀p,Et xs k=some p->R (.ok (.ret p.2)) { s with toks:=s.toks+knd.draws k }) /\
  (Et xs k=none->∀h',h'.DictOfH knd d (xs++[(k,a,v)])->BR d s.heap h'->R (.ok (.ret v)) { s with heap:=h',toks:=s.toks+knd.draws k })):=
 .of_wp λA R s ⟨hu,k,xs,B,L,hz,M,U⟩=>by unfold BI.«dict.setdefault»;refine Aa ?_;unfold IU;refine Aa (wpAny_notOrdered_dict L.typeIs ?_);refine Ae ?_;show As _ _ (if (d==Cb)=true then _ else (FO d (.ref a) v >>= _)) _ _ s;rw[if_neg (by rw[hd];grind)];exact Aa (oA hu B L (λp hp=>Ae ⟨p.2,rfl,M p hp⟩) (λZ h' G I=>Ae ⟨v,rfl,U Z h' G I⟩) hz)
end
section
variable {X:Cx} {pins:List (Addr×Obj)} {σ:St} {H:Hp} {s:Ad}
theorem intsT_are{is:List Int}:∀{us:List Value},aX (is.map V.int) us->ItemsAre (DY X.prog X.w) is us:=by
 induction is with
 | nil=>intro us h;rw[mN] at h;cases h;exact .nil|cons i is B=>
  intro us h;rw[mC] at h;cases h with
  | cons r t=>obtain⟨tk,e⟩:∃t,_=Gc i t:=r;subst e;exact .cons (intKind_is _ _ i tk) (B t)
theorem uV(I:Inv X pins σ H s){is:List Int}(h:SqT X.K H c (is.map V.int)):IsTupleKey (DY X.prog X.w) s.heap is c:=by obtain⟨B,rv,⟨o,L,G,n,hd⟩,_⟩:=I.tuple h;exact⟨o,B.toArray,n,L,G,hd,by simpa using intsT_are rv⟩
theorem lK(I:Inv X pins σ H s){xs:TKV}(e:H a=some (eZ a xs))(hk:∀x∈xs,SqT X.K H x.2.1 (x.1.map V.int)):(a==Cb)=false/\xs.length<=sizeLine/\s.heap.DictOfH (Hy (DY X.prog X.w)) a xs:=by
 obtain⟨⟨B,G,o,es,ep,L,M,U,Z,h7⟩,_⟩:=(I.hok a _ e)
 exact⟨B,G,o,es,ep,L,M,U,Z,λx hx=>uV I (hk x hx),h7⟩
theorem InvT.big(I:Inv X pins σ H s):Cb<s.heap.objs.size:=by exact DL (by decide) ((I.ok.mod.glob.keeps I.bk).lt)
noncomputable def aMT:TE:=λ_ H Q=>∀p,H p=none->Q (.ref p) (upd H p (eZ p []))
theorem aHs:PE X (.Dict [] [] pos) aMT:=λpins s σ H Q I h=>
 HJ ⟨.ref s.heap.objs.size,_,I.laid (o:=eZ s.heap.objs.size []) (λ_ _ q=>Ab _ q) (An _)
  ⟨⟨beq_eq_false_iff_ne.mpr (Dj (A4 (InvT.big I))),A9 _,_,#[],0,Al _ rfl,⟨rfl,rfl,rfl⟩,rfl,rfl,DM⟩,⟨_,Al _ rfl⟩,aBy⟩,rfl,h _ (I.hok.fresh (An _))⟩
noncomputable def aIT(K:Ap)(a:Addr)(xs:TKV)(vs:List V)(H:Hp)(Q:VK):Prop:=∃(b:Addr) (k:List Int) (v:V),vs=[.ref b,v]/\H a=some (eZ a xs)/\(∀x∈xs,SqT K H x.2.1 (x.1.map V.int))/\SqT K H b (k.map V.int)/\xs.length<sizeLine /\
 (∀p,Et xs k=some p->∃v',bB v' p.2/\Q v' H)/\(Et xs k=none->∀u,bB v u->Q v (upd H a (eZ a (xs++[(k,b,u)]))))
theorem aDb(hu:X.A.units+100<cLine)(I:Inv X pins σ H s)(r:aX vs us)(h:aIT X.K a xs vs H Q) :
 As (A5 X.prog X.w) X.A (call (.builtin "dict.setdefault") (.ref a::us)) (EP X pins σ Q) X.xe s:=by
 obtain⟨b,k,v,rfl,e,hk,kb,hl,h1,h2⟩:=h;cases r with
 | cons r1 B=>
  cases B with
  | cons B r3=>cases r3;cases r1;rename_i u;obtain⟨M,Z,U⟩:=lK I e hk;refine GY Ek U.typeIs PySem.F.entry_dict_setdefault (PySem.F.args_dict_setdefault_3 _ _ _) (lJ (Hy (DY X.prog X.w)) a b M u) ⟨show X.A.in1.units<cLine by show X.A.units+1<cLine;omega,k,xs,uV I kb,U,Z,λp hp=>?_,λhn h' hm hs=>?_⟩;obtain⟨v',rv,q⟩:=h1 p hp;exact⟨v',H,I.tok _,rv,q⟩;obtain⟨L,es,ep,G,j2,j3,j4,_,j6⟩:=hm;refine⟨v,_,I.write (o:=eZ a (xs++[(k,b,u)])) (by rw[e];exact C7) (.inl rfl) (λc q hc z=>(hs.2 c hc).trans z) ⟨L,G⟩ ⟨⟨M,?_,L,es,ep,G,j2,j3,j4,j6⟩,⟨L,G⟩,aBy⟩,B,h2 hn u B⟩;rw[lA];show xs.length+1<=_;omega
variable {o e:A6} {es:List A6} {to:TE} {t:TA} {apos cpos:Du}
theorem aHt(hu:X.A.units+100<cLine)(ho:PE X o to)(ha:PA X (e::es) t)
 (G:DZ o "setdefault" X.env (Ch o X.env)=Ch o X.env)
 (M:((Cd cpos (AA (e::es) X.env)).all (λx=>!x.1)&&(E3 cpos (Df [] X.env)).all (λx=>x.1.isSome)
  && decide ((e::es).length+([]:List EK).length+(if ([]:List EK).isEmpty then 0 else 1)<30))=true)
 (L:(apos.endLine==cpos.line)=true) (hs:AA (e::es) X.env=(false,Ch e X.env)::AA es X.env) (B:(Cd cpos (AA es X.env)).any (·.1)=false) :
 PE X (.Call (.Attribute o "setdefault" apos) (e::es) [] cpos) (λσ H Q=>to σ H λx H1=>∃a xs,x=.ref a/\H1 a=some (eZ a xs)/\(∀x∈xs,SqT X.K H1 x.2.1 (x.1.map V.int))/\t σ H1 λvs U=>aIT X.K a xs vs U Q):=by intro pins s σ H Q I h;refine DJ G M L rfl (thn (ho pins s σ H _ I h) λv s1 ⟨x,H1,Z,r1,a,xs,e1,e2,e3,q1⟩=>?_);subst e1;obtain rfl:v=AG a:=r1;obtain⟨g1,g2,g3⟩:=lK Z e2 e3;refine⟨"dict", "dict.setdefault",Fd,Ek,PySem.F.type_dict_setdefault,g3.typeIs,λb q=>?_,?_⟩;cases q;obtain⟨ob,_,_,h1,h2,_⟩:=g3;exact⟨ob,h1,h2.2.1⟩;have hA:=ha cpos pins s1 σ H1 _ Z q1;rw[hs] at hA ⊢;exact DK (by show(false||(Cd cpos (AA es X.env)).any (·.1))=false;rw[B] <;> rfl) (Ed (thn hA λus s2 ⟨vs,U,I2,r2,q2⟩=>aDb hu I2 r2 q2))
end
abbrev NK:=List (List Int)
abbrev NE:=NK×Addr×V
abbrev pj(x:NE):NK×V:=(x.1,x.2.2)
noncomputable def aPO(x:NE)(e:NK×Addr×Value):Prop:=e.1=x.1/\e.2.1=x.2.1/\bB x.2.2 e.2.2
noncomputable def nkH(k:NK):Int:=IT (Dn (k.map λk=>IT (Dn (k.map K1))))
noncomputable def aPP(x:NK×Addr×Value):Ey:=⟨nkH x.1,.ref x.2.1,x.2.2⟩
noncomputable def aKd(a:Addr)(xs:List NE)(h:Heap):Prop:=
 (a==Cb)=false/\xs.length<=sizeLine/\∃o es ep vs,h.get? a=some o/\o.ExactDict/\o.data=.dict es ep/\es.toList=vs.map aPP/\Fp aPO xs vs/\(xs.map (·.1)).Nodup
abbrev lL(a:Addr)(xs:List NE):HO:=.ext (aKd a xs)
noncomputable def lO(K:Ap)(H:Hp)(k:NK)(b:Addr):Prop:=∃bs:List Addr,SqT K H b (bs.map V.ref)/\Fp (λis c=>SqT K H c (is.map V.int)) k bs
section
variable {X:Cx} {pins:List (Addr×Obj)} {σ:St} {H:Hp} {s:Ad}
theorem aHu:∀I L:Heap,aKd a xs I->(∀o,I.get? a=some o->L.get? a=some o)->aKd a xs L:=by rintro I L ⟨U,Z,o',G,B,vs,z3,z4⟩ M;exact⟨U,Z,o',G,B,vs,M _ z3,z4⟩
theorem Inv.big(I:Inv X pins σ H s):Cb<s.heap.objs.size:=by exact DL (by decide) ((I.ok.mod.glob.keeps I.bk).lt)
noncomputable def aKe:TE:=λ_ H Q=>∀p,H p=none->Q (.ref p) (upd H p (lL p []))
theorem aEv:PE X (.Dict [] [] pos) aKe:=λpins s σ H Q I h=>
 HJ ⟨.ref s.heap.objs.size,_,I.laid (o:=lL s.heap.objs.size []) (λ_ _ q=>Ab _ q) (An _)
  ⟨⟨beq_eq_false_iff_ne.mpr (Dj (A4 I.big)),A9 _,_,#[],0,[],Al _ rfl,⟨rfl,rfl,rfl⟩,rfl,rfl,.nil,DM⟩,⟨_,Al _ rfl⟩,aHu⟩,rfl,h _ (I.hok.fresh (An _))⟩
end
end L2
namespace Hp
open PySem (Str Operator CmpOp)
inductive D where
 | non|bl (b:Bool)|int (i:Int)|str (x:Str)
 | tup (ds:List D)|lst (ds:List D)
 | err (c:Nat) (fs:List D)
 deriving Inhabited
mutual
noncomputable def noL:D->Bool
 | .tup ds=>noLs ds|.lst _=>false|.err _ _=>false|_=>true
noncomputable def noLs:List D->Bool
 | []=>true|d::ds=>noL d&&noLs ds
end
mutual
noncomputable def fW:D->Bool
 | .tup ds=>noDics ds|.lst ds=>noDics ds|.err _ _=>false|_=>true
noncomputable def noDics:List D->Bool
 | []=>true|d::ds=>fW d&&noDics ds
end
noncomputable def lim:Nat:=1000000
noncomputable def b2i(b:Bool):Int:=if b then 1 else 0
noncomputable def eqL(f:D->D->Option Bool):List D->List D->Option Bool
 | [],[]=>some true|a::as,b::bs=>match f a b,eqL f as bs with|some x,some y=>some (x&&y)|_,_=>none
 | _,_=>some false
noncomputable def eqF:Nat->D->D->Option Bool
 | 0,_,_=>none|n+1,a,b=>match a,b with|.non,.non=>some true|.bl a,.bl b=>some (a==b)|.int a,.int b=>some (a==b)|.str a,.str b=>some (a==b)|.bl a,.int b=>some (b2i a==b)|.int a,.bl b=>some (a==b2i b)|.tup as,.tup bs=>eqL (eqF n) as bs|.lst as,.lst bs=>if as.length=bs.length then eqL (eqF n) as bs else some false|.err _ _,_=>none|_,.err _ _=>none|_,_=>some false
noncomputable def dU(n:Nat):List D->List D->Option Bool
 | [],[]=>some true|a::as,b::bs=>match eqF n a b,dU n as bs with|some x,some y=>some (x&&y)|_,_=>none
 | _,_=>some false
@[simp] theorem pE (n:Nat):∀as bs:List D,eqL (eqF n) as bs=dU n as bs
 | [],[]=>rfl|[],_::_=>rfl|_::_,[]=>rfl|a::as,b::bs=>by rw[eqL,dU,pE n as bs]
noncomputable def gM:Nat:=120
noncomputable def eqD(a b:D):Option Bool:=eqF gM a b
inductive R (α:Type) where
 | ok (a:α)|exc (x:D)|bad
 deriving Inhabited
noncomputable def R.bind{α β:Type}(x:R α)(f:α->R β):R β:=match x with|.ok a=>f a|.exc e=>.exc e|.bad=>.bad
instance:Monad R where
 pure:=.ok
 bind:=.bind
noncomputable def R.of{α:Type}:Option α->R α
 | some a=>.ok a|none=>.bad
noncomputable def R.iff{α:Type}(c:Bool)(x:R α):R α:=if c then x else .bad
set_option genInjectivity true in
structure Vl where
 d:D
 fr:Bool:=false
 pa:Bool:=false
 al:List Nat:=[]
 deriving Inhabited
noncomputable def Vl.cl(d:D):Vl:=⟨d,false,false,[]⟩
noncomputable def Vl.sub(v:Vl)(d:D):Vl:=if noL d then .cl d else ⟨d,false,v.pa,v.al⟩
inductive Sl where
 | dead|sh (pa:Bool) (d:D)|own (pa:Bool) (ds:List D)|dct (ks:List (List (List Int)×D))|own2 (dss:List (List D))
 deriving Inhabited
abbrev Sg:=List Sl
noncomputable def Sl.val(i:Nat):Sl->R Vl
 | .dead=>.bad|.sh pa d=>.ok ⟨d,false,pa&&!noL d,[]⟩|.own pa ds=>.ok ⟨.lst ds,false,pa,[i]⟩|.dct _=>.bad|.own2 _=>.bad
noncomputable def cB(σ:Sg)(i:Nat):R Vl:=match σ[i]? with|some s=>s.val i|none=>.bad
noncomputable def Sl.freeze:Sl->Sl
 | .own pa ds=>.sh pa (.lst ds)|s=>s
noncomputable def freeze(σ:Sg):List Nat->Sg
 | []=>σ|i::is=>freeze (match σ[i]? with|some s=>σ.set i s.freeze|none=>σ) is
noncomputable def Vl.slot(v:Vl):Sl:=match v.fr,v.d with|true,.lst ds=>.own v.pa ds|_,d=>.sh v.pa d
inductive Bi where
 | len|list|tuple|min|max|abs|int|str|sum|all|any|sorted|bool|repr
 deriving DecidableEq,Inhabited
inductive Cl where
 | tInt|tBool|tStr|tList|tTuple|tDict|own (c:Nat)|tValueError
 deriving DecidableEq,Inhabited
inductive T where
 | n (i:Nat)
 | t (ts:List Nat)
 deriving Inhabited
mutual
inductive E where
 | c (d:D)
 | v (i:Nat)
 | op (o:Operator) (a b:E)
 | neg (a:E)
 | nt (a:E)
 | an (a b:E)
 | orr (a b:E)
 | ife (t a b:E)
 | cmp (o:CmpOp) (a b:E)
 | cmp2 (o o':CmpOp) (a b c:E)
 | idx (a b:E)
 | sli (a:E) (lo hi:Es)
 | tup (es:Es)
 | lst (es:Es)
 | call (f:Nat) (es:Es)
 | bi (b:Bi) (es:Es)
 | isi (a:E) (cs:List Cl)
 | comp (k:Nat) (caps:List Nat) (t:T) (it:It) (cond:Es) (elt:E)
 | sset (a:E)   -- sorted(set(a)),tuples of numbers
 | srt (a:E)   -- sorted(a),unlike tuples of numbers
 | fld (j:Nat) (f:Str)   -- x.f,x an object
 | mcl (j:Nat) (m:Str) (es:Es)   -- x.m(..),x an object
 | mk (j:Nat) (es:Es)   -- C(..),C a class
 | dgl (o k:E)   -- o.get(k,[]),o a dict of lists
 | in2 (o:CmpOp) (a:E) (j:Nat) (k:E)   -- a in x[k],x a list of lists of one's own
 | add2 (j:Nat) (k e:E)   -- x[k]+e
 | grp (j:Nat)   -- pairs by their first thing,as a dict of lists
inductive Es where
 | nil|cons (e:E) (es:Es)
inductive It where
 | seq (e:E)|rng (a b:E)|zip (a b:E)|enum (a:E)
end
instance:Inhabited E:=⟨.c .non⟩
mutual
inductive S where
 | set (t:T) (e:E)
 | mov (i j:Nat)
 | setIx (i:Nat) (k e:E)
 | app (i:Nat) (e:E)
 | ext (i:Nat) (e:E)
 | ret (e:E)
 | retv (i:Nat)
 | retN
 | iff (c:E) (a b:Ss)
 | for (t:T) (it:It) (b:Ss)
 | brk|cnt|pass
 | ex (e:E)
 | dnew (i:Nat)   -- {}
 | rse (c:Nat) (keep:Bool) (es:Es)
 | set2 (i y:Nat)   -- i=[list(r) for r in y]
 | put2 (i:Nat) (k e:E)   -- i[k]=e,i a list of lists of one's own
 | rem2 (i:Nat) (k e:E)   -- i[k].remove(e)
 | sfl (f:Str) (e:E)   -- self.f=e,within __init__
 | ini   -- the end of __init__ (no text)
inductive Ss where
 | nil|cons (s:S) (ss:Ss)
inductive Hs where
 | nil|cons (cs:List Cl) (n:Option Nat) (b:Ss) (hs:Hs)
end
structure Fn where
 np:Nat
 ns:Nat
 body:Ss
structure Pg where
 fns:List Fn
 above:List (List Cl)
 tabs:List (List (Str×D)):=[]
 objs:List (Str×List Str×List (Str×Nat)):=[]
abbrev Rt:=D×Bool×Bool
abbrev Caller:=Nat->List D->R Rt
noncomputable def xP(i j:Int):Bool:=(decide (-(2 ^ 64)<i)&&decide (i<2 ^ 64))||(decide (-(2 ^ 64)<j)&&decide (j<2 ^ 64))
noncomputable def aIU(i j:Int):Bool:=decide (0<=j)&&decide (j<=1000)&&decide (i.natAbs<2 ^ 64)
noncomputable def xQ(j:Int):Bool:=decide (0<j)&&decide (j<1073741824)
noncomputable def bE(k:Int):Bool:=decide (-(2 ^ 62)<=k)&&decide (k<2 ^ 62)
noncomputable def Str.rep(x:Str)(k:Nat):Str:=⟨(Aj k x.cps).foldl (·++·) #[]⟩
@[simp] noncomputable def aKf (x y:Vl):R Vl:=match x.d,y.d with|.int i,.int j=>.ok (.cl (.int (i+j)))|.str a,.str b=>.iff (decide (a.length+b.length<=lim)) (.ok (.cl (.str (a++b))))|.tup a,.tup b=>.iff (decide (a.length+b.length<=lim)) (.ok ⟨.tup (a++b),false,x.pa||y.pa,x.al++y.al⟩)|.lst a,.lst b=>.iff (decide (a.length+b.length<=lim)) (.ok ⟨.lst (a++b),true,(x.pa&&!noLs a)||(y.pa&&!noLs b),(if noLs a then [] else x.al)++(if noLs b then [] else y.al)⟩)|_,_=>.bad
@[simp] noncomputable def aKg (x y:Vl):R Vl:=match x.d,y.d with|.int i,.int j=>.iff (xP i j) (.ok (.cl (.int (i*j))))|.str a,.int k=>.iff (bE k&&decide (a.length*k.toNat<=lim)) (.ok (.cl (.str (Str.rep a k.toNat))))|.lst a,.int k=>.iff (x.fr&&bE k&&decide (a.length*k.toNat<=lim)&&noLs a) (.ok ⟨.lst (Aj k.toNat a).flatten,true,false,[]⟩)|.tup a,.int k=>.iff (decide (1<=k)&&bE k&&!a.isEmpty&&decide (a.length*k.toNat<=lim)&&noLs a) (.ok (.cl (.tup (Aj k.toNat a).flatten)))|_,_=>.bad
@[simp] noncomputable def xR (f:Int->Int->R Vl) (x y:Vl):R Vl:=match x.d,y.d with|.int i,.int j=>f i j|_,_=>.bad
noncomputable def opD(o:Operator)(x y:Vl):R Vl:=match o with|.Add=>aKf x y|.Mult=>aKg x y|.Sub=>xR (λi j=>.ok (.cl (.int (i-j)))) x y|.FloorDiv=>xR (λi j=>.iff (xQ j) (.ok (.cl (.int (i / j))))) x y|.Mod=>xR (λi j=>.iff (decide (0<j)) (.ok (.cl (.int (i % j))))) x y|.Pow=>xR (λi j=>.iff (aIU i j) (.ok (.cl (.int (i ^ j.toNat))))) x y|_=>.bad
noncomputable def aEw:D->Option Bool
 | .non=>some false|.bl b=>some b|.int i=>some (i != 0)|.str x=>if x.length<=lim then some (x.length != 0) else none|.tup ds=>some (!ds.isEmpty)|.lst ds=>some (!ds.isEmpty)|_=>none
noncomputable def gN(x:Vl):R Bool:=.of (aEw x.d)
noncomputable def bG:List D->Option (List Int)
 | []=>some []|.int a::ds=>match bG ds with|some ns=>some (a::ns)|none=>none
 | _=>none
noncomputable def lexI:List Int->List Int->Bool
 | [],[]=>false|[],_::_=>true|_::_,[]=>false|x::xs,y::ys=>if x=y then lexI xs ys else decide (x<y)
noncomputable def ltD:D->D->Option Bool
 | .int a,.int b=>some (decide (a<b))|_,_=>none
noncomputable def leD:D->D->Option Bool
 | .int a,.int b=>some (decide (a<=b))|_,_=>none
noncomputable def isNone:D->Bool
 | .non=>true|_=>false
noncomputable def hG:List D->Option (List (List D))
 | []=>some []|.lst ds::r=>if noLs ds then (match hG r with|some dss=>some (ds::dss)|none=>none) else none|_=>none
noncomputable def aEx(σ:Sg):Bool:=σ.all fun|.own2 _=>false|_=>true
noncomputable def oC(x:D):List D->Option (List D)
 | []=>none|y::ys=>match eqD y x with
  | some true=>some ys|some false=>(match oC x ys with|some r=>some (y::r)|none=>none)
  | none=>none
noncomputable def aAo(g:List (List Int×List D)):D:=.err 0 (.non::g.flatMap λx=>[.tup (x.1.map D.int),.lst x.2])
noncomputable def hJ(js:List Int):List D->Option D
 | .tup is::d::r=>if bG is=some js then some d else hJ js r|_=>none
noncomputable def fT:List D->Option (List (List Int×D))
 | []=>some []|.tup [.tup is,d]::r=>match bG is,fT r with|some js,some ps=>if noL d then some ((js,d)::ps) else none|_,_=>none
 | _=>none
noncomputable def insM(g:List (List Int×List D))(k:List Int):List (List Int×List D):=if k∈g.map (·.1) then g else g++[(k,[])]
noncomputable def fG(k:List Int)(d:D)(x:List Int×List D):List Int×List D:=if x.1=k then (x.1,x.2++[d]) else x
noncomputable def aAp(g:List (List Int×List D))(p:List Int×D):List (List Int×List D):=(insM g p.1).map (fG p.1 p.2)
noncomputable def dW(ps:List (List Int×D)):List (List Int×List D):=ps.foldl aAp []
noncomputable def hU(f:Str):List D->Bool
 | .str g::_::r=>g != f&&hU f r|_=>true
noncomputable def lP(x:D):List D->Option Bool
 | []=>some false|y::ys=>match eqD y x,lP x ys with|some a,some b=>some (a||b)|_,_=>none
noncomputable def inD(x y:D):Option Bool:=match x,y with|x,.lst ys=>if noDics ys then lP x ys else none|x,.tup ys=>if noDics ys then lP x ys else none|.str a,.str b=>some (!(Ie b a 0 b.length 1).isEmpty)|_,_=>none
noncomputable def cT(o:CmpOp)(x y:D):Option Bool:=match o with
 | .Eq=>eqD x y|.NotEq=>(eqD x y).map (!·)|.Lt=>ltD x y|.Gt=>match x,y with|.int a,.int b=>some (decide (b<a))|_,_=>none
 | .LtE=>leD x y|.GtE=>match x,y with|.int a,.int b=>some (decide (b<=a))|_,_=>none
 | .Is=>match y with|.non=>some (isNone x)|_=>none
 | .IsNot=>match y with|.non=>some (!isNone x)|_=>none
 | .In=>inD x y|.NotIn=>(inD x y).map (!·)
noncomputable def ixN(n:Nat)(k:Int):Option Nat:=
 if 0<=k then (if k<n then some k.toNat else none) else (if -(n:Int)<=k then some (k+n).toNat else none)
noncomputable def eA(x y:Vl):R Vl:=match x.d,y.d with
 | .lst ds,.int k=>match ixN ds.length k with
  | some j=>match ds[j]? with|some d=>.ok (x.sub d)|none=>.bad
  | none=>.bad
 | .tup ds,.int k=>match ixN ds.length k with
  | some j=>match ds[j]? with|some d=>.ok (x.sub d)|none=>.bad
  | none=>.bad
 | .str a,.int k=>.iff (decide (a.length<=lim)) (match ixN a.length k with
  | some j=>match a.cps.toList[j]? with|some c=>.ok (.cl (.str ⟨#[c]⟩))|none=>.bad
  | none=>.bad)
 | _,_=>.bad
noncomputable def sIx(n d:Nat):Option Int->Nat
 | none=>d|some v=>if v<0 then (v+(n:Int)).toNat else min v.toNat n
noncomputable def cut{α:Type}(xs:List α)(lo hi:Option Int):List α:=(xs.drop (sIx xs.length 0 lo)).take (sIx xs.length xs.length hi-sIx xs.length 0 lo)
noncomputable def aDc(x:Str)(lo hi:Option Int):Str:=⟨(cut x.cps.toList lo hi).toArray⟩
noncomputable def iE(x:Vl)(lo hi:Option Int):R Vl:=match x.d with|.lst ds=>.ok ⟨.lst (cut ds lo hi),true,x.pa&&!noLs ds,if noLs ds then [] else x.al⟩|.tup ds=>.ok ⟨.tup (cut ds lo hi),false,x.pa&&!noLs ds,if noLs ds then [] else x.al⟩|.str a=>.iff (decide (a.length<=lim)) (.ok (.cl (.str (aDc a lo hi))))|_=>.bad
noncomputable def isI(cs:List Cl)(P:Pg):D->Option Bool
 | .non=>some false|.bl _=>some (cs.contains .tBool||cs.contains .tInt)|.int _=>some (cs.contains .tInt)|.str _=>some (cs.contains .tStr)|.tup _=>some (cs.contains .tTuple)|.lst _=>some (cs.contains .tList)|.err _ _=>none
noncomputable def aMU:List D->Int->Option Int
 | [],a=>some a|.int i::ds,a=>aMU ds (a+i)|.bl b::ds,a=>aMU ds (a+b2i b)|_,_=>none
noncomputable def cJ:List D->Option (List Bool)
 | []=>some []|.bl a::ds=>match cJ ds with|some bs=>some (a::bs)|none=>none
 | _=>none
noncomputable def aMV(x:D):List D->Option (List D)
 | []=>some [x]|y::ys=>match ltD x y with
  | some true=>some (x::y::ys)|some false=>match aMV x ys with|some r=>some (y::r)|none=>none
  | none=>none
noncomputable def aMW:List D->Option (List D)
 | []=>some []|d::ds=>match aMW ds with|some r=>aMV d r|none=>none
@[simp] noncomputable def aEy (b:Bi) (x:Vl):R Vl:=match b with
 | .len=>match x.d with|.lst ds=>.ok (.cl (.int ds.length))|.tup ds=>.ok (.cl (.int ds.length))|.str a=>.iff (decide (a.length<=lim)) (.ok (.cl (.int a.length)))|_=>.bad
 | .list=>match x.d with|.lst ds=>.ok ⟨.lst ds,true,x.pa&&!noLs ds,if noLs ds then [] else x.al⟩|.tup ds=>.ok ⟨.lst ds,true,x.pa&&!noLs ds,if noLs ds then [] else x.al⟩|_=>.bad
 | .tuple=>match x.d with|.lst ds=>.ok ⟨.tup ds,false,x.pa&&!noLs ds,if noLs ds then [] else x.al⟩|.tup ds=>.ok ⟨.tup ds,false,x.pa,x.al⟩|_=>.bad
 | .int=>match x.d with|.int i=>.ok (.cl (.int i))|.bl b=>.ok (.cl (.int (b2i b)))|_=>.bad
 | .all=>match x.d with
  | .lst ds=>match cJ ds with|some bs=>.ok (.cl (.bl (bs.all id)))|none=>.bad
  | _=>.bad
 | .any=>match x.d with
  | .lst ds=>match cJ ds with|some bs=>.ok (.cl (.bl (bs.any id)))|none=>.bad
  | _=>.bad
 | _=>.bad
@[simp] noncomputable def aMX (b:Bi) (x y:Vl):R Vl:=match b with
 | .min=>match x.d,y.d with|.int i,.int j=>.ok (.cl (.int (if j<i then j else i)))|_,_=>.bad
 | .max=>match x.d,y.d with|.int i,.int j=>.ok (.cl (.int (if j>i then j else i)))|_,_=>.bad
 | _=>.bad
noncomputable def biD(b:Bi)(xs:List Vl):R Vl:=match xs with|[x]=>aEy b x|[x,y]=>aMX b x y|_=>.bad
noncomputable def bQ(vs:List Vl):List Nat:=vs.flatMap (·.al)
noncomputable def dN(vs:List Vl):Bool:=vs.any (·.pa)
noncomputable def aIV(vs:List Vl):Vl:=⟨.tup (vs.map (·.d)),false,dN vs,bQ vs⟩
noncomputable def aBz(vs:List Vl):Vl:=⟨.lst (vs.map (·.d)),true,dN vs,bQ vs⟩
noncomputable def dC(args:List Vl)(r:Rt):Vl:=if r.2.2 then ⟨r.1,r.2.1,dN args,bQ args⟩ else ⟨r.1,r.2.1,false,[]⟩
noncomputable def jZ(a b:Int):List D:=(Au (b-a).toNat).map λ(k:Nat)=>.int (a+(k:Int))
noncomputable def fA:Int->List D->List D
 | _,[]=>[]
 | k,d::ds=>.tup [.int k,d]::fA (k+1) ds
noncomputable def kE:List D->List D->List D
 | a::as,b::bs=>.tup [a,b]::kE as bs|_,_=>[]
noncomputable def bP(σ:Sg)(v:Vl):T->R Sg
 | .n i=>.ok (σ.set i v.slot)|.t is=>match v.d with|.tup ds=>if ds.length=is.length then .ok ((is.zip ds).foldl (λσ p=>σ.set p.1 (v.sub p.2).slot) σ) else .bad|_=>.bad
noncomputable def cN(f:Vl->R (Option Vl)):List Vl->R (List Vl)
 | []=>.ok []|x::xs=>do
  let y<-f x
  let ys<-cN f xs
  match y with
  | some y=>.ok (y::ys)|none=>.ok ys
noncomputable def xS:D->Option (List D)
 | .lst ds=>some ds|.tup ds=>some ds|_=>none
noncomputable def items(x:Vl)(ds:List D):List Vl:=ds.map x.sub
noncomputable def aBA:D->Option (List Int)
 | .tup ds=>bG ds|_=>none
noncomputable def eU:List D->Option (List (List Int))
 | []=>some []|d::ds=>match aBA d,eU ds with|some k,some ks=>some (k::ks)|_,_=>none
noncomputable def xT(k:List Int):List (List Int)->List (List Int)
 | []=>[k]
 | y::ys=>if lexI k y then k::y::ys else if k=y then y::ys else y::xT k ys
noncomputable def ssT(ks:List (List Int)):List (List Int):=ks.foldr xT []
noncomputable def uW(k:List Int):D:=.tup (k.map .int)
noncomputable def neK(ks:List (List Int)):Bool:=ks.all λk=>!k.isEmpty
noncomputable def tupHs(k:List Int):Int:=PySem.reduceHash (Hv (k.map PySem.hashInt))
noncomputable def fB(k:Nat)(caps al:List Nat)(vs:List Vl):Vl:=
 if noLs (vs.map (·.d)) then ⟨.lst (vs.map (·.d)),true,false,[]⟩
 else ⟨.lst (vs.map (·.d)),true,dN vs,al++(bQ vs).filterMap λj=>caps[j-k]?⟩
noncomputable def aAq(f:Str):List D->Option D
 | .str g::d::r=>if g=f then some d else aAq f r|_=>none
noncomputable def aHv(P:Pg):D->Option ((List Str×List (Str×Nat))×List D)
 | .err _ (.str c::ds)=>(P.objs.lookup c).map λk=>(k,ds)
 | _=>none
noncomputable def uX(P:Pg)(f:Str)(x:Vl):R Vl:=match aHv P x.d with|some (k,ds)=>.iff (k.1.contains f) (match aAq f ds with|some d=>.ok (x.sub d)|none=>.bad)|none=>.bad
noncomputable def iF(P:Pg)(m:Str)(d:D):Option Nat:=match aHv P d with|some (k,ds)=>if aAq m ds=none then k.2.lookup m else none|none=>none
section
variable (P:Pg) (cl:Caller)
mutual
noncomputable def ev(σ:Sg):E->R Vl
 | .c d=>.ok (.cl d)|.v i=>cB σ i|.op o a b=>do let x<-ev σ a;let y<-ev σ b;opD o x y
 | .neg a=>do
  let x<-ev σ a
  match x.d with
  | .int i=>.ok (.cl (.int (-i)))|_=>.bad
 | .nt a=>do let x<-ev σ a;let k<-gN x;.ok (.cl (.bl (!k)))
 | .an a b=>do
  let x<-ev σ a
  match x.d with
  | .bl true=>ev σ b|.bl false=>.ok (.cl (.bl false))|_=>.bad
 | .orr a b=>do
  let x<-ev σ a
  match x.d with
  | .bl true=>.ok (.cl (.bl true))|.bl false=>ev σ b|_=>.bad
 | .ife t a b=>do
  let x<-tst σ t
  if x then ev σ a else ev σ b
 | .cmp o a b=>do
  let x<-ev σ a
  let y<-ev σ b
  match cT o x.d y.d with
  | some k=>.ok (.cl (.bl k))|none=>.bad
 | .cmp2 o o' a b c=>do
  let x<-ev σ a
  let y<-ev σ b
  match cT o x.d y.d with
  | some true=>do
   let z<-ev σ c
   match cT o' y.d z.d with
   | some k=>.ok (.cl (.bl k))|none=>.bad
  | some false=>.ok (.cl (.bl false))|none=>.bad
 | .idx a b=>do let x<-ev σ a;let y<-ev σ b;eA x y
 | .sli a lo hi=>do
  let x<-ev σ a
  let l<-evs σ lo
  let h<-evs σ hi
  match l,h with
  | [],[]=>iE x none none|[l],[]=>match l.d with|.int l=>.iff (bE l) (iE x (some l) none)|_=>.bad
  | [],[h]=>match h.d with|.int h=>.iff (bE h) (iE x none (some h))|_=>.bad
  | [l],[h]=>match l.d,h.d with|.int l,.int h=>.iff (bE l&&bE h) (iE x (some l) (some h))|_,_=>.bad
  | _,_=>.bad
 | .tup es=>do let vs<-evs σ es;.ok (aIV vs)
 | .lst es=>do let vs<-evs σ es;.ok (aBz vs)
 | .call f es=>do
  let vs<-evs σ es
  let r<-cl f (vs.map (·.d))
  .ok (dC vs r)
 | .bi b es=>do let vs<-evs σ es;biD b vs
 | .isi a cs=>do
  let x<-ev σ a
  match isI cs P x.d with
  | some k=>.ok (.cl (.bl k))|none=>.bad
 | .comp k caps t it cond elt=>do
  let xs<-walk σ it
  let vs<-cN (λx=>do
   let σ1<-bP (Aj k .dead++caps.map λi=>((freeze σ xs.2)[i]?).getD .dead) x t
   let k<-tsts σ1 cond
   if k then do let y<-ev σ1 elt;.ok (some y) else .ok none) xs.1
  .iff (decide (vs.length<=lim)) (.ok (fB k caps xs.2 vs))
 | .fld j f=>do
  let x<-cB σ j
  uX P f x
 | .mcl j m es=>do
  let x<-cB σ j
  let vs<-evs σ es
  match iF P m x.d with
  | some f=>do
   let r<-cl f (x.d::vs.map (·.d))
   .ok (dC (x::vs) r)
  | none=>.bad
 | .mk j es=>do
  let vs<-evs σ es
  let r<-cl (P.fns.length+j) (vs.map (·.d))
  .ok (dC vs r)
 | .dgl o k=>do
  let x<-ev σ o
  let y<-ev σ k
  match x.d,y.d with
  | .err _ (.non::ds),.tup is=>match bG is with
   | some js=>match hJ js ds with|some d=>.ok (x.sub d)|none=>.ok (.cl (.lst []))
   | none=>.bad
  | _,_=>.bad
 | .in2 o a j k=>do
  let x<-ev σ a
  let y<-ev σ k
  match σ[j]?,y.d with
  | some (.own2 dss),.int k=>match ixN dss.length k with
   | some q=>match o,inD x.d (.lst (dss.getD q [])) with|.In,some b=>.ok (.cl (.bl b))|.NotIn,some b=>.ok (.cl (.bl !b))|_,_=>.bad
   | none=>.bad
  | _,_=>.bad
 | .add2 j k e=>do
  let y<-ev σ k
  let z<-ev σ e
  match σ[j]?,y.d,z.d with
  | some (.own2 dss),.int k,.lst bs=>match ixN dss.length k with|some q=>.iff (noLs bs&&decide ((dss.getD q []).length+bs.length<=lim)) (.ok ⟨.lst (dss.getD q []++bs),true,false,[]⟩)|none=>.bad
  | _,_,_=>.bad
 | .grp j=>do
  let x<-cB σ j
  match x.d with
  | .lst ds=>match fT ds with|some ps=>.iff (decide (ps.length<lim)) (.ok (.cl (aAo (dW ps))))|none=>.bad
  | _=>.bad
 | .sset a=>do
  let x<-ev σ a
  match x.d with
  | .lst ds=>match eU ds with|some ks=>.iff (neK ks&&decide ((ssT ks).length<=18)) (.ok ⟨.lst ((ssT ks).map uW),true,false,[]⟩)|none=>.bad
  | _=>.bad
 | .srt a=>do
  let x<-ev σ a
  match x.d with
  | .lst ds=>match eU ds with|some ks=>.iff (neK ks&&decide ks.Nodup&&decide (ks.length<=60)) (.ok ⟨.lst ((ssT ks).map uW),true,false,[]⟩)|none=>.bad
  | _=>.bad
noncomputable def tst(σ:Sg):E->R Bool
 | .nt a=>do let x<-tst σ a;.ok (!x)
 | .an a b=>do
  let x<-tst σ a
  if x then tst σ b else .ok false
 | .orr a b=>do
  let x<-tst σ a
  if x then .ok true else tst σ b
 | .c d=>gN (.cl d)|.v i=>do let x<-cB σ i;gN x
 | .cmp o a b=>do
  let x<-ev σ a
  let y<-ev σ b
  match cT o x.d y.d with
  | some k=>.ok k|none=>.bad
 | .cmp2 o o' a b c=>do
  let x<-ev σ a
  let y<-ev σ b
  match cT o x.d y.d with
  | some true=>do
   let z<-ev σ c
   match cT o' y.d z.d with
   | some k=>.ok k|none=>.bad
  | some false=>.ok false|none=>.bad
 | .call f es=>do
  let vs<-evs σ es
  let r<-cl f (vs.map (·.d))
  gN (dC vs r)
 | .mcl j m es=>do
  let x<-cB σ j
  let vs<-evs σ es
  match iF P m x.d with
  | some f=>do
   let r<-cl f (x.d::vs.map (·.d))
   gN (dC (x::vs) r)
  | none=>.bad
 | .bi b es=>do let vs<-evs σ es;let x<-biD b vs;gN x
 | .idx a b=>do let x<-ev σ a;let y<-ev σ b;let z<-eA x y;gN z
 | .isi a cs=>do
  let x<-ev σ a
  match isI cs P x.d with
  | some k=>.ok k|none=>.bad
 | .in2 o a j k=>do
  let x<-ev σ a
  let y<-ev σ k
  match σ[j]?,y.d with
  | some (.own2 dss),.int k=>match ixN dss.length k with
   | some q=>match o,inD x.d (.lst (dss.getD q [])) with|.In,some b=>.ok b|.NotIn,some b=>.ok !b|_,_=>.bad
   | none=>.bad
  | _,_=>.bad
 | _=>.bad
noncomputable def evs(σ:Sg):Es->R (List Vl)
 | .nil=>.ok []|.cons e es=>do let x<-ev σ e;let xs<-evs σ es;.ok (x::xs)
noncomputable def walk(σ:Sg):It->R (List Vl×List Nat)
 | .seq e=>do
  let x<-ev σ e
  match x.d with
  | .lst ds=>.ok (items x ds,x.al)|.tup ds=>.ok (items x ds,x.al)|.str a=>.iff (decide (a.length<=lim)) (.ok (a.cps.toList.map λn=>.cl (.str ⟨#[n]⟩),[]))|_=>.bad
 | .rng a b=>do
  let x<-ev σ a
  let y<-ev σ b
  match x.d,y.d with
  | .int i,.int j=>.iff (bE i&&bE j) (.ok ((jZ i j).map .cl,[]))|_,_=>.bad
 | .zip a b=>do
  let x<-ev σ a
  let y<-ev σ b
  match xS x.d,xS y.d with
  | some as,some bs=>.ok (items ⟨.non,false,x.pa||y.pa,x.al++y.al⟩ (kE as bs),x.al++y.al)|_,_=>.bad
 | .enum a=>do
  let x<-ev σ a
  match xS x.d with
  | some as=>.ok (items x (fA 0 as),x.al)|none=>.bad
noncomputable def tsts(σ:Sg):Es->R Bool
 | .nil=>.ok true|.cons e es=>do
  let x<-tst σ e
  if x then tsts σ es else .ok false
end
inductive O where
 | next (σ:Sg)|brk (σ:Sg)|cnt (σ:Sg)|ret (v:Vl)|exc (x:D) (σ:Sg)|bad
 deriving Inhabited
noncomputable def O.from{α:Type}(σ:Sg)(x:R α)(f:α->O):O:=match x with|.ok a=>f a|.exc e=>.exc e σ|.bad=>.bad
noncomputable def O.on(o:O)(f:Sg->O):O:=match o with|.next σ=>f σ|o=>o
noncomputable def dO(f:Sg->Vl->O):List Vl->Sg->O
 | [],σ=>.next σ|x::xs,σ=>match f σ x with|.next σ'=>dO f xs σ'|.cnt σ'=>dO f xs σ'|.brk σ'=>.next σ'|o=>o
noncomputable def nQ(σ:Sg)(i:Nat):Option (Bool×List D):=match σ[i]? with|some (.own pa ds)=>some (pa,ds)|_=>none
noncomputable def put(σ:Sg)(i:Nat)(v:Vl)(f:List D->Option (List D)):O:=match nQ (freeze σ v.al) i with
 | some (pa,ds)=>match f ds with|some ds'=>if ds'.length<=lim then .next ((freeze σ v.al).set i (.own (pa||v.pa) ds')) else .bad|none=>.bad
 | none=>.bad
noncomputable def aMY(σ:Sg)(i:Nat)(v:Vl):O:=put σ i v λds=>some (ds++[v.d])
noncomputable def aBB(v:Vl):Option (Vl×List D):=match v.fr,v.d with|true,.lst ds=>some (⟨.non,false,v.pa&&!noLs ds,if noLs ds then [] else v.al⟩,ds)|_,_=>none
mutual
noncomputable def ex(σ:Sg):S->O
 | .set t e=>O.from σ (ev P cl σ e) λv=>O.from σ (bP (freeze σ v.al) v t) .next|.mov i j=>match σ[j]? with|some (.own pa ds)=>if i=j then .bad else .next ((σ.set j .dead).set i (.own pa ds))|some (.sh pa d)=>.next (σ.set i (.sh (pa&&!noL d) d))|_=>.bad
 | .setIx i k e=>O.from σ (ev P cl σ e) λv=>O.from σ (ev P cl σ k) λkv=>match kv.d with
  | .int k=>put σ i v λds=>match ixN ds.length k with|some j=>some (ds.set j v.d)|none=>none
  | _=>.bad
 | .app i e=>O.from σ (ev P cl σ e) λv=>aMY σ i v|.ext i e=>O.from σ (ev P cl σ e) λv=>match aBB v with|some (v',ds')=>put σ i v' λds=>some (ds++ds')|none=>.bad
 | .ret e=>O.from σ (ev P cl σ e) .ret|.retv i=>match σ[i]? with|some (.own pa ds)=>.ret ⟨.lst ds,true,pa,[]⟩|some (.own2 dss)=>.ret ⟨.lst (dss.map .lst),true,false,[]⟩|_=>O.from σ (cB σ i) .ret
 | .retN=>.ret (.cl .non)|.iff c a b=>O.from σ (tst P cl σ c) λk=>if k then exs σ a else exs σ b|.for t it b=>O.from σ (walk P cl σ it) λxs=>dO (λσ x=>O.from σ (bP σ x t) λσ'=>exs σ' b) xs.1 (freeze σ xs.2)|.brk=>.brk σ|.cnt=>.cnt σ|.pass=>.next σ|.ex e=>O.from σ (ev P cl σ e) λ_=>.next σ|.dnew i=>.next (σ.set i (.dct []))|.rse c keep es=>O.from σ (evs P cl σ es) λvs=>.exc (.err c (if keep then vs.map (·.d) else [])) σ|.set2 i y=>O.from σ (cB σ y) λv=>match v.d with
  | .lst ds=>(match hG ds,aEx σ with
   | some dss,true=>if ds.length<=lim then .next (σ.set i (.own2 dss)) else .bad|_,_=>.bad)
  | _=>.bad
 | .put2 i k e=>O.from σ (ev P cl σ e) λv=>O.from σ (ev P cl σ k) λkv=>match σ[i]?,kv.d,v.fr,v.d with
  | some (.own2 dss),.int k,true,.lst ds=>(match ixN dss.length k,noLs ds with
   | some q,true=>.next (σ.set i (.own2 (dss.set q ds)))|_,_=>.bad)
  | _,_,_,_=>.bad
 | .rem2 i k e=>O.from σ (ev P cl σ k) λkv=>O.from σ (ev P cl σ e) λv=>match σ[i]?,kv.d with
  | some (.own2 dss),.int k=>(match ixN dss.length k with
   | some q=>(match oC v.d (dss.getD q []) with
    | some ds=>.next (σ.set i (.own2 (dss.set q ds)))|none=>.bad)
   | none=>.bad)
  | _,_=>.bad
 | .sfl f e=>O.from σ (ev P cl (σ.set 0 .dead) e) λv=>match σ[(0:Nat)]? with
  | some (.sh _ (.err 0 (.int 0::.str c::fs)))=>(match P.objs.lookup c with
   | some k=>if k.1.contains f&&v.al.isEmpty&&decide (fs.length<1000)&&hU f fs then .next (σ.set 0 (.sh true (.err 0 (.int 0::.str c::(fs++[.str f,v.d]))))) else .bad|none=>.bad)
  | _=>.bad
 | .ini=>match σ[(0:Nat)]? with|some (.sh _ (.err 0 (.int 0::.str c::fs)))=>.ret ⟨.err 0 (.str c::fs),false,true,[]⟩|_=>.bad
noncomputable def exs(σ:Sg):Ss->O
 | .nil=>.next σ|.cons s ss=>(ex σ s).on λσ'=>exs σ' ss
noncomputable def hdl(σ:Sg)(x:D):Hs->O
 | .nil=>.exc x σ|.cons cs n b hs=>match isI cs P x with
  | some true=>match n with|none=>exs σ b|some i=>match exs (σ.set i (.sh true x)) b with|.next σ'=>.next (σ'.set i .dead)|.brk σ'=>.brk (σ'.set i .dead)|.cnt σ'=>.cnt (σ'.set i .dead)|.exc x σ'=>.exc x (σ'.set i .dead)|o=>o
  | some false=>hdl σ x hs|none=>.bad
end
noncomputable def mS(f:Nat)(ds:List D):R Rt:=match P.fns[f]? with
 | none=>match P.objs[f-P.fns.length]? with
  | some (c,k)=>match k.2.lookup ("__init__" : Str) with
   | some fi=>do
    let r<-cl fi (.err 0 [.int 0,.str c]::ds)
    .ok (r.1,false,true)
   | none=>.bad
  | none=>.bad
 | some F=>if ds.length=F.np then
  match exs P cl ((ds.map λd=>Sl.sh true d)++Aj (F.ns-F.np) Sl.dead) F.body with
  | .ret v=>.ok (v.d,v.fr,v.pa)|.next _=>.ok (.non,false,false)|.exc x _=>.exc x|_=>.bad
  else .bad
end
noncomputable def call(P:Pg):Nat->Caller
 | 0=>λ_ _=>.bad|n+1=>mS P (call P n)
end Hp
namespace Hp
open PySem
structure Ct where
 N:List Str
 sc:List (Str×Ci)
 fns:List Str
 cns:List (Str×D)
 cls:List Str
 fn:Bool
 tbs:List Str
 obs:List Str:=[]
noncomputable def aEz(Γ:Ct)(x:Str):Bool:=match Γ.sc.lookup x with|some .local=>true|some .cell=>true|some .free=>true|_=>false
noncomputable def xU(Γ:Ct)(x:Str):Bool:=match Γ.sc.lookup x with|some .local=>true|some .cell=>Γ.fn|_=>false
noncomputable def sU(sc names:List (Str×Ci)):List (Str×Ci):=names.map λ(n,k)=>if (k==.free&&sc.lookup n==some .cell) then (n,.cell) else (n,k)
noncomputable def pF:A6->Bool
 | .Tuple _ _ _=>true|_=>false
noncomputable def tIx:T->List Nat
 | .n i=>[i]
 | .t is=>is
noncomputable def dD(Γ:Ct)(x:Str):Bool:=match Γ.sc.lookup x with|some .globalImplicit=>true|_=>false
noncomputable def dA(x:Str):Bool:=!(x==("__debug__" : Str))&&!(x==("__classdict__" : Str))
noncomputable def bK(Γ:Ct)(i:Nat)(x:Str):Bool:=(Γ.N[i]?==some x)&&aEz Γ x&&dA x
noncomputable def bR(Γ:Ct)(i:Nat)(x:Str):Bool:=(Γ.N[i]?==some x)&&xU Γ x&&dA x
noncomputable def eqC:D->Const->Bool
 | .non,.none=>true|.bl a,.bool b=>a==b|.int a,.int b=>a==b|.str a,.str b=>a==b|_,_=>false
noncomputable def eqK:D->D->Bool
 | .non,.non=>true|.bl a,.bl b=>a==b|.int a,.int b=>a==b|.str a,.str b=>a==b|_,_=>false
noncomputable def kG:Bi->Str
 | .len => "len" | .list => "list" | .tuple => "tuple" | .min => "min" | .max => "max" | .abs => "abs" | .int => "int" | .str => "str" | .sum => "sum" | .all => "all" | .any => "any" | .sorted => "sorted" | .bool => "bool" | .repr => "repr"
noncomputable def aEA:Bi->Bool
 | .len=>true|.list=>true|.tuple=>true|.max=>true|.all=>true
 | _=>false
noncomputable def aAr:Cl->Bool
 | .own _=>false|.tValueError=>false|_=>true
noncomputable def dJ(Γ:Ct):Cl->Option Str
 | .tInt=>some "int" | .tBool=>some "bool" | .tStr=>some "str" | .tList=>some "list" | .tTuple=>some "tuple" | .tDict=>some "dict" | .tValueError=>some "ValueError"
 | .own c=>Γ.cls[c]?
noncomputable def sV(Γ:Ct)(c:Cl):A6->Bool
 | .Name x _=>(dJ Γ c==some x)&&dD Γ x&&dA x|_=>false
noncomputable def pG(Γ:Ct):T->A6->Bool
 | .n i,.Name x _=>bR Γ i x|.t is,.Tuple es _ _=>is.length==es.length&&(is.zip es).all λp=>match p.2 with|.Name x _=>bR Γ p.1 x|_=>false
 | _,_=>false
noncomputable def fU:A6->List Str
 | .Name x _=>[x]
 | .Tuple es _ _=>es.filterMap fun|.Name x _=>some x|_=>none
 | _=>[]
noncomputable def aMZ:A6->Bool
 | .Name _ _=>true|.Attribute _ _ _=>true|_=>false
noncomputable def aAs:E->Bool
 | .c (.int i)=>i==0|_=>false
noncomputable def asC(e:A6):Option { c:Const // ∃k p,e=.Constant c k p }:=match e with|.Constant c k p=>some ⟨c,k,p,rfl⟩|_=>none
noncomputable def asN(e:A6):Option { x:Str // ∃p,e=.Name x p }:=match e with|.Name x p=>some ⟨x,p,rfl⟩|_=>none
noncomputable def aIW(e:A6):Option { r:A6×Operator×A6 // ∃p,e=.BinOp r.1 r.2.1 r.2.2 p }:=match e with|.BinOp l o r p=>some ⟨(l,o,r),p,rfl⟩|_=>none
noncomputable def aNa(e:A6):Option { r:UnaryOp×A6 // ∃p,e=.UnaryOp r.1 r.2 p }:=match e with|.UnaryOp o x p=>some ⟨(o,x),p,rfl⟩|_=>none
noncomputable def aNb(e:A6):Option { r:BoolOp×List A6×Du // e=.BoolOp r.1 r.2.1 r.2.2 }:=match e with|.BoolOp o xs p=>some ⟨(o,xs,p),rfl⟩|_=>none
noncomputable def aPQ(e:A6):Option { r:A6×A6×A6 // ∃p,e=.IfExp r.1 r.2.1 r.2.2 p }:=match e with|.IfExp t a b p=>some ⟨(t,a,b),p,rfl⟩|_=>none
noncomputable def aEB(e:A6):Option { r:A6×List CmpOp×List A6 // ∃p,e=.Compare r.1 r.2.1 r.2.2 p }:=match e with|.Compare l os rs p=>some ⟨(l,os,rs),p,rfl⟩|_=>none
noncomputable def pH(e:A6):Option { r:A6×A6 // ∃p,e=.Subscript r.1 r.2 p }:=match e with|.Subscript x i p=>some ⟨(x,i),p,rfl⟩|_=>none
noncomputable def aPR(e:A6):Option { r:Option A6×Option A6 // ∃p,e=.Slice r.1 r.2 none p }:=match e with|.Slice l h none p=>some ⟨(l,h),p,rfl⟩|_=>none
noncomputable def aIX(e:A6):Option { r:Str×Str // ∃p q,e=.Attribute (.Name r.1 p) r.2 q }:=match e with|.Attribute (.Name x p) f q=>some ⟨(x,f),p,q,rfl⟩|_=>none
noncomputable def aIY(e:A6):Option { r:List A6 // ∃k p,e=.Tuple r k p }:=match e with|.Tuple xs k p=>some ⟨xs,k,p,rfl⟩|_=>none
noncomputable def aEC(e:A6):Option { r:List A6 // ∃p,e=.List r p }:=match e with|.List xs p=>some ⟨xs,p,rfl⟩|_=>none
noncomputable def mT(e:A6):Option { r:Str×List A6 // ∃p1 p2,e=.Call (.Name r.1 p1) r.2 [] p2 }:=match e with|.Call (.Name x p1) xs [] p2=>some ⟨(x,xs),p1,p2,rfl⟩|_=>none
noncomputable def aED(e:A6):Option { r:A6×Str×List A6×Bool // ∃ap cp,e=.Call (.Attribute r.1 r.2.1 ap) r.2.2.1 [] cp/\(ap.endLine==cp.line)=r.2.2.2 }:=match e with|.Call (.Attribute x a ap) xs [] cp=>some ⟨(x,a,xs,ap.endLine==cp.line),ap,cp,rfl,rfl⟩|_=>none
noncomputable def aPS(e:A6):Option { r:A6×List Comprehension×De // ∃p,e=.ListComp r.1 r.2.1 r.2.2 p }:=match e with|.ListComp e gs s p=>some ⟨(e,gs,s),p,rfl⟩|_=>none
noncomputable def oB{α:Type}(o:Option α)(f:α->Bool):Bool:=match o with|some a=>f a|none=>false
noncomputable def oS{α:Type}{q:α->Prop}(o:Option { a:α // q a })(f:α->Bool):Bool:=match o with|some a=>f a.1|none=>false
mutual
noncomputable def aR(Γ:Ct):E->A6->Bool
 | .c d,e=>oS (asC e) (eqC d)||oS (asN e) λx=>dD Γ x&&dA x&&oB (Γ.cns.lookup x) (eqK d)|.v i,e=>oS (asN e) (bK Γ i)|.op o a b,e=>oS (aIW e) λp=>o==p.2.1&&aR Γ a p.1&&aR Γ b p.2.2|.neg a,e=>oS (aNa e) λp=>p.1==.USub&&aR Γ a p.2|.nt a,e=>oS (aNa e) λp=>p.1==.Not&&aR Γ a p.2|.an a b,e=>oS (aNb e) λp=>p.1==.And&&(match p.2.1 with
  | [x,y]=>aR Γ a x&&aR Γ b y|x::y::z::r=>aR Γ a x&&aR Γ b (.BoolOp .And (y::z::r) p.2.2)|_=>false)
 | .orr a b,e=>oS (aNb e) λp=>p.1==.Or&&(match p.2.1 with
  | [x,y]=>aR Γ a x&&aR Γ b y|x::y::z::r=>aR Γ a x&&aR Γ b (.BoolOp .Or (y::z::r) p.2.2)|_=>false)
 | .ife t a b,e=>oS (aPQ e) λp=>aR Γ t p.1&&aR Γ a p.2.1&&aR Γ b p.2.2|.cmp o a b,e=>oS (aEB e) λp=>(match p.2.1,p.2.2 with
  | [o'],[r]=>o==o'&&aR Γ a p.1&&aR Γ b r|_,_=>false)
 | .cmp2 o1 o2 a b c,e=>oS (aEB e) λp=>(match p.2.1,p.2.2 with
  | [o1',o2'],[m,r]=>o1==o1'&&o2==o2'&&aR Γ a p.1&&aR Γ b m&&aR Γ c r|_,_=>false)
 | .srt a,e=>oS (mT e) λp=>(p.1==("sorted" : Str))&&dD Γ p.1&&(match p.2 with|[x]=>aR Γ a x|_=>false)|.fld j f,e=>oS (aIX e) λp=>bK Γ j p.1&&(p.2==f)|.mcl j m es,e=>oS (aED e) λp=>oS (asN p.1) λx=>bK Γ j x&&(p.2.1==m)&&p.2.2.2&&decide (p.2.2.1.length<30)&&!p.2.2.1.isEmpty&&chkEs Γ es p.2.2.1|.mk j es,e=>oS (mT e) λp=>(Γ.obs[j]?==some p.1)&&dD Γ p.1&&dA p.1&&!p.2.isEmpty&&chkEs Γ es p.2|.dgl o k,e=>oS (aED e) λp=>(p.2.1==("get" : Str))&&p.2.2.2&&aMZ p.1&&aR Γ o p.1&&(match p.2.2.1 with
  | [y,z]=>aR Γ k y&&oS (aEC z) λl=>l.isEmpty|_=>false)
 | .grp _,_=>false|.in2 o a j k,e=>oS (aEB e) λp=>(match p.2.1,p.2.2 with
  | [o'],[r]=>o==o'&&aR Γ a p.1&&oS (pH r) λu=>oS (asN u.1) (bK Γ j)&&aR Γ k u.2|_,_=>false)
 | .add2 j k b,e=>oS (aIW e) λp=>Operator.Add==p.2.1&&(oS (pH p.1) λu=>oS (asN u.1) (bK Γ j)&&aR Γ k u.2)&&aR Γ b p.2.2|.sset a,e=>oS (mT e) λp=>(match p.2 with
  | [s]=>oS (mT s) λq=>(p.1==("sorted" : Str))&&dD Γ p.1&&(q.1==("set" : Str))&&dD Γ q.1&&(match q.2 with|[x]=>aR Γ a x|_=>false)|_=>false)
 | .idx a b,e=>oS (pH e) λp=>aR Γ a p.1&&aR Γ b p.2|.sli a lo hi,e=>oS (pH e) λp=>oS (aPR p.2) λq=>aR Γ a p.1&&chkO Γ lo q.1&&chkO Γ hi q.2|.tup es,e=>oS (aIY e) λxs=>decide (xs.length<=1000)&&chkEs Γ es xs|.lst es,e=>oS (aEC e) λxs=>decide (xs.length<=1000)&&chkEs Γ es xs|.call f es,e=>oS (mT e) λp=>(Γ.fns[f]?==some p.1)&&dD Γ p.1&&dA p.1&&chkEs Γ es p.2|.bi b es,e=>oS (mT e) λp=>aEA b&&(kG b==p.1)&&dD Γ p.1&&dA p.1&&!p.2.isEmpty&&chkEs Γ es p.2|.isi a cs,e=>oS (mT e) λp=>(match cs,p.2 with
  | [c],[x,y]=>(p.1==("isinstance" : Str))&&dD Γ p.1&&aAr c&&aR Γ a x&&sV Γ c y|[c,d],[x,y]=>(p.1==("isinstance" : Str))&&dD Γ p.1&&aAr c&&aAr d&&aR Γ a x&&(oS (aIY y) λl=>match l with|[u,v]=>sV Γ c u&&sV Γ d v|_=>false)|_,_=>false)
 | .comp k caps t it cond elt,e=>oS (aPS e) λp=>(match p.2.1 with
  | [⟨tg,iter,ifs,as⟩]=>
   as==0&&(fU tg).length==k&&(caps.all λi=>decide (i<Γ.N.length))&&decide caps.Nodup&&p.2.2.kind==.function&&decide (fU tg++caps.filterMap λi=>Γ.N[i]?).Nodup &&
   ((caps.filterMap λi=>Γ.N[i]?).all λx=>p.2.2.names.lookup x==some .free&&Γ.sc.lookup x==some .cell) &&
   (p.2.2.names.all λq=>q.2 != .cell&&(q.2 != .local||p.2.2.names.lookup q.1==some .local)&&(q.2 != .free||Γ.sc.lookup q.1==some .cell)) &&
   ((tIx t).all λi=>decide (i<k))&&decide (ifs.length<=1) &&
   pG { Γ with N:=fU tg++caps.filterMap λi=>Γ.N[i]?,sc:=sU Γ.sc p.2.2.names,fn:=false } t tg&&chkI Γ (pF tg) it iter &&
   chkEs { Γ with N:=fU tg++caps.filterMap λi=>Γ.N[i]?,sc:=sU Γ.sc p.2.2.names,fn:=false } cond ifs &&
   aR { Γ with N:=fU tg++caps.filterMap λi=>Γ.N[i]?,sc:=sU Γ.sc p.2.2.names,fn:=false } elt p.1
  | _=>false)
noncomputable def chkEs(Γ:Ct):Es->List A6->Bool
 | .nil,[]=>true|.cons e es,x::xs=>aR Γ e x&&chkEs Γ es xs|_,_=>false
noncomputable def chkO(Γ:Ct):Es->Option A6->Bool
 | .nil,none=>true|.cons e .nil,some x=>aR Γ e x|_,_=>false
noncomputable def chkI(Γ:Ct)(tt:Bool):It->A6->Bool
 | .rng a b,e=>oS (mT e) λp=>(p.1==("range" : Str))&&dD Γ p.1&&(match p.2 with
  | [x]=>aAs a&&aR Γ b x|[x,y]=>aR Γ a x&&aR Γ b y|_=>false)
 | .zip a b,e=>oS (mT e) λp=>(match p.2 with
  | [x,y]=>tt&&(p.1==("zip" : Str))&&dD Γ p.1&&aR Γ a x&&aR Γ b y|_=>false)
 | .seq c,x=>aR Γ c x|.enum a,e=>oS (mT e) λp=>(match p.2 with
  | [x]=>tt&&(p.1==("enumerate" : Str))&&dD Γ p.1&&aR Γ a x|_=>false)
end
noncomputable def pI:A6->Bool
 | .ListComp _ _ _ _=>true|.SetComp _ _ _ _=>true|.DictComp _ _ _ _ _=>true|_=>false
noncomputable def pJ:A6->Bool
 | .Tuple _ _ _=>true|.List _ _=>true|_=>false
noncomputable def aKh:A6->Bool
 | .Name _ _=>true|_=>false
noncomputable def xV(Γ:Ct)(i:Nat)(m:Str):A6->Option (List A6)
 | .Call (.Attribute (.Name x _) a ap) xs [] cp=>if (a==m)&&bK Γ i x&&(ap.endLine==cp.line) then some xs else none|_=>none
noncomputable def aPT(e:A6):Option { r:Unit // ∃p,e=.Dict [] [] p }:=match e with|.Dict [] [] p=>some ⟨(),p,rfl⟩|_=>none
noncomputable def aAt(s:BY):Option { r:A6×A6 // ∃p,s=.Assign [r.1] r.2 p }:=match s with|.Assign [t] v p=>some ⟨(t,v),p,rfl⟩|_=>none
noncomputable def sEx(s:BY):Option { r:A6 // ∃p,s=.Expr r p }:=match s with|.Expr v p=>some ⟨v,p,rfl⟩|_=>none
noncomputable def aKi(s:BY):Option { r:Option A6 // ∃p,s=.Return r p }:=match s with|.Return v p=>some ⟨v,p,rfl⟩|_=>none
noncomputable def sIf(s:BY):Option { r:A6×List BY×List BY // ∃p,s=.If r.1 r.2.1 r.2.2 p }:=match s with|.If t x y p=>some ⟨(t,x,y),p,rfl⟩|_=>none
noncomputable def aNc(s:BY):Option { r:A6×A6×List BY // ∃p,s=.For r.1 r.2.1 r.2.2 [] p }:=match s with|.For t i b [] p=>some ⟨(t,i,b),p,rfl⟩|_=>none
noncomputable def aPU(s:BY):Option { r:Unit // ∃p,s=.Break p }:=match s with|.Break p=>some ⟨(),p,rfl⟩|_=>none
noncomputable def aPV(s:BY):Option { r:Unit // ∃p,s=.Continue p }:=match s with|.Continue p=>some ⟨(),p,rfl⟩|_=>none
noncomputable def aNd(s:BY):Option { r:Unit // ∃p,s=.Pass p }:=match s with|.Pass p=>some ⟨(),p,rfl⟩|_=>none
mutual
noncomputable def eV(Γ:Ct):S->BY->Bool
 | .set t e,s=>oS (aAt s) λr=>pG Γ t r.1&&aR Γ e r.2&&(aKh r.1||!pJ r.2)|.mov i j,s=>oS (aAt s) λr=>oS (asN r.1) λx=>oS (asN r.2) λy=>bR Γ i x&&bK Γ j y|.dnew i,s=>oS (aAt s) λr=>oS (asN r.1) λx=>bR Γ i x&&oS (aPT r.2) λ_=>true|.setIx i k e,s=>oS (aAt s) λr=>oS (pH r.1) λu=>oS (asN u.1) λx=>bK Γ i x&&aR Γ k u.2&&aR Γ e r.2|.app i e,s=>oS (sEx s) λc=>(match xV Γ i "append" c with|some [a]=>aR Γ e a|_=>false)
 | .ext i e,s=>oS (sEx s) λc=>(match xV Γ i "extend" c with|some [a]=>aR Γ e a|_=>false)
 | .ret e,s=>oS (aKi s) λr=>oB r (aR Γ e)|.retv i,s=>oS (aKi s) λr=>oB r λv=>oS (asN v) (bK Γ i)|.retN,s=>oS (aKi s) λr=>r.isNone|.iff c a b,s=>oS (sIf s) λr=>aR Γ c r.1&&chkSs Γ a r.2.1&&chkSs Γ b r.2.2|.for t it b,s=>oS (aNc s) λr=>pG Γ t r.1&&chkI Γ (pF r.1) it r.2.1&&chkSs Γ b r.2.2|.brk,s=>oS (aPU s) λ_=>true|.cnt,s=>oS (aPV s) λ_=>true|.pass,s=>oS (aNd s) λ_=>true|.ex e,s=>oS (sEx s) λv=>aR Γ e v&&!pI v|.rse _ _ _,_=>true|.set2 i y,s=>oS (aAt s) λr=>oS (asN r.1) λx=>bR Γ i x&&aR Γ (.comp 1 [] (.n 0) (.seq (.v y)) .nil (.bi .list (.cons (.v 0) .nil))) r.2|.put2 i k e,s=>oS (aAt s) λr=>oS (pH r.1) λu=>oS (asN u.1) λx=>bK Γ i x&&aR Γ k u.2&&aR Γ e r.2&&!pJ r.2|.rem2 i k e,s=>oS (sEx s) λc=>oS (aED c) λp=>(p.2.1==("remove" : Str))&&p.2.2.2&&(match p.2.2.1 with|[a]=>aR Γ e a|_=>false)&&oS (pH p.1) λu=>oS (asN u.1) (bK Γ i)&&aR Γ k u.2|.sfl _ _,_=>false|.ini,_=>false
noncomputable def chkSs(Γ:Ct):Ss->List BY->Bool
 | .nil,[]=>true|.cons s ss,x::xs=>eV Γ s x&&chkSs Γ ss xs|_,_=>false
end
noncomputable def mU(Γ:Ct):Ss->List BY->Bool
 | .cons (.sfl f e) ss,s::st=>(oS (aAt s) λr=>oS (aIX r.1) λu=>bK Γ 0 u.1&&(u.2==f)&&aR Γ e r.2&&!pJ r.2)&&mU Γ ss st|.cons .ini .nil,[]=>true|_,_=>false
noncomputable def aEE(Γ:Ct)(s:BY):Bool:=oS (sEx s) λc=>oS (aED c) λp=>(p.2.1==("append" : Str))&&p.2.2.2&&(match p.2.2.1 with|[z]=>oS (asN z) (bK Γ 3)|_=>false) &&
 oS (aED p.1) λq=>(q.2.1==("setdefault" : Str))&&q.2.2.2&&oS (asN q.1) (bK Γ 1)&&(match q.2.2.1 with|[k,l]=>oS (asN k) (bK Γ 2)&&oS (aEC l) λl=>l.isEmpty|_=>false)
noncomputable def aEF(Γ:Ct):List BY->Bool
 | [s1,s2,s3]=>eV Γ (.dnew 1) s1&&(oS (aNc s2) λr=>pG Γ (.t [2,3]) r.1&&oS (asN r.2.1) (bK Γ 0)&&(match r.2.2 with|[s]=>aEE Γ s|_=>false))&&eV Γ (.retv 1) s3|_=>false
end Hp
namespace Hp
open PySem PySem.Spec PyProof.Rows L2
theorem oK(n:Nat)(hd:d<=n):∀lo,sIx n d lo<=n
 | none=>hd|some v=>by unfold sIx;dsimp only;split <;> omega
theorem xW(lo hi:Option Int)(n:Nat):Bx lo hi 1 n=Bx (some ((sIx n 0 lo:Nat):Int)) (some ((sIx n n hi:Nat):Int)) 1 n:=by
 have I:(1:Int)>0:=by decide
 have B:∀(d:Nat) (hd:d<=n) (o:Option Int),(match o with|none=>(d:Int)|some i=>max 0 (min (if i<0 then i+(n:Int) else i) (n:Int)))=((sIx n d o:Nat):Int):=by
  intro d hd o;cases o with
  | none=>rfl|some i=>unfold sIx;dsimp only;split <;> omega
 have G:∀(m:Nat),m<=n->max (0:Int) (min (if (m:Int)<0 then (m:Int)+(n:Int) else (m:Int)) (n:Int))=(m:Int):=by intro m U;split <;> omega
 unfold Bx;simp only[I,if_true];have L:=B 0 (A9 _) lo;have M:=B n (An _) hi;have f1:=G _ (oK n (A9 _) lo);have f2:=G _ (oK n (An _) hi);rw[f1,f2];cases lo <;> cases hi <;> simp_all
theorem rY(x:Str)(lo hi:Option Int):C4 x lo hi=aDc x lo hi:=by
 have U:x.cps.toList.length=x.length:=by show _=x.cps.size;simp
 have e:C4 x lo hi=C4 x (some ((sIx x.length 0 lo:Nat):Int)) (some ((sIx x.length x.length hi:Nat):Int)):=by unfold C4;rw[xW]
 rw[e];unfold aDc cut;rw[U];by_cases h:sIx x.length 0 lo<=sIx x.length x.length hi;exact StrLaws.sliceText_nat x h (oK _ (An _) hi);have I:sIx x.length x.length hi-sIx x.length 0 lo=0:=by omega
 have Z:=oK x.length (A9 _) lo;rw[I,List.take_zero];generalize sIx x.length 0 lo=i at *;generalize sIx x.length x.length hi=j at *;have M:Bx (some (i:Int)) (some (j:Int)) 1 x.length=[]:=by
  unfold Bx;have L:(1:Int)>0:=by decide
  simp only[L,if_true];rw[if_neg (by omega),if_neg (by omega)];have B:max (0:Int) (min (i:Int) (x.length:Int))=i:=by omega
  have G:max (0:Int) (min (j:Int) (x.length:Int))=j:=by omega
  rw[B,G];unfold sliceRange;simp;omega
 unfold C4;rw[M];simp;intro hz;omega
noncomputable def aEG:V->Option Int->Option Int->L2.Hp->VK->Prop:=λx lo hi H Q=>∃a,x=.str a/\a.length<=sizeLine/\Q (.str (aDc a lo hi)) H
section
variable {X:Cx}
theorem aKj:SlR X aEG:=by
 intro pins s σ H x v vl vu lo hi sl Q I rx hs pl U h;obtain⟨a,rfl,hz,q⟩:=h;obtain⟨t,rfl⟩:=rx;have B:∀(l u:Option (Int×Tok)),l.map (·.1)=lo->u.map (·.1)=hi->s.heap.IsSlice sl l u none->As (A5 X.prog X.w) X.A (Fz (.str a t) (.ref sl)) (EP X pins σ Q) X.xe s:=by
  intro l u e1 e2 h;refine wpAny_getItem_str_slice h rfl ?_;have e:=rY a lo hi;unfold C4 at e;subst e1 e2;show Made.post (if ((1:Int)==1&&(Bx (l.map (·.1)) (u.map (·.1)) 1 a.length).length==a.length)=true then _ else _) _ s;split;rename_i L;rw[if_pos L] at e;exact⟨.str a,H,I,⟨t,rfl⟩,by rw[e];exact q⟩;rename_i L;rw[if_neg L] at e;have G:(aDc a (l.map (·.1)) (u.map (·.1))).length<=sizeLine:=by refine AW ?_ hz;show(cut a.cps.toList _ _).toArray.size<=a.cps.size;unfold cut;rw[Ah,Be,DT,AH];omega
  refine⟨by rw[<-e] at G;exact G,.str (aDc a (l.map (·.1)) (u.map (·.1))),H,I.tok _,?_,q⟩;rw[<-e];exact⟨_,rfl⟩
 refine⟨"str",_,HE.lookup,rfl,?_⟩;cases pl with
 | none=>
  cases U with
  | none=>exact B none none rfl rfl hs|int j M=>exact B none (some (j,M)) rfl rfl hs
 | int i Z=>
  cases U with
  | none=>exact B (some (i,Z)) none rfl rfl hs|int j M=>exact B (some (i,Z)) (some (j,M)) rfl rfl hs
end
end Hp
namespace Hp
open PySem L2
abbrev Fg:=Ap
noncomputable def kD:Key->D
 | .inl i=>.int i|.inr x=>.str x
noncomputable def Ox(o:HO):Prop:=(∃φ,o=.ext φ)\/∃C dx fs,o=.ins C dx fs
mutual
noncomputable def Rep(K:Fg)(H:Hp)(ex:Addr->Prop):D->V->Prop
 | .non,v=>v=.non|.bl b,v=>v=.bl b|.int i,v=>v=.int i|.str x,v=>v=.str x|.tup ds,v=>∃a xs,v=.ref a/\SqT K H a xs/\Reps K H ex ds xs|.lst ds,v=>∃a xs,v=.ref a/\SqL K H a xs/\¬ ex a/\Reps K H ex ds xs|.err _ (.str c::ds),v=>∃a C dx fs,v=.ref a/\H a=some (.ins C dx fs)/\¬ ex a/\BU K AI c=some (some (.ref C))/\RepF K H ex ds fs|.err _ (.non::ds),v=>∃a xs,v=.ref a/\H a=some (eZ a xs)/\¬ ex a/\RepM K H ex ds xs|.err _ _,_=>False
noncomputable def RepM(K:Fg)(H:Hp)(ex:Addr->Prop):List D->TKV->Prop
 | [],xs=>xs=[]
 | .tup is::d::r,xs=>∃js b u v r',xs=(js,b,u)::r'/\is=js.map D.int/\SqT K H b (js.map V.int)/\bB v u/\Rep K H ex d v/\RepM K H ex r r'|_,_=>False
noncomputable def RepF(K:Fg)(H:Hp)(ex:Addr->Prop):List D->List (Str×V)->Prop
 | [],fs=>fs=[]
 | .str f::d::r,fs=>∃x r',fs=(f,x)::r'/\Rep K H ex d x/\RepF K H ex r r'|_,_=>False
noncomputable def Reps(K:Fg)(H:Hp)(ex:Addr->Prop):List D->List V->Prop
 | [],xs=>xs=[]
 | d::ds,xs=>∃x r,xs=x::r/\Rep K H ex d x/\Reps K H ex ds r
noncomputable def xX(K:Fg)(H:Hp)(ex:Addr->Prop):List (D×D)->List (Key×V)->Prop
 | [],ks=>ks=[]
 | (k,d)::r,ks=>∃k' x r',ks=(k',x)::r'/\kD k'=k/\Rep K H ex d x/\xX K H ex r r'
end
section
variable {K:Fg} {H H':Hp} {ex ex':Addr->Prop}
theorem aL.seqT(e:aL H H')(h:SqT K H a xs):SqT K H' a xs:=by rcases h with(h|⟨o,h⟩)|h;exact .inl (.inl (e _ _ h));exact .inl (.inr ⟨o,e _ _ h⟩);exact .inr h
mutual
theorem Rep.imp(I:∀a xs,SqT K H a xs->SqT K H' a xs)(G:∀a xs,¬ ex a->SqL K H a xs->¬ ex' a/\SqL K H' a xs)(M:∀a ks,H a=some (.dK ks)->H' a=some (.dK ks))(B:∀a o,Ox o->¬ ex a->H a=some o->¬ ex' a/\H' a=some o) :
 ∀(d:D) (v:V),Rep K H ex d v->Rep K H' ex' d v
 | .non,_,h=>h|.bl _,_,h=>h|.int _,_,h=>h|.str _,_,h=>h|.tup ds,_,h=>by obtain⟨a,xs,e,q,r⟩:=h;exact⟨a,xs,e,I a xs q,Reps.imp I G M B ds xs r⟩|.lst ds,_,h=>by obtain⟨a,xs,e,q,n,r⟩:=h;obtain⟨n',L⟩:=G a xs n q;exact⟨a,xs,e,L,n',Reps.imp I G M B ds xs r⟩|.err _ (.str c::ds),_,h=>by obtain⟨a,C,dx,fs,e,q,z,n,r⟩:=h;obtain⟨U,L⟩:=B a _ (.inr ⟨_,_,_,rfl⟩) z q;exact⟨a,C,dx,fs,e,L,U,n,RepF.imp I G M B ds fs r⟩|.err _ (.non::ds),_,h=>by obtain⟨a,xs,e,q,z,r⟩:=h;obtain⟨U,L⟩:=B a _ (.inl ⟨_,rfl⟩) z q;exact⟨a,xs,e,L,U,RepM.imp I G M B ds xs r⟩|.err _ [],_,h=>h.elim|.err _ (.bl _::_),_,h=>h.elim|.err _ (.int _::_),_,h=>h.elim|.err _ (.tup _::_),_,h=>h.elim|.err _ (.lst _::_),_,h=>h.elim|.err _ (.err _ _::_),_,h=>h.elim
theorem RepM.imp(B:∀a xs,SqT K H a xs->SqT K H' a xs)(I:∀a xs,¬ ex a->SqL K H a xs->¬ ex' a/\SqL K H' a xs)(G:∀a ks,H a=some (.dK ks)->H' a=some (.dK ks))(L:∀a o,Ox o->¬ ex a->H a=some o->¬ ex' a/\H' a=some o) :
 ∀(ds:List D) (xs:TKV),RepM K H ex ds xs->RepM K H' ex' ds xs
 | [],_,h=>h|.tup is::d::ds,_,h=>by obtain⟨js,b,u,v,r,e,M,U,Z,h3,h4⟩:=h;exact⟨js,b,u,v,r,e,M,B _ _ U,Z,Rep.imp B I G L d v h3,RepM.imp B I G L ds r h4⟩|[.tup _],_,h=>h.elim|.non::_,_,h=>h.elim|.bl _::_,_,h=>h.elim|.int _::_,_,h=>h.elim|.str _::_,_,h=>h.elim|.lst _::_,_,h=>h.elim|.err _ _::_,_,h=>h.elim
theorem RepF.imp(L:∀a xs,SqT K H a xs->SqT K H' a xs)(G:∀a xs,¬ ex a->SqL K H a xs->¬ ex' a/\SqL K H' a xs)(B:∀a ks,H a=some (.dK ks)->H' a=some (.dK ks))(I:∀a o,Ox o->¬ ex a->H a=some o->¬ ex' a/\H' a=some o) :
 ∀(ds:List D) (fs:List (Str×V)),RepF K H ex ds fs->RepF K H' ex' ds fs
 | [],_,h=>h|.str f::d::ds,_,h=>by obtain⟨x,r,e,M,U⟩:=h;exact⟨x,r,e,Rep.imp L G B I d x M,RepF.imp L G B I ds r U⟩|[.str _],_,h=>h.elim|.non::_,_,h=>h.elim|.bl _::_,_,h=>h.elim|.int _::_,_,h=>h.elim|.tup _::_,_,h=>h.elim|.lst _::_,_,h=>h.elim|.err _ _::_,_,h=>h.elim
theorem Reps.imp(L:∀a xs,SqT K H a xs->SqT K H' a xs)(G:∀a xs,¬ ex a->SqL K H a xs->¬ ex' a/\SqL K H' a xs)(B:∀a ks,H a=some (.dK ks)->H' a=some (.dK ks))(I:∀a o,Ox o->¬ ex a->H a=some o->¬ ex' a/\H' a=some o) :
 ∀(ds:List D) (xs:List V),Reps K H ex ds xs->Reps K H' ex' ds xs
 | [],_,h=>h|d::ds,_,h=>by obtain⟨x,r,e,M,U⟩:=h;exact⟨x,r,e,Rep.imp L G B I d x M,Reps.imp L G B I ds r U⟩
theorem xX.imp(L:∀a xs,SqT K H a xs->SqT K H' a xs)(G:∀a xs,¬ ex a->SqL K H a xs->¬ ex' a/\SqL K H' a xs)(B:∀a ks,H a=some (.dK ks)->H' a=some (.dK ks))(I:∀a o,Ox o->¬ ex a->H a=some o->¬ ex' a/\H' a=some o) :
 ∀(ds:List (D×D)) (xs:List (Key×V)),xX K H ex ds xs->xX K H' ex' ds xs
 | [],_,h=>h|(k,d)::ds,_,h=>by obtain⟨k',x,r,e,M,U,Z⟩:=h;exact⟨k',x,r,e,M,Rep.imp L G B I d x U,xX.imp L G B I ds r Z⟩
end
theorem Rep.weak(h:Rep K H ex d v)(e:∀a,ex' a->ex a):Rep K H ex' d v:=Rep.imp (λ_ _ q=>q) (λa _ n q=>⟨λz=>n (e a z),q⟩) (λ_ _ q=>q) (λa _ _ n q=>⟨λz=>n (e a z),q⟩) d v h
theorem Reps.weak(h:Reps K H ex d v)(e:∀a,ex' a->ex a):Reps K H ex' d v:=Reps.imp (λ_ _ q=>q) (λa _ n q=>⟨λz=>n (e a z),q⟩) (λ_ _ q=>q) (λa _ _ n q=>⟨λz=>n (e a z),q⟩) d v h
theorem Rep.grow(h:Rep K H ex d v)(s:aL H H'):Rep K H' ex d v:=Rep.imp (λ_ _ q=>aL.seqT s q) (λ_ _ n q=>⟨n,s.seq q⟩) (λ_ _ q=>s _ _ q) (λ_ _ _ n q=>⟨n,s _ _ q⟩) d v h
theorem Reps.grow(h:Reps K H ex d v)(s:aL H H'):Reps K H' ex d v:=Reps.imp (λ_ _ q=>aL.seqT s q) (λ_ _ n q=>⟨n,s.seq q⟩) (λ_ _ q=>s _ _ q) (λ_ _ _ n q=>⟨n,s _ _ q⟩) d v h
theorem nOx{o:HO}{p:Prop}(B:∀xs,o≠.lst xs)(G:∀φ,o≠.ext φ)(I:∀C dx fs,o≠.ins C dx fs)(h:(∃xs,o=.lst xs)\/Ox o):p:=by
 rcases h with⟨xs,e⟩|⟨φ,e⟩|⟨C,dx,fs,e⟩
 exact(B xs e).elim;exact(G φ e).elim;exact(I C dx fs e).elim
theorem Rep.keep{d:D}{v:V}(h:Rep K H ex d v)(s:∀a o,H a=some o->((∃xs,o=.lst xs)\/Ox o->¬ ex a)->H' a=some o):Rep K H' ex d v:=by refine Rep.imp (λa xs q=>?_) (λa xs n q=>⟨n,?_⟩) (λa ks q=>s a _ q λz=>nOx (λ_ e=>by cases e) (λ_ e=>by cases e) (λ_ _ _ e=>by cases e) z) (λa o _ n q=>⟨n,s a o q λ_=>n⟩) d v h;rcases q with(q|⟨o,q⟩)|q;exact .inl (.inl (s _ _ q λz=>nOx (λ_ e=>by cases e) (λ_ e=>by cases e) (λ_ _ _ e=>by cases e) z));exact .inl (.inr ⟨o,s _ _ q λz=>nOx (λ_ e=>by cases e) (λ_ e=>by cases e) (λ_ _ _ e=>by cases e) z⟩);exact .inr q;rcases q with(q|⟨o,q⟩)|q;exact .inl (.inl (s _ _ q λ_=>n));exact .inl (.inr ⟨o,s _ _ q λz=>nOx (λ_ e=>by cases e) (λ_ e=>by cases e) (λ_ _ _ e=>by cases e) z⟩);exact .inr q
theorem Reps.keep{d:List D}{v:List V}(h:Reps K H ex d v)(s:∀a o,H a=some o->((∃xs,o=.lst xs)\/Ox o->¬ ex a)->H' a=some o):Reps K H' ex d v:=by refine Reps.imp (λa xs q=>?_) (λa xs n q=>⟨n,?_⟩) (λa ks q=>s a _ q λz=>nOx (λ_ e=>by cases e) (λ_ e=>by cases e) (λ_ _ _ e=>by cases e) z) (λa o _ n q=>⟨n,s a o q λ_=>n⟩) d v h;rcases q with(q|⟨o,q⟩)|q;exact .inl (.inl (s _ _ q λz=>nOx (λ_ e=>by cases e) (λ_ e=>by cases e) (λ_ _ _ e=>by cases e) z));exact .inl (.inr ⟨o,s _ _ q λz=>nOx (λ_ e=>by cases e) (λ_ e=>by cases e) (λ_ _ _ e=>by cases e) z⟩);exact .inr q;rcases q with(q|⟨o,q⟩)|q;exact .inl (.inl (s _ _ q λ_=>n));exact .inl (.inr ⟨o,s _ _ q λz=>nOx (λ_ e=>by cases e) (λ_ e=>by cases e) (λ_ _ _ e=>by cases e) z⟩);exact .inr q
mutual
theorem Rep.free:∀(d:D) (v:V),noL d=true->Rep K H ex d v->Rep K H ex' d v
 | .non,_,_,h=>h|.bl _,_,_,h=>h|.int _,_,_,h=>h|.str _,_,_,h=>h|.tup ds,_,n,h=>by obtain⟨a,xs,e,q,r⟩:=h;exact⟨a,xs,e,q,Reps.free ds xs (by simpa[noL] using n) r⟩|.lst ds,_,n,_=>by simp[noL] at n|.err _ _,_,n,_=>by simp[noL] at n
theorem Reps.free:∀(ds:List D) (xs:List V),noLs ds=true->Reps K H ex ds xs->Reps K H ex' ds xs
 | [],_,_,h=>h|d::ds,_,n,h=>by obtain⟨x,r,e,B,G⟩:=h;simp only[noLs,bA] at n;exact⟨x,r,e,Rep.free d x n.1 B,Reps.free ds r n.2 G⟩
end
theorem iV(h:Rep K H ex (.err c ds) v):∃a o,v=.ref a/\H a=some o/\Ox o:=by
 cases ds with
 | nil=>exact h.elim|cons d r=>
  cases d with
  | str x=>obtain⟨a,C,dx,fs,e,q,_⟩:=h;exact⟨a,_,e,q,.inr ⟨_,_,_,rfl⟩⟩|non=>obtain⟨a,xs,e,q,_⟩:=h;exact⟨a,_,e,q,.inl ⟨_,rfl⟩⟩|_=>exact h.elim
theorem Reps.length:∀{ds:List D} {xs:List V},Reps K H ex ds xs->ds.length=xs.length
 | [],_,h=>by rw[show _=[] from h];rfl|d::ds,_,h=>by obtain⟨x,r,e,_,B⟩:=h;subst e;rw[lC,lC,Reps.length B]
theorem Reps.get:∀{ds:List D} {xs:List V} {j:Nat} {d:D},Reps K H ex ds xs->ds[j]? = some d->∃x,xs[j]? = some x/\Rep K H ex d x
 | [],_,_,_,_,e=>by simp at e|d::ds,_,0,_,h,e=>by obtain⟨x,r,B,G,_⟩:=h;subst B;simp at e;subst e;exact⟨x,rfl,G⟩|d::ds,_,j+1,d',h,e=>by obtain⟨x,r,B,_,I⟩:=h;subst B;obtain⟨y,L,q⟩:=Reps.get I (by simpa using e);exact⟨y,by simpa using L,q⟩
theorem Reps.get'{ds:List D}{xs:List V}{j:Nat}{x:V}(h:Reps K H ex ds xs)(e:xs[j]? = some x):∃d,ds[j]? = some d/\Rep K H ex d x:=by
 have I:=h.length;have G:=(Ai.mp e).1;obtain⟨d,hd⟩:∃d,ds[j]? = some d:=⟨ds[j],Ac (by omega)⟩
 obtain⟨y,B,q⟩:=h.get hd;rw[e] at B;cases B;exact⟨d,hd,q⟩
theorem Reps.nil:Reps K H ex [] []:=rfl
theorem Reps.cons(h:Rep K H ex d x)(t:Reps K H ex ds xs):Reps K H ex (d::ds) (x::xs):=⟨x,xs,rfl,h,t⟩
theorem Reps.append:∀{ds es:List D} {xs B:List V},Reps K H ex ds xs->Reps K H ex es B->Reps K H ex (ds++es) (xs++B)
 | [],_,_,_,h,t=>by rw[show _=[] from h];exact t|d::ds,_,_,_,h,t=>by obtain⟨x,r,e,G,I⟩:=h;subst e;exact⟨x,_,rfl,G,Reps.append I t⟩
theorem Reps.take:∀{ds:List D} {xs:List V} (n:Nat),Reps K H ex ds xs->Reps K H ex (ds.take n) (xs.take n)
 | _,_,0,_=>by simp[Reps]|[],_,n+1,h=>by rw[show _=[] from h];simp[Reps]|d::ds,_,n+1,h=>by obtain⟨x,r,e,B,G⟩:=h;subst e;exact⟨x,_,rfl,B,Reps.take n G⟩
theorem Reps.drop:∀{ds:List D} {xs:List V} (n:Nat),Reps K H ex ds xs->Reps K H ex (ds.drop n) (xs.drop n)
 | _,_,0,h=>h|[],_,n+1,h=>by rw[show _=[] from h];simp[Reps]|d::ds,_,n+1,h=>by obtain⟨x,r,e,G,B⟩:=h;subst e;exact Reps.drop n B
theorem Reps.set:∀{ds:List D} {xs:List V} {d:D} {x:V} (j:Nat),Reps K H ex ds xs->Rep K H ex d x->Reps K H ex (ds.set j d) (xs.set j x)
 | [],_,_,_,_,h,_=>by rw[show _=[] from h];simp[Reps]|d::ds,_,_,_,0,h,q=>by obtain⟨x,r,e,G,B⟩:=h;subst e;exact⟨_,_,rfl,q,B⟩|d::ds,_,_,_,j+1,h,q=>by obtain⟨x,r,e,G,B⟩:=h;subst e;exact⟨x,_,rfl,G,Reps.set j B q⟩
theorem Reps.eraseIdx:∀{ds:List D} {xs:List V} (j:Nat),Reps K H ex ds xs->Reps K H ex (ds.eraseIdx j) (xs.eraseIdx j)
 | [],_,_,h=>by rw[show _=[] from h];simp[Reps]|d::ds,_,0,h=>by obtain⟨x,r,e,G,B⟩:=h;subst e;exact B|d::ds,_,j+1,h=>by obtain⟨x,r,e,G,B⟩:=h;subst e;exact⟨x,_,rfl,G,Reps.eraseIdx j B⟩
theorem Reps.flat:∀{ds:List D} {xs:List V},Reps K H ex ds xs->∀k:Nat,Reps K H ex (Aj k ds).flatten (Aj k xs).flatten
 | _,_,_,0=>by simp[Reps]|ds,xs,h,k+1=>by rw[B7,B7,CZ,CZ];exact h.append (Reps.flat h k)
end
end Hp
namespace Hp
open PySem PySem.Spec PyProof.Rows L2
theorem aPg(a b:Str):(a++b).length=a.length+b.length:=by show(a.cps++b.cps).size=_;rw[GZ];rfl
noncomputable def Kp(R:Addr->Prop)(H H':Hp):Prop:=∀a o,H a=some o->¬ R a->H' a=some o
noncomputable def RE{α:Type}:R α->(α->Prop)->Prop
 | .ok a,p=>p a|_,_=>False
theorem RE.mono{α:Type}{x:R α}{p q:α->Prop}(h:RE x p)(f:∀a,p a->q a):RE x q:=by
 cases x with
 | ok a=>exact f a h|exc e=>exact h|bad=>exact h
theorem RE.bind{α B:Type}{x:R α}{f:α->R B}{p:B->Prop}:RE (x >>= f) p=RE x λa=>RE (f a) p:=by cases x <;> rfl
theorem RE.iff{α:Type}{c:Bool}{x:R α}{p:α->Prop}(h:RE (R.iff c x) p):c=true/\RE x p:=by
 cases c with
 | true=>exact⟨rfl,h⟩|false=>exact h.elim
section
variable (K:Fg) (RT Y J:Addr->Prop)
noncomputable def exB(pa:Bool)(a:Addr):Prop:=Y a\/(pa=false/\J a)
noncomputable def Tk(H:Hp):Prop:=∀b,H b≠none->K.lookup b=none
noncomputable def dV:D->V
 | .int i=>.int i|.bl b=>.bl b|_=>.non
abbrev kV(x:NK×D):NK×V:=(x.1,dV x.2)
noncomputable def Rws(H:Hp):List (List D)->List Addr->Prop
 | [],bs=>bs=[]
 | ds::dss,bs=>∃b r xs,bs=b::r/\H b=some (.lst xs)/\noLs ds=true/\Reps K H (λ_=>False) ds xs/\Rws H dss r
noncomputable def Pt(σ:Sg)(σV:L2.St)(p:Addr):Prop:=RT p/\¬ J p/\∀(k:Nat) (pa:Bool) (ds:List D),σ[k]? = some (.own pa ds)->σV[k]?≠some (some (.ref p))
structure Dx (σ:Sg) (σV:L2.St) (H:Hp):Prop where
 at':∀(i:Nat) (ks:List (NK×D)),σ[i]? = some (.dct ks)->∃a xs,σV[i]? = some (some (.ref a))/\H a=some (lL a xs)/\RT a/\¬ J a/\xs.map pj=ks.map kV/\∀x∈xs,lO K H x.1 x.2.1
 inj:∀(i j:Nat) (ks ks':List (NK×D)) (a:Addr),σ[i]? = some (.dct ks)->σ[j]? = some (.dct ks')->σV[i]? = some (some (.ref a))->σV[j]? = some (some (.ref a))->i=j
 at2:∀(i:Nat) (dss:List (List D)),σ[i]? = some (.own2 dss)->∃a bs,σV[i]? = some (some (.ref a))/\H a=some (.lst (bs.map V.ref))/\(∀b∈a::bs,Pt RT J σ σV b)/\(a::bs).Nodup/\Rws K H dss bs
 one:∀(i j:Nat) (dss dss':List (List D)),σ[i]? = some (.own2 dss)->σ[j]? = some (.own2 dss')->i=j
noncomputable def RtO(H:Hp)(a:Addr):Prop:=(∃xs,H a=some (.lst xs))\/∃xs,H a=some (lL a xs)
structure Sx (σ:Sg) (σV:L2.St) (H:Hp):Prop where
 sh:∀(i:Nat) (pa:Bool) (d:D),σ[i]? = some (.sh pa d)->∃v,σV[i]? = some (some v)/\Rep K H (λa=>RT a\/exB Y J pa a) d v
 own:∀(i:Nat) (pa:Bool) (ds:List D),σ[i]? = some (.own pa ds)->∃a xs,σV[i]? = some (some (.ref a))/\H a=some (.lst xs)/\RT a/\¬ J a/\Reps K H (λa=>RT a\/exB Y J pa a) ds xs
 trk:∀a,RT a\/Y a\/J a->H a≠none
 yo:∀a,Y a->J a
 tk:Tk K H
 rt:∀a,RT a->RtO H a
 inj:∀(i j:Nat) (pa pa':Bool) (ds ds':List D) (a:Addr),σ[i]? = some (.own pa ds)->σ[j]? = some (.own pa' ds')->σV[i]? = some (some (.ref a))->σV[j]? = some (some (.ref a))->i=j
 len:σ.length=σV.length
 dx:Dx K RT J σ σV H
noncomputable def alR(σ:Sg)(σV:L2.St)(al:List Nat)(a:Addr):Prop:=∃j∈al,(∃pa ds,σ[j]? = some (.own pa ds))/\σV[j]? = some (some (.ref a))
noncomputable def exV(σ:Sg)(σV:L2.St)(pa:Bool)(al:List Nat)(a:Addr):Prop:=(RT a/\¬ alR σ σV al a)\/exB Y J pa a
noncomputable def Rv(σ:Sg)(σV:L2.St)(H:Hp)(v:Vl)(u:V):Prop:=Rep K H (exV RT Y J σ σV v.pa v.al) v.d u
noncomputable def Ro(σ:Sg)(σV:L2.St)(H H':Hp)(v:Vl)(u:V):Prop:=
 aL H H'/\(if v.fr=true then ∃a xs ds,u=.ref a/\v.d=.lst ds/\H a=none/\H' a=some (.lst xs)/\Reps K H' (λb=>b=a\/exV RT Y J σ σV v.pa v.al b) ds xs
  else Rv K RT Y J σ σV H' v u)
noncomputable def Rvs(σ:Sg)(σV:L2.St)(H:Hp):List Vl->List V->Prop
 | [],us=>us=[]
 | v::vs,us=>∃u r,us=u::r/\Rv K RT Y J σ σV H v u/\Rvs σ σV H vs r
end
section
variable {K:Fg} {RT Y J:Addr->Prop} {σ:Sg} {σV:L2.St} {H H' H1 H2:Hp} {v:Vl} {u:V}
theorem lO.imp(G:∀b ks,SqT K H b ks->SqT K H' b ks)(h:lO K H k b):lO K H' k b:=by
 obtain⟨bs,B,I⟩:=h;refine⟨bs,G _ _ B,?_⟩;clear B
 induction I with
 | nil=>exact .nil|cons h t L=>exact .cons (G _ _ h) L
mutual
theorem Rep.noT{ex:Addr->Prop}(B:∀b ks,SqT K H b ks->SqT K H' b ks):∀(d:D) (v:V),noL d=true->Rep K H ex d v->Rep K H' ex d v
 | .non,_,_,h=>h|.bl _,_,_,h=>h|.int _,_,_,h=>h|.str _,_,_,h=>h|.tup ds,_,n,h=>by obtain⟨a,xs,e,q,r⟩:=h;exact⟨a,xs,e,B _ _ q,Reps.noT B ds xs (by simpa[noL] using n) r⟩|.lst ds,_,n,_=>by simp[noL] at n|.err _ _,_,n,_=>by simp[noL] at n
theorem Reps.noT{ex:Addr->Prop}(B:∀b ks,SqT K H b ks->SqT K H' b ks):∀(ds:List D) (xs:List V),noLs ds=true->Reps K H ex ds xs->Reps K H' ex ds xs
 | [],_,_,h=>h|d::ds,_,n,h=>by obtain⟨x,r,e,G,I⟩:=h;simp only[noLs,bA] at n;exact⟨x,r,e,Rep.noT B d x n.1 G,Reps.noT B ds r n.2 I⟩
end
theorem Rws.imp(G:∀b ks,SqT K H b ks->SqT K H' b ks):∀{dss:List (List D)} {bs:List Addr},Rws K H dss bs->(∀b∈bs,∀xs,H b=some (.lst xs)->H' b=some (.lst xs))->Rws K H' dss bs
 | [],_,h,_=>h|ds::dss,_,h,f=>by obtain⟨b,r,xs,rfl,I,B,L,M⟩:=h;exact⟨b,r,xs,rfl,f b Am xs I,B,Reps.noT G ds xs B L,Rws.imp G M λc U=>f c (Ag _ U)⟩
theorem Rws.at:∀{dss:List (List D)} {bs:List Addr},Rws K H dss bs->∀b∈bs,∃xs,H b=some (.lst xs)
 | [],_,h,b,hb=>by rw[show _=[] from h] at hb;cases hb|ds::dss,_,h,b,hb=>by obtain⟨c,r,xs,rfl,B,I,L,G⟩:=h;rcases Ax.mp hb with z|z;exact⟨xs,by rw[z];exact B⟩;exact Rws.at G b z
theorem Dx.imp{G:Addr->Prop}{σ':Sg}{B:L2.St}(L:Dx K RT J σ σV H)(m:Nat->Nat)(hs:∀j ks,σ'[j]? = some (.dct ks)->σ[m j]? = some (.dct ks)/\B[j]? = σV[m j]?)(hm:∀i j ks ks',σ'[i]? = some (.dct ks)->σ'[j]? = some (.dct ks')->m i=m j->i=j)
 (hh:∀a xs,H a=some (lL a xs)->RT a->¬ J a->H' a=some (lL a xs)/\G a) (hr:∀b ks,SqT K H b ks->SqT K H' b ks)
 (M:∀j dss,σ'[j]? = some (.own2 dss)->σ[m j]? = some (.own2 dss)/\B[j]? = σV[m j]?) (q3:∀i j dss dss',σ'[i]? = some (.own2 dss)->σ'[j]? = some (.own2 dss')->m i=m j->i=j)
 (I:∀p xs,H p=some (.lst xs)->Pt RT J σ σV p->H' p=some (.lst xs)/\Pt G J σ' B p):Dx K G J σ' B H' where
 at':=λi ks e=>by obtain⟨U,Z⟩:=hs i ks e;obtain⟨a,xs,h1,h2,h3,h4,h5,h6⟩:=L.at' (m i) ks U;obtain⟨g1,g2⟩:=hh a xs h2 h3 h4;exact⟨a,xs,by rw[Z];exact h1,g1,g2,h4,h5,λx hx=>lO.imp hr (h6 x hx)⟩
 inj:=λi j ks ks' a q1 q2 v1 v2=>by obtain⟨U,Z⟩:=hs i ks q1;obtain⟨e3,e4⟩:=hs j ks' q2;exact hm i j ks ks' q1 q2 (L.inj (m i) (m j) ks ks' a U e3 (by rw[<-Z];exact v1) (by rw[<-e4];exact v2))
 at2:=λi dss e=>by obtain⟨U,Z⟩:=M i dss e;obtain⟨a,bs,h1,ha,hp,hn,hw⟩:=L.at2 (m i) dss U;obtain⟨q0,_⟩:=I a _ ha (hp a Am);refine⟨a,bs,by rw[Z];exact h1,q0,λb hb=>?_,hn,hw.imp hr λb hb xs e=>(I b xs e (hp b (Ag _ hb))).1⟩;rcases Ax.mp hb with z|z;rw[z];grind;obtain⟨xs,e⟩:=hw.at b z;exact(I b xs e (hp b hb)).2
 one:=λi j dss dss' q1 q2=>q3 i j dss dss' q1 q2 (L.one _ _ _ _ (M i dss q1).1 (M j dss' q2).1)
theorem RtO.grow(h:RtO H a)(s:aL H H'):RtO H' a:=h.imp (λ⟨xs,e⟩=>⟨xs,s _ _ e⟩) λ⟨xs,e⟩=>⟨xs,s _ _ e⟩
theorem Sx.grow(S:Sx K RT Y J σ σV H)(s:aL H H')(t:Tk K H'):Sx K RT Y J σ σV H' where
 sh:=λi pa d e=>let ⟨v,h1,h2⟩:=S.sh i pa d e;⟨v,h1,h2.grow s⟩
 own:=λi pa ds e=>let ⟨a,xs,h1,h2,h3,h4,h5⟩:=S.own i pa ds e;⟨a,xs,h1,s _ _ h2,h3,h4,h5.grow s⟩
 trk:=λa h z=>S.trk a h (s.free z)
 yo:=S.yo
 tk:=t
 rt:=λa h=>(S.rt a h).grow s
 inj:=S.inj
 len:=S.len
 dx:=S.dx.imp id (λ_ _ e=>⟨e,rfl⟩) (λ_ _ _ _ _ _ e=>e) (λa xs e z _=>⟨s _ _ e,z⟩) (λ_ _ r=>aL.seqT s r) (λ_ _ e=>⟨e,rfl⟩) (λ_ _ _ _ _ _ e=>e) λp xs e z=>⟨s _ _ e,z⟩
theorem exV.trk(S:Sx K RT Y J σ σV H)(h:exV RT Y J σ σV pa al a):H a≠none:=by
 rcases h with⟨h,_⟩|h|⟨_,h⟩
 exact S.trk a (.inl h);exact S.trk a (.inr (.inl h));exact S.trk a (.inr (.inr h))
theorem Ro.rv(S:Sx K RT Y J σ σV H)(h:Ro K RT Y J σ σV H H' v u):Rv K RT Y J σ σV H' v u:=by obtain⟨s,h⟩:=h;by_cases B:v.fr=true;rw[if_pos B] at h;obtain⟨a,xs,ds,G,I,L,M,r⟩:=h;unfold Rv;rw[I];exact⟨a,xs,G,SqL.of M,λz=>exV.trk S z L,r.weak λb z=>.inr z⟩;rw[if_neg B] at h;exact h
theorem Rv.grow(h:Rv K RT Y J σ σV H v u)(s:aL H H'):Rv K RT Y J σ σV H' v u:=Rep.grow h s
theorem Rvs.grow:∀{vs:List Vl} {us:List V},Rvs K RT Y J σ σV H vs us->aL H H'->Rvs K RT Y J σ σV H' vs us
 | [],_,h,_=>h|v::vs,_,h,s=>by obtain⟨u,r,e,B,G⟩:=h;exact⟨u,r,e,B.grow s,Rvs.grow G s⟩
theorem Ro.plain(s:aL H H')(B:v.fr=false)(h:Rv K RT Y J σ σV H' v u):Ro K RT Y J σ σV H H' v u:=⟨s,by rw[if_neg (by rw[B];decide)];exact h⟩
theorem Ro.from(h:Ro K RT Y J σ σV H1 H' v u)(s:aL H H1):Ro K RT Y J σ σV H H' v u:=by obtain⟨U,h⟩:=h;refine⟨s.trans U,?_⟩;by_cases B:v.fr=true;rw[if_pos B] at h ⊢;obtain⟨a,xs,ds,G,I,L,M,r⟩:=h;exact⟨a,xs,ds,G,I,s.free L,M,r⟩;rw[if_neg B] at h ⊢;exact h
theorem Ro.cl(s:aL H H')(h:Rep K H' (exV RT Y J σ σV false []) d u):Ro K RT Y J σ σV H H' (.cl d) u:=Ro.plain s rfl h
theorem Rv.sub{ds:List D}{xs:List V}{j:Nat}(h:Rep K H (exV RT Y J σ σV v.pa v.al) d x):Rv K RT Y J σ σV H (v.sub d) x:=by unfold Rv Vl.sub;by_cases B:noL d=true;rw[if_pos B];exact Rep.free d x B h;rw[if_neg B];exact h
theorem alR.mono(h:alR σ σV al a)(s:∀j∈al,j∈al'):alR σ σV al' a:=by obtain⟨j,B,q⟩:=h;exact⟨j,s j B,q⟩
theorem exV.mono(h:exV RT Y J σ σV pa' al' a)(I:pa=true->pa'=true)(s:∀j∈al,j∈al'):exV RT Y J σ σV pa al a:=by
 rcases h with⟨G,B⟩|h|⟨G,B⟩
 exact .inl ⟨G,λz=>B (z.mono s)⟩;exact .inr (.inl h);refine .inr (.inr ⟨?_,B⟩);grind
theorem Rvs.length:∀{vs:List Vl} {us:List V},Rvs K RT Y J σ σV H vs us->vs.length=us.length
 | [],_,h=>by rw[show _=[] from h];rfl|v::vs,_,h=>by obtain⟨u,r,e,_,B⟩:=h;subst e;rw[lC,lC,Rvs.length B]
theorem nR{v:Vl}(h:v∈vs):∀j∈v.al,j∈bQ vs:=λj B=>Fe.mpr ⟨v,h,B⟩
theorem xY{v:Vl}(h:v∈vs)(B:v.pa=true):dN vs=true:=HK.mpr ⟨v,h,B⟩
theorem Rvs.reps:∀{vs:List Vl} {us:List V} {pa:Bool} {al:List Nat},Rvs K RT Y J σ σV H vs us->(∀v∈vs,(v.pa=true->pa=true)/\∀j∈v.al,j∈al) ->
 Reps K H (exV RT Y J σ σV pa al) (vs.map (·.d)) us
 | [],_,_,_,h,_=>h|v::vs,_,_,_,h,q=>by obtain⟨u,r,e,G,I⟩:=h;have B:=q v Am;exact⟨u,r,e,Rep.weak G λa z=>z.mono B.1 B.2,Rvs.reps I λw L=>q w (Ag _ L)⟩
theorem Rvs.all{vs:List Vl}(h:Rvs K RT Y J σ σV H vs us):Reps K H (exV RT Y J σ σV (dN vs) (bQ vs)) (vs.map (·.d)) us:=
 h.reps λv B=>⟨λz=>xY B z,nR B⟩
theorem Ro.fresh(B:H p=none)(ht:Tk K (upd H p (.lst xs)))(hd:v.d=.lst ds)(G:v.fr=true)(S:Sx K RT Y J σ σV H)(r:Reps K H (exV RT Y J σ σV v.pa v.al) ds xs) :
 Ro K RT Y J σ σV H (upd H p (.lst xs)) v (.ref p):=by
 have s:aL H (upd H p (.lst xs)):=λb o q=>by rw[aJ (aU q B)];exact q
 refine⟨s,?_⟩;rw[if_pos G];refine⟨p,xs,ds,rfl,hd,B,aP,?_⟩;refine Reps.imp (λ_ _ q=>aL.seqT s q) (λa L n q=>⟨λz=>?_,s.seq q⟩) (λ_ _ q=>s _ _ q) (λa o _ n q=>⟨λz=>z.elim (λz=>by rw[z,B] at q;cases q) n,s _ _ q⟩) ds xs r;rcases z with z|z;subst z;rcases q with(q|⟨o,q⟩)|⟨o,I,n',q,_⟩
 rw[B] at q;cases q;rw[B] at q;cases q;have z:=ht a (by rw[aP];simp);rw[q] at z;cases z;exact n z
theorem aL.new(B:H p=none):aL H (upd H p o):=λb u q=>by rw[aJ (aU q B)];exact q
theorem Ro.tup(B:H p=none)(hd:v.d=.tup ds)(G:v.fr=false)(r:Reps K H (exV RT Y J σ σV v.pa v.al) ds xs) :
 Ro K RT Y J σ σV H (upd H p (.tup xs)) v (.ref p):=by refine Ro.plain (aL.new B) G ?_;unfold Rv;rw[hd];exact⟨p,xs,rfl,SqT.of aP,r.grow (aL.new B)⟩
end
section
variable (X:Cx) (P:Pg) (cl:Caller) (RT Y J:Addr->Prop)
noncomputable def wE(σ:Sg)(c:E):TE:=λσV H Q=>Sx X.K RT Y J σ σV H/\RE (ev P cl σ c) λv=>∀u H',Tk X.K H'->Ro X.K RT Y J σ σV H H' v u->Q u H'
noncomputable def wT(σ:Sg)(c:E):TT:=λσV H Q=>Sx X.K RT Y J σ σV H/\RE (tst P cl σ c) λk=>∀H',Tk X.K H'->aL H H'->Q k H'
noncomputable def wA(σ:Sg)(cs:Es):TA:=λσV H Q=>Sx X.K RT Y J σ σV H/\RE (evs P cl σ cs) λvs=>∀us H',Tk X.K H'->aL H H'->Rvs X.K RT Y J σ σV H' vs us->Q us H'
end
section
variable {X:Cx} {P:Pg} {cl:Caller} {RT Y J:Addr->Prop} {σ:Sg} {pos:Du}
theorem _root_.L2.Inv.tk(I:Inv X pins σV H s):Tk X.K H:=λb B=>by
 cases q:X.K.lookup b with
 | none=>rfl|some o=>exact absurd (I.bs b o (I.ok.mod.kin b o q)).2 B
theorem _root_.L2.PE.imp(h:PE X e t)(f:∀σV H Q,Tk X.K H->t' σV H Q->t σV H λv H'=>Tk X.K H'->Q v H'):PE X e t':=λpins s σV H Q I G=>thn (h pins s σV H _ I (f σV H Q I.tk G)) λu L ⟨v,H',B,r,q⟩=>⟨v,H',B,r,q B.tk⟩
theorem _root_.L2.PT.imp(h:PT X e t)(f:∀σV H Q,Tk X.K H->t' σV H Q->t σV H λv H'=>Tk X.K H'->Q v H'):PT X e t':=λpins s σV H Q I G=>thn (h pins s σV H _ I (f σV H Q I.tk G)) λk L ⟨H',B,q⟩=>⟨H',B,q B.tk⟩
theorem _root_.L2.PA.imp(h:PA X es t)(f:∀σV H Q,Tk X.K H->t' σV H Q->t σV H λv H'=>Tk X.K H'->Q v H'):PA X es t':=λpos pins s σV H Q I G=>thn (h pos pins s σV H _ I (f σV H Q I.tk G)) λu L ⟨v,H',B,r,q⟩=>⟨v,H',B,r,q B.tk⟩
theorem wE.two{p:Vl->Vl->Prop}{Q:V->V->Hp->Prop}(S:Sx X.K RT Y J σ σV H)(h:RE (ev P cl σ a) λx=>RE (ev P cl σ b) λy=>p x y)
 (f:∀x y G I B,p x y->Tk X.K B->aL H B->Sx X.K RT Y J σ σV B->Rv X.K RT Y J σ σV B x G->Rv X.K RT Y J σ σV B y I->Q G I B) :
 wE X P cl RT Y J σ a σV H λG H1=>wE X P cl RT Y J σ b σV H1 λI B=>Q G I B:=by refine⟨S,h.mono λx hx G H1 Z L=>⟨S.grow L.1 Z,hx.mono λy hy I B t2 M=>?_⟩⟩;have U:=S.grow L.1 Z;exact f x y G I B hy t2 (L.1.trans M.1) (U.grow M.1 t2) ((L.rv S).grow M.1) (M.rv U)
theorem Ro.val(s:aL H H')(h:∀ex,Rep X.K H' ex d u):Ro X.K RT Y J σ σV H H' (.cl d) u:=Ro.cl s (h _)
theorem s_c (h : eqC d c = true) : PE X (.Constant c k pos) (wE X P cl RT Y J σ (.c d)) := by
 have key : ∀ {v : V}, (∀ (H : Hp) ex, Rep X.K H ex d v) -> PE X (.Constant c k pos) (tC v) -> PE X (.Constant c k pos) (wE X P cl RT Y J σ (.c d)) := λ G B =>B.imp λ σV H Q t ⟨S, q⟩ t' => q _ H t' (Ro.val (aL.refl H) (G H));cases d with
 | non => cases c with|none => exact key (λ _ _ => rfl) aJx|_ => cases h
 | bl b => cases c with
  | bool b' => have e : b = b' := by simpa [eqC] using h
               subst e; exact key (λ _ _ => rfl) aMp
  | _ => cases h
 | int b => cases c with
  | int b' => have e : b = b' := by simpa [eqC] using h
              subst e; exact key (λ _ _ => rfl) aJw
  | _ => cases h
 | str b => cases c with
  | str b' => have e : b = b' := by simpa [eqC] using h
              subst e; exact key (λ _ _ => rfl) aJy
  | _ => cases h
 | _ => cases c <;> cases h
theorem s_v(Z:X.N[i]? = some x)(hv:Vis X.env.scope x)(hd:(x==("__debug__" : Str))=false)(I:(x==("__classdict__" : Str))=false) :
 PE X (.Name x pos) (wE X P cl RT Y J σ (.v i)):=by
 refine(uL Z hv hd I).imp λσV H Q t ⟨S,q⟩=>?_;have q:RE (cB σ i) _:=q;unfold cB at q;cases e:σ[i]? with
 | none=>rw[e] at q;exact q.elim|some sl=>
  rw[e] at q;cases sl with
  | dead=>exact q.elim|dct _=>exact q.elim|own2 _=>exact q.elim|sh pa d=>
   obtain⟨v,B,G⟩:=S.sh i pa d e;refine⟨v,B,λt'=>q v H t' (Ro.plain (aL.refl H) rfl ?_)⟩;unfold Rv;by_cases M:noL d=true;exact Rep.free d v M G;refine Rep.weak G λa z=>?_;rcases z with⟨z,_⟩|z|⟨z,z'⟩
   exact .inl z;exact .inr (.inl z);have:pa=false:=by simpa[M] using z
   exact .inr (.inr ⟨this,z'⟩)
  | own pa ds=>
   obtain⟨a,xs,B,G,h3,L,U⟩:=S.own i pa ds e;refine⟨.ref a,B,λt'=>q _ H t' (Ro.plain (aL.refl H) rfl ?_)⟩;unfold Rv;refine⟨a,xs,rfl,SqL.of G,λz=>?_,U.weak λb z=>?_⟩;rcases z with⟨_,z⟩|z|⟨_,z⟩
   exact z ⟨i,by simp,⟨pa,ds,e⟩,B⟩;exact L (S.yo a z);exact L z;rcases z with⟨z,_⟩|z;exact .inl z;exact .inr z
end
noncomputable def sW(prog:A2)(w:AL)(K:Fg)(a:Addr)(t:List (Str×D)):Prop:=(a==Cb)=false/\∃vs:List (Key×Value),(∀h:Heap,K.In h->h.DictOf (gJ prog w) a vs) /\
 ∀k:Str,(t.lookup k=none/\F4 vs (BZ k:Key)=none)\/∃d u v,t.lookup k=some d/\F4 vs (BZ k:Key)=some u/\bB v u/\∀(H:Hp) (ex:Addr->Prop),Rep K H ex d v
section
variable {X:Cx} {RT Y J:Addr->Prop} {σ:Sg} {σV:L2.St} {H:Hp} {s:Ad} {pins:List (Addr×Obj)} {Q:VK} {ux uy:V} {vx vy:Value} {x y:Vl}
theorem _root_.L2.EP.tk(h:EP X pins σV (λv H'=>Tk X.K H'->Q v H') u s'):EP X pins σV Q u s':=by obtain⟨v,H',B,r,q⟩:=h;exact⟨v,H',B,r,q (Inv.tk B)⟩
abbrev Wn(X:Cx)(RT Y J:Addr->Prop)(σ:Sg)(σV:L2.St)(H:Hp)(Q:VK)(v:Vl):Prop:=∀u H',Tk X.K H'->Ro X.K RT Y J σ σV H H' v u->Q u H'
theorem Wn.val(w:Wn X RT Y J σ σV H Q (.cl d))(t:Tk X.K H)(h:∀ex,Rep X.K H ex d u):Q u H:=w u H t (Ro.cl (aL.refl H) (h _))
theorem Rv.int(h:Rv X.K RT Y J σ σV H x u)(e:x.d=.int i):u=.int i:=by unfold Rv at h;rw[e] at h;exact h
theorem Rv.str(h:Rv X.K RT Y J σ σV H x u)(e:x.d=.str i):u=.str i:=by unfold Rv at h;rw[e] at h;exact h
theorem Rv.bl(h:Rv X.K RT Y J σ σV H x u)(e:x.d=.bl i):u=.bl i:=by unfold Rv at h;rw[e] at h;exact h
theorem Rv.non(h:Rv X.K RT Y J σ σV H x u)(e:x.d=.non):u=.non:=by unfold Rv at h;rw[e] at h;exact h
theorem Rv.tup(h:Rv X.K RT Y J σ σV H x u)(e:x.d=.tup ds):∃a xs,u=.ref a/\SqT X.K H a xs/\Reps X.K H (exV RT Y J σ σV x.pa x.al) ds xs:=by unfold Rv at h;rw[e] at h;exact h
theorem Rv.lst(h:Rv X.K RT Y J σ σV H x u)(e:x.d=.lst ds):∃a xs,u=.ref a/\SqL X.K H a xs/\¬ exV RT Y J σ σV x.pa x.al a/\Reps X.K H (exV RT Y J σ σV x.pa x.al) ds xs:=by unfold Rv at h;rw[e] at h;exact h
theorem aKk:lim<=sizeLine:=by unfold lim;rw[AY];decide
theorem eB(h:n<=lim):n<=sizeLine:=AW h aKk
theorem eW{ds:List D}{xs:List V}{pa:Bool}{al:List Nat}{K:Fg}(r:Reps K H (exV RT Y J σ σV pa al) ds xs) :
 Reps K H (exV RT Y J σ σV (pa&&!noLs ds) (if noLs ds=true then [] else al)) ds xs:=by by_cases B:noLs ds=true;exact Reps.free ds xs B r;grind
noncomputable def aNe(K:Fg):R2:=λx y H Q=>∃l b xs zs,x=.ref l/\y=.ref b/\SqL K H l xs/\SqL K H b zs/\xs.length+zs.length<=sizeLine/\∀p,H p=none->Q (.ref p) (upd H p (.lst (xs++zs)))
theorem aBC:OpR X (Cp .Add) (aNe X.K):=by
 intro pins s σV H x y v u Q I rx ry h;obtain⟨l,b,xs,zs,rfl,rfl,hH,hB,hz,q⟩:=h;cases rx;cases ry;obtain⟨G,r,pl,z⟩:=I.list hH;obtain⟨B,r2,q1,z2⟩:=I.list hB;obtain⟨⟨cls,dd,data,sl⟩,ho,hc,n,hd⟩:=pl.isList;obtain⟨⟨q3,q0,Z,q2⟩,U,L,n2,M⟩:=q1.isList;simp only at hc hd L M;subst hc hd L M;have e:G.toArray++B.toArray=(G++B).toArray:=by simp
 have hl:=r.length;have q4:=r2.length;refine Fx ⟨_,ho,rfl⟩ ⟨_,U,rfl⟩ noFill_list_add seq_list_add PySem.F.slot_list_add PySem.F.entry_list_add (PySem.F.args_list_add_2 _ _) (list_addW l b G.toArray B.toArray n n2 dd q0 sl q2 (by rw[Ah,Ah];omega)) ⟨ho,U,?_⟩;rw[e];exact⟨.ref _,_,I.lnew (r.append r2) (by rw[lA];omega),rfl,q _ I.fresh⟩
theorem aHw(x:Str):Str.rep x 1=x:=by unfold Str.rep;cases x;simp
theorem aDd(x:Str)(h:x.length=0)(k:Nat):Str.rep x k=x:=by
 have B:x.cps=#[]:=by unfold IN at h;exact Array.eq_empty_of_size_eq_zero h
 have go:∀k,(Aj k x.cps).foldl (·++·) #[]=#[]:=by
  intro k;rw[B]
  induction k with
  | zero=>rfl|succ k G=>rw[B7,BD];simpa using G
 unfold Str.rep;rw[go k];cases x;simp at B;rw[B]
theorem aAu(x:Str)(k:Nat):(⟨(Aj k x.cps).foldl (·++·) #[]⟩:Str).length=x.length*k:=by
 have go:∀(k:Nat) (B:Array Nat),((Aj k x.cps).foldl (·++·) B).size=B.size+x.cps.size*k:=by
  intro k
  induction k with
  | zero=>intro B;simp|succ k G=>intro B;rw[B7,BD,G,GZ,Nat.mul_succ];omega
 show((Aj k x.cps).foldl (·++·) #[]).size=x.cps.size*k;rw[go];simp
theorem aHx:OpR X (Cp .Mult) (λx y H Q=>∃a k,x=.str a/\y=.int k/\bE k=true/\a.length*k.toNat<=lim/\Q (.str (Str.rep a k.toNat)) H):=by
 intro pins s σV H x y v u Q I rx ry h;obtain⟨a,k,rfl,rfl,U,M,q⟩:=h;obtain⟨t,rfl⟩:=rx;obtain⟨t',rfl⟩:=ry;unfold bE at U;simp only[bA,AJ] at U;have B:∀z:Str,z=Str.rep a k.toNat->∀tk,EP X pins σV Q (.str z tk) { s with toks:=s.toks+1 }:=λz e tk=>by subst e;exact⟨.str _,H,I.tok _,⟨_,rfl⟩,q⟩
 refine P.mul_str (by rw[(Aw (by omega)),(Aw (by omega))];rfl) (λn1 n2 z=>?_) (λn1 n2=>?_) ?_;have k1:1<=k:=by omega
 have z1:(a.length:Int)*k<=(lim:Int):=by
  have L:((k.toNat:Nat):Int)=k:=by omega
  have:=Int.ofNat_le.mpr M;rw[Im] at this;rw[<-L]
  exact_mod_cast this
 have z3:=Int.lt_mul_of_ediv_lt (by omega) z;have z4:(lim:Int)=1000000:=rfl;omega;unfold Km;have:=eB M;exact Aw (by omega);split;rename_i Z;have:k.toNat=0:=by omega
 exact⟨by decide,(B _ (by rw[this];rfl) _)⟩;split;rename_i Z G;have hz:Str.rep a k.toNat=a:=by rcases Bool.or_eq_true_iff.mp G with z|z;have:=eq_of_beq z;subst this;exact aHw a;exact aDd a (eq_of_beq z) _
 exact⟨.str a,H,I,⟨_,rfl⟩,by rw[hz] at q;exact q⟩;refine⟨?_,B _ rfl _⟩;have:=eB M;rw[aAu];exact this
noncomputable def aKl(K:Fg):R2:=λx y H Q=>∃a b xs ys,x=.ref a/\y=.ref b/\SqT K H a xs/\SqT K H b ys/\xs.length+ys.length<=sizeLine /\
 (xs=[]->Q (.ref b) H)/\(xs≠[]->ys=[]->Q (.ref a) H)/\(xs≠[]->ys≠[]->∀p,H p=none->Q (.ref p) (upd H p (.tup (xs++ys))))
theorem aEH:OpR X (Cp .Add) (aKl X.K):=by
 intro pins s σ H x y v u Q I rx ry h;obtain⟨a,b,xs,ys,rfl,rfl,ha,hb,hz,q0,q1,q2⟩:=h;by_cases M:xs=[]
 cases rx;cases ry;obtain⟨q4,r1,p1,_⟩:=I.tuple ha;obtain⟨U,r2,p2,_⟩:=I.tuple hb;obtain⟨⟨cls,dd,data,sl⟩,ho,hc,n,hd⟩:=id p1;obtain⟨⟨q6,q3,Z,q5⟩,L,B,n2,G⟩:=id p2;simp only at hc hd B G;subst hc hd B G;exact Fx ⟨_,ho,rfl⟩ ⟨_,L,rfl⟩ Fb Go DH DB (Dw _ _)
  (tuple_addW0 a b q4.toArray U.toArray n n2 dd q3 sl q5 (by simp[(r1.nil_iff.mpr M)])) ⟨ho,L,⟨.ref b,H,I,rfl,q0 M⟩⟩
 exact aHn pins s σ H _ _ v u Q I rx ry ⟨a,b,xs,ys,rfl,rfl,ha,hb,M,hz,q1 M,q2 M⟩
theorem aEI{o:Operator}(I:Inv X pins σV H s)(S:Sx X.K RT Y J σ σV H)(rx:bB ux vx)(ry:bB uy vy)(M:Rv X.K RT Y J σ σV H x ux)(U:Rv X.K RT Y J σ σV H y uy)
 (q6:x.fr=true->∃a xs,ux=.ref a/\H a=some (.lst xs)) (h:RE (opD o x y) (Wn X RT Y J σ σV H Q)):As (A5 X.prog X.w) X.A (Cp o vx vy) (EP X pins σV Q) X.xe s:=by
 have t:=Inv.tk I;have go:∀{f:Value->Value->Kr Value} {r:R2},OpR X f r->(r ux uy H λv H'=>Tk X.K H'->Q v H')->As (A5 X.prog X.w) X.A (f vx vy) (EP X pins σV Q) X.xe s:=λhr q=>thn (hr pins s σV H ux uy vx vy _ I rx ry q) λu s' z=>EP.tk z;cases o with
 | Add=>have h:RE (aKf x y) (Wn X RT Y J σ σV H Q):=h;unfold aKf at h;split at h;rename_i i j B G;exact go aJJ ⟨i,j,M.int B,U.int G,λ_=>h.val t λ_=>rfl⟩;rename_i i j B G;obtain⟨c,h⟩:=h.iff;exact go aAb ⟨i,j,M.str B,U.str G,eB (of_decide_eq_true c),λ_=>Wn.val h t λ_=>rfl⟩;rename_i as bs B G;obtain⟨c,h⟩:=h.iff;obtain⟨a,xs,e1,q1,Z⟩:=M.tup B;obtain⟨b,ys,e2,q2,r2⟩:=U.tup G;have l1:=Z.length;have l2:=r2.length;have c':=of_decide_eq_true c;have q4:Reps X.K H (exV RT Y J σ σV (x.pa||y.pa) (x.al++y.al)) as xs:=Z.weak λa z=>z.mono (λL=>by rw[L];rfl) λj hj=>Bo _ hj;have q5:Reps X.K H (exV RT Y J σ σV (x.pa||y.pa) (x.al++y.al)) bs ys:=r2.weak λa z=>z.mono (λL=>by rw[L,Ha]) λj hj=>AD _ hj;refine go aEH ⟨a,b,xs,ys,e1,e2,q1,q2,eB (by omega),λz t'=>?_,λz z' t'=>?_,λz z' p L t'=>?_⟩;subst z;have:as=[]:=CC.mp (by simpa using l1);subst this;exact h _ _ t' (Ro.plain (aL.refl H) rfl ⟨b,ys,rfl,q2,q5⟩);subst z';have:bs=[]:=CC.mp (by simpa using l2);subst this;exact h _ _ t' (Ro.plain (aL.refl H) rfl ⟨a,xs,rfl,q1,by rw[Bd];exact q4⟩);exact h _ _ t' (Ro.tup L rfl rfl (q4.append q5));rename_i as bs B G;obtain⟨c,h⟩:=h.iff;obtain⟨a,xs,e1,q1,_,Z⟩:=M.lst B;obtain⟨b,ys,e2,q2,_,r2⟩:=U.lst G;have l1:=Z.length;have l2:=r2.length;have c':=of_decide_eq_true c;refine go aBC ⟨a,b,xs,ys,e1,e2,q1,q2,eB (by omega),λp L t'=>h _ _ t' (Ro.fresh L t' rfl rfl S ?_)⟩;refine Reps.append ((eW Z).weak λa z=>z.mono (λL=>?_) λj hj=>Bo _ hj) ((eW r2).weak λa z=>z.mono (λL=>?_) λj hj=>AD _ hj);show(_||_)=true;rw[L];rfl;show(_||_)=true;rw[L,Ha];exact h.elim|Mult=>
  have h:RE (aKg x y) (Wn X RT Y J σ σV H Q):=h;unfold aKg at h;split at h;rename_i i j B G;obtain⟨c,h⟩:=h.iff;refine go aJL ⟨i,j,M.int B,U.int G,?_,λ_=>Wn.val h t λ_=>rfl⟩;simp only[xP,Cf,bA,AJ] at c;exact c;rename_i i j B G;obtain⟨c,h⟩:=h.iff;simp only[bA,AJ] at c;exact go aHx ⟨i,j,M.str B,U.int G,c.1,c.2,λ_=>Wn.val h t λ_=>rfl⟩;rename_i as k B G;obtain⟨c,h⟩:=h.iff;simp only[bA,AJ] at c;obtain⟨a,xs,e1,q1,_,Z⟩:=M.lst B;obtain⟨a',q7,q0,q3⟩:=q6 c.1.1.1;rw[e1] at q0;cases q0;have e3:=I.list_inj q1 (SqL.of q3);subst e3;have hk:=c.1.1.2;unfold bE at hk;simp only[bA,AJ] at hk;exact go aKa ⟨a,k,xs,e1,U.int G,q3,by omega,by omega,eB (by rw[<-Z.length];exact c.1.2),λp L t'=>h _ _ t' (Ro.fresh L t' rfl rfl S (Reps.flat (Reps.free as xs c.2 Z) _))⟩;rename_i as k B G;obtain⟨c,h⟩:=h.iff;simp only[bA,AJ,Db,List.isEmpty_eq_false_iff] at c;obtain⟨⟨⟨⟨c1,c2⟩,c3⟩,c4⟩,c5⟩:=c;obtain⟨a,xs,e1,q1,Z⟩:=M.tup B;unfold bE at c2;simp only[bA,AJ] at c2;have r2:=Reps.flat (Reps.free (ex':=exV RT Y J σ σV false []) as xs c5 Z) k.toNat;refine go aHr ⟨a,k,xs,e1,U.int G,q1,λz=>c3 (CC.mp (by rw[Z.length,z];rfl)),c1,by omega,eB (by rw[<-Z.length];exact c4),λz t'=>?_,λ_ p L t'=>h _ _ t' (Ro.tup L rfl rfl r2)⟩;subst z;have e:∀{α:Type} (l:List α),(Aj (1:Int).toNat l).flatten=l:=λl=>by simp
  rw[e] at h;rw[e,e] at r2;exact h _ _ t' (Ro.cl (aL.refl H) ⟨a,xs,rfl,q1,r2⟩);exact h.elim
 | Sub=>dsimp only[opD,xR] at h;split at h;rename_i i j B G;exact go aJK ⟨i,j,M.int B,U.int G,λ_=>h.val t λ_=>rfl⟩;exact h.elim|FloorDiv=>dsimp only[opD,xR] at h;split at h;rename_i i j B G;obtain⟨c,h⟩:=h.iff;refine go aHb ⟨i,j,M.int B,U.int G,?_,λ_=>Wn.val h t λ_=>rfl⟩;simp only[xQ,bA,AJ] at c;exact c;exact h.elim|Mod=>dsimp only[opD,xR] at h;split at h;rename_i i j B G;obtain⟨c,h⟩:=h.iff;exact go aJM ⟨i,j,M.int B,U.int G,of_decide_eq_true c,λ_=>Wn.val h t λ_=>rfl⟩;exact h.elim|Pow=>dsimp only[opD,xR] at h;split at h;rename_i i j B G;obtain⟨c,h⟩:=h.iff;refine go aJN ⟨i,j,M.int B,U.int G,?_,λ_=>Wn.val h t λ_=>rfl⟩;simp only[aIU,bA,AJ] at c;exact⟨c.1.1,by omega,c.2⟩;exact h.elim|_=>exact h.elim
end
end Hp
namespace Hp
open PySem PySem.Spec PyProof.Rows L2 PySem.SeqAt
noncomputable def lQ(n:Nat)(ds es:List D)(j:Nat):Bool:=match ds[j]?,es[j]? with|some x,some y=>(eqF n x y).getD false|_,_=>false
theorem aBD:∀{n:Nat} {ds es:List D} {k:Bool},dU n ds es=some k->∀{j:Nat} {x y:D},ds[j]? = some x->es[j]? = some y->∃b,eqF n x y=some b
 | n,[],es,k,h,j,x,y,e1,e2=>by simp at e1|n,d::ds,[],k,h,j,x,y,e1,e2=>by simp at e2|n,d::ds,e::es,k,h,j,x,y,e1,e2=>by
  rw[dU] at h;cases B:eqF n d e with
  | none=>rw[B] at h;simp at h|some b=>
   cases G:dU n ds es with
   | none=>rw[B,G] at h;simp at h|some I=>
    cases j with
    | zero=>simp at e1 e2;subst e1 e2;exact⟨b,B⟩|succ j=>exact aBD G (by simpa using e1) (by simpa using e2)
theorem pK:∀{n:Nat} {ds es:List D} {k:Bool},dU n ds es=some k->k=((Au (min ds.length es.length)).all (lQ n ds es)&&ds.length==es.length)
 | n,[],[],k,h=>by simp[dU] at h;simp[<-h]|n,[],e::es,k,h=>by simp[dU] at h;simp[<-h]|n,d::ds,[],k,h=>by simp[dU] at h;simp[<-h]|n,d::ds,e::es,k,h=>by
  rw[dU] at h;cases B:eqF n d e with
  | none=>rw[B] at h;simp at h|some b=>
   cases G:dU n ds es with
   | none=>rw[B,G] at h;simp at h|some M=>
    rw[B,G] at h;have I:lQ n (d::ds) (e::es) 0=b:=by simp[lQ,B]
    have L:min (d::ds).length (e::es).length=min ds.length es.length+1:=by simp only[lC];omega
    rw[L,DN,Ea,I,F5];have:(lQ n (d::ds) (e::es))∘KS=lQ n ds es:=funext λj=>(λj=>by simp[lQ]) j;rw[this,<-(Ao h),(pK G)];simp[Bool.and_assoc]
section
variable {X:Cx} {σV:L2.St} {H:Hp} {s:Ad} {pins:List (Addr×Obj)}
theorem _root_.L2.Inv.lt_ne(I:L2.Inv X pins σV H s)(G:SqL X.K H a xs)(L:SqT X.K H a ys):False:=by obtain⟨M,_,pl,_⟩:=I.list G;obtain⟨B,_,pt,_⟩:=I.tuple L;exact ne_of_list_tuple pl.isList (pt) rfl
mutual
theorem uY(I:L2.Inv X pins σV H s):∀(n:Nat) (d e:D) (u:V) (k:Bool) (ex ex':Addr->Prop),Rep X.K H ex d u->Rep X.K H ex' e u->eqF n d e=some k->k=true
 | 0,d,e,u,k,_,_,_,_,h=>by simp[eqF] at h|n+1,.non,e,u,k,_,_,h1,h2,h=>by
  rw[show u=.non from h1] at h2;cases e with
  | non=>simpa[eqF] using h.symm|tup ds=>obtain⟨a,xs,z,_⟩:=h2;cases z|lst ds=>obtain⟨a,xs,z,_⟩:=h2;cases z|err _ _=>simp[eqF] at h|bl b=>cases(h2)|int b=>cases(h2)|str b=>cases(h2)
 | n+1,.bl b,e,u,k,_,_,h1,h2,h=>by
  rw[show u=.bl b from h1] at h2;cases e with
  | bl B=>cases(h2);simpa[eqF] using h.symm|tup ds=>obtain⟨a,xs,z,_⟩:=h2;cases z|lst ds=>obtain⟨a,xs,z,_⟩:=h2;cases z|err _ _=>simp[eqF] at h|non=>cases(h2)|int B=>cases(h2)|str B=>cases(h2)
 | n+1,.int b,e,u,k,_,_,h1,h2,h=>by
  rw[show u=.int b from h1] at h2;cases e with
  | int B=>cases(h2);simpa[eqF] using h.symm|tup ds=>obtain⟨a,xs,z,_⟩:=h2;cases z|lst ds=>obtain⟨a,xs,z,_⟩:=h2;cases z|err _ _=>simp[eqF] at h|non=>cases(h2)|bl B=>cases(h2)|str B=>cases(h2)
 | n+1,.str b,e,u,k,_,_,h1,h2,h=>by
  rw[show u=.str b from h1] at h2;cases e with
  | str B=>cases(h2);simpa[eqF] using h.symm|tup ds=>obtain⟨a,xs,z,_⟩:=h2;cases z|lst ds=>obtain⟨a,xs,z,_⟩:=h2;cases z|err _ _=>simp[eqF] at h|non=>cases(h2)|bl B=>cases(h2)|int B=>cases(h2)
 | n+1,.tup ds,e,u,k,ex,ex',h1,h2,h=>by
  obtain⟨a,xs,z,q,r⟩:=h1;subst z;cases e with
  | tup es=>obtain⟨M,U,z,G,L⟩:=h2;cases z;have:=I.tuple_inj q G;subst this;exact eqs_same I n ds es xs k ex ex' r L (by simpa[eqF] using h)|lst es=>obtain⟨M,U,z,G,_,L⟩:=h2;cases z;exact(I.lt_ne G q).elim|err _ _=>simp[eqF] at h|non=>cases(h2)|bl B=>cases(h2)|int B=>cases(h2)|str B=>cases(h2)
 | n+1,.lst ds,e,u,k,ex,ex',h1,h2,h=>by
  obtain⟨a,xs,z,q,_,r⟩:=h1;subst z;cases e with
  | lst es=>obtain⟨M,U,z,G,_,L⟩:=h2;cases z;have:=I.list_inj q G;subst this;exact eqs_same I n ds es xs k ex ex' r L (by simpa[eqF,(r.length.trans L.length.symm)] using h)|tup es=>obtain⟨M,U,z,G,L⟩:=h2;cases z;exact(I.lt_ne q G).elim|err _ _=>simp[eqF] at h|non=>cases(h2)|bl B=>cases(h2)|int B=>cases(h2)|str B=>cases(h2)
 | n+1,.err _ _,e,u,k,ex,ex',h1,h2,h=>by cases e <;> cases h
theorem eqs_same(I:L2.Inv X pins σV H s):∀(n:Nat) (ds es:List D) (us:List V) (k:Bool) (ex ex':Addr->Prop),Reps X.K H ex ds us->Reps X.K H ex' es us->dU n ds es=some k->k=true
 | n,[],[],us,k,_,_,h1,h2,h=>by simpa[dU] using h.symm|n,[],e::es,us,k,_,_,h1,h2,h=>by obtain⟨x,r,z,_⟩:=h2;rw[show us=[] from h1] at z;cases z|n,d::ds,[],us,k,_,_,h1,h2,h=>by obtain⟨x,r,z,_⟩:=h1;rw[show us=[] from h2] at z;cases z|n,d::ds,e::es,us,k,ex,ex',h1,h2,h=>by
  obtain⟨x,r,z,M,b1⟩:=h1;obtain⟨x',r',L,U,b2⟩:=h2;rw[z] at L;cases L;rw[dU] at h;cases B:eqF n d e with
  | none=>rw[B] at h;simp at h|some b=>
   cases G:dU n ds es with
   | none=>rw[B,G] at h;simp at h|some Z=>rw[B,G] at h;have e1:=uY I n d e x b ex ex' M U B;have e2:=eqs_same I n ds es r Z ex ex' b1 b2 G;grind
end
noncomputable def Eq3(A:AT)(s:Ad)(v z:Value)(k:Bool):Prop:=EqAt A s v z k/\RcAt A s v z k/\RcNeAt A s v z (!k)
theorem uZ{xs:List V}{us:List Value}(r:aX xs us)(h:j<us.toArray.size):∃x,xs[j]? = some x/\bB x us.toArray[j]:=by
 have I:=r.length;have B:j<xs.length:=by rw[Ah] at h;omega
 obtain⟨u,e,q⟩:=r.get (Ac B);refine⟨xs[j],Ac B,?_⟩;have:us.toArray[j]=u:=by
  have G:us[j]? = some us.toArray[j]:=by simp[Ac (show j<us.length by simpa using h)]
  rw[G] at e;exact Ao e
 rw[this];exact q
theorem mV(A:AT):A.in1.units=A.units+1:=rfl
theorem vA(I:L2.Inv X pins σV H s):∀(n:Nat) (A:AT) (d e:D) (u w:V) (v z:Value) (k:Bool) (ex ex':Addr->Prop),A.units+n<cLine->Rep X.K H ex d u->Rep X.K H ex' e w->bB u v->bB w z->eqF n d e=some k->Eq3 A s v z k:=by
 intro n
 induction n with
 | zero=>intro A d e u w v z k ex ex' _ _ _ _ _ h;simp[eqF] at h|succ n ih=>
  intro A d e u w v z k ex ex' hA h1 Z r1 L h;have G:A.units<cLine:=by omega
  have items:∀{ds es:List D} {xs ys:List V} {M U:List Value} {k:Bool},Reps X.K H ex ds xs->Reps X.K H ex' es ys->aX xs M->aX ys U->dU n ds es=some k ->
   ∀j (_:j<M.toArray.size) (_:j<U.toArray.size),EqAt A.in1 s M.toArray[j] U.toArray[j] (lQ n ds es j):=by
   intro ds es xs ys M U k q1 q2 v1 v2 hk j w5 w6;obtain⟨x,w3,rx⟩:=uZ v1 w5;obtain⟨y,w4,ry⟩:=uZ v2 w6;obtain⟨d',ed,rd⟩:=q1.get' w3;obtain⟨e',ee,re⟩:=q2.get' w4;obtain⟨b,hb⟩:=aBD hk ed ee;have hj:lQ n ds es j=b:=by simp[lQ,ed,ee,hb]
   rw[hj];exact(ih A.in1 d' e' x y _ _ b ex ex' (by rw[mV];omega) rd re rx ry hb).1
  cases d with
  | err _ _=>cases e <;> cases h|non=>
   rw[show u=.non from h1] at r1;cases r1;cases e with
   | err _ _=>simp[eqF] at h|non=>rw[show w=.non from Z] at L;cases L;simp[eqF] at h;subst h;exact⟨EqAt.same _,RcAt.none_none,RcNeAt.none_none⟩|bl b=>rw[show w=.bl b from Z] at L;cases L;simp[eqF] at h;subst h;exact⟨EqAt.none_bool _,RcAt.none_bool _,RcNeAt.none_bool _⟩|int b=>rw[show w=.int b from Z] at L;obtain⟨t,rfl⟩:=L;simp[eqF] at h;subst h;exact⟨EqAt.none_int _ _,RcAt.none_int _ _,RcNeAt.none_int _ _⟩|str b=>rw[show w=.str b from Z] at L;obtain⟨t,rfl⟩:=L;simp[eqF] at h;subst h;exact⟨EqAt.none_str _ _,RcAt.none_str _ _,RcNeAt.none_str _ _⟩|tup es=>obtain⟨b,ys,rfl,q,r⟩:=Z;cases L;obtain⟨M,_,p,_⟩:=I.tuple q;simp[eqF] at h;subst h;exact⟨EqAt.none_tuple (show s.heap.IsTuple b M.toArray from p) G,RcAt.none_tuple (show s.heap.IsTuple b M.toArray from p) G,RcNeAt.none_tuple (show s.heap.IsTuple b M.toArray from p) G⟩|lst es=>obtain⟨b,ys,rfl,q,_,r⟩:=Z;cases L;obtain⟨M,_,p,_⟩:=I.list q;simp[eqF] at h;subst h;exact⟨EqAt.none_list p.isList G,RcAt.none_list p.isList G,RcNeAt.none_list p.isList G⟩
  | bl a=>
   rw[show u=.bl a from h1] at r1;cases r1;cases e with
   | err _ _=>simp[eqF] at h|non=>rw[show w=.non from Z] at L;cases L;simp[eqF] at h;subst h;exact⟨EqAt.bool_none _,RcAt.bool_none _,RcNeAt.bool_none _⟩|bl b=>rw[show w=.bl b from Z] at L;cases L;simp only[eqF,BB] at h;subst h;exact⟨EqAt.bool_bool _ _,RcAt.bool_bool _ _,RcNeAt.bool_bool _ _⟩|int b=>rw[show w=.int b from Z] at L;obtain⟨t,rfl⟩:=L;simp only[eqF,BB] at h;subst h;exact⟨EqAt.bool_int _ _ _,RcAt.bool_int _ _ _,RcNeAt.bool_int _ _ _⟩|str b=>rw[show w=.str b from Z] at L;obtain⟨t,rfl⟩:=L;simp[eqF] at h;subst h;exact⟨EqAt.bool_str _ _ _,RcAt.bool_str _ _ _,RcNeAt.bool_str _ _ _⟩|tup es=>obtain⟨b,ys,rfl,q,r⟩:=Z;cases L;obtain⟨M,_,p,_⟩:=I.tuple q;simp[eqF] at h;subst h;exact⟨EqAt.bool_tuple _ (show s.heap.IsTuple b M.toArray from p) G,RcAt.bool_tuple _ (show s.heap.IsTuple b M.toArray from p) G,RcNeAt.bool_tuple _ (show s.heap.IsTuple b M.toArray from p) G⟩|lst es=>obtain⟨b,ys,rfl,q,_,r⟩:=Z;cases L;obtain⟨M,_,p,_⟩:=I.list q;simp[eqF] at h;subst h;exact⟨EqAt.bool_list _ p.isList G,RcAt.bool_list _ p.isList G,RcNeAt.bool_list _ p.isList G⟩
  | int a=>
   rw[show u=.int a from h1] at r1;obtain⟨t1,rfl⟩:=r1;cases e with
   | err _ _=>simp[eqF] at h|non=>rw[show w=.non from Z] at L;cases L;simp[eqF] at h;subst h;exact⟨EqAt.int_none _ _,RcAt.int_none _ _,RcNeAt.int_none _ _⟩|bl b=>rw[show w=.bl b from Z] at L;cases L;simp only[eqF,BB] at h;subst h;exact⟨EqAt.int_bool _ _ _,RcAt.int_bool _ _ _,RcNeAt.int_bool _ _ _⟩|int b=>rw[show w=.int b from Z] at L;obtain⟨t,rfl⟩:=L;simp only[eqF,BB] at h;subst h;exact⟨EqAt.int_int _ _ _ _,RcAt.int_int _ _ _ _,RcNeAt.int_int _ _ _ _⟩|str b=>rw[show w=.str b from Z] at L;obtain⟨t,rfl⟩:=L;simp[eqF] at h;subst h;exact⟨EqAt.int_str _ _ _ _,RcAt.int_str _ _ _ _,RcNeAt.int_str _ _ _ _⟩|tup es=>obtain⟨b,ys,rfl,q,r⟩:=Z;cases L;obtain⟨M,_,p,_⟩:=I.tuple q;simp[eqF] at h;subst h;exact⟨EqAt.int_tuple _ _ (show s.heap.IsTuple b M.toArray from p) G,RcAt.int_tuple _ _ (show s.heap.IsTuple b M.toArray from p) G,RcNeAt.int_tuple _ _ (show s.heap.IsTuple b M.toArray from p) G⟩|lst es=>obtain⟨b,ys,rfl,q,_,r⟩:=Z;cases L;obtain⟨M,_,p,_⟩:=I.list q;simp[eqF] at h;subst h;exact⟨EqAt.int_list _ _ p.isList G,RcAt.int_list _ _ p.isList G,RcNeAt.int_list _ _ p.isList G⟩
  | str a=>
   rw[show u=.str a from h1] at r1;obtain⟨t1,rfl⟩:=r1;cases e with
   | err _ _=>simp[eqF] at h|non=>rw[show w=.non from Z] at L;cases L;simp[eqF] at h;subst h;exact⟨EqAt.str_none _ _,RcAt.str_none _ _,RcNeAt.str_none _ _⟩|bl b=>rw[show w=.bl b from Z] at L;cases L;simp[eqF] at h;subst h;exact⟨EqAt.str_bool _ _ _,RcAt.str_bool _ _ _,RcNeAt.str_bool _ _ _⟩|int b=>rw[show w=.int b from Z] at L;obtain⟨t,rfl⟩:=L;simp[eqF] at h;subst h;exact⟨EqAt.str_int _ _ _ _,RcAt.str_int _ _ _ _,RcNeAt.str_int _ _ _ _⟩|str b=>rw[show w=.str b from Z] at L;obtain⟨t,rfl⟩:=L;simp only[eqF,BB] at h;subst h;exact⟨EqAt.str_str _ _ _ _,RcAt.str_str _ _ _ _,RcNeAt.str_str _ _ _ _⟩|tup es=>obtain⟨b,ys,rfl,q,r⟩:=Z;cases L;obtain⟨M,_,p,_⟩:=I.tuple q;simp[eqF] at h;subst h;exact⟨EqAt.str_tuple _ _ (show s.heap.IsTuple b M.toArray from p) G,RcAt.str_tuple _ _ (show s.heap.IsTuple b M.toArray from p) G,RcNeAt.str_tuple _ _ (show s.heap.IsTuple b M.toArray from p) G⟩|lst es=>obtain⟨b,ys,rfl,q,_,r⟩:=Z;cases L;obtain⟨M,_,p,_⟩:=I.list q;simp[eqF] at h;subst h;exact⟨EqAt.str_list _ _ p.isList G,RcAt.str_list _ _ p.isList G,RcNeAt.str_list _ _ p.isList G⟩
  | tup ds=>
   have q7:=h1;obtain⟨a,xs,rfl,q1,q4⟩:=h1;cases r1;obtain⟨q3,v1,p1,_⟩:=I.tuple q1;have B:s.heap.IsTuple a q3.toArray:=p1;cases e with
   | err _ _=>simp[eqF] at h|non=>rw[show w=.non from Z] at L;cases L;simp[eqF] at h;subst h;exact⟨EqAt.tuple_none B G,RcAt.tuple_none B G,RcNeAt.tuple_none B G⟩|bl b=>rw[show w=.bl b from Z] at L;cases L;simp[eqF] at h;subst h;exact⟨EqAt.tuple_bool _ B G,RcAt.tuple_bool _ B G,RcNeAt.tuple_bool _ B G⟩|int b=>rw[show w=.int b from Z] at L;obtain⟨t,rfl⟩:=L;simp[eqF] at h;subst h;exact⟨EqAt.tuple_int _ _ B G,RcAt.tuple_int _ _ B G,RcNeAt.tuple_int _ _ B G⟩|str b=>rw[show w=.str b from Z] at L;obtain⟨t,rfl⟩:=L;simp[eqF] at h;subst h;exact⟨EqAt.tuple_str _ _ B G,RcAt.tuple_str _ _ B G,RcNeAt.tuple_str _ _ B G⟩|tup es=>
    have q8:=Z;obtain⟨b,ys,rfl,q2,q0⟩:=Z;cases L;obtain⟨U,v2,p2,_⟩:=I.tuple q2;have hk:dU n ds es=some k:=by simpa[eqF] using h
    have hv:=pK hk;have l1:q3.toArray.size=ds.length:=by rw[Ah,<-v1.length,q4.length]
    have l2:U.toArray.size=es.length:=by rw[Ah,<-v2.length,q0.length]
    have rc:RcAt A s (.ref a) (.ref b) k:=by rw[hv,<-l1,<-l2];exact RcAt.tuples B (show s.heap.IsTuple b U.toArray from p2) G (items q4 q0 v1 v2 hk)
    have rn:RcNeAt A s (.ref a) (.ref b) (!k):=by rw[hv,<-l1,<-l2];exact RcNeAt.tuples B (show s.heap.IsTuple b U.toArray from p2) G (items q4 q0 v1 v2 hk)
    refine⟨?_,rc,rn⟩;by_cases q6:a=b;subst q6;have:=uY I (n+1) (.tup ds) (.tup es) (.ref a) k ex ex' q7 q8 h;subst this;exact EqAt.same _;exact EqAt.of_refs q6 rc
   | lst es=>obtain⟨b,ys,rfl,q2,_,q0⟩:=Z;cases L;obtain⟨U,v2,p2,_⟩:=I.list q2;simp[eqF] at h;subst h;exact⟨EqAt.tuple_list B p2.isList G,RcAt.tuple_list B p2.isList G,RcNeAt.tuple_list B p2.isList G⟩
  | lst ds=>
   have q7:=h1;obtain⟨a,xs,rfl,q1,_,q4⟩:=h1;cases r1;obtain⟨q3,v1,p1,_⟩:=I.list q1;have B:=p1.isList;cases e with
   | err _ _=>simp[eqF] at h|non=>rw[show w=.non from Z] at L;cases L;simp[eqF] at h;subst h;exact⟨EqAt.list_none B G,RcAt.list_none B G,RcNeAt.list_none B G⟩|bl b=>rw[show w=.bl b from Z] at L;cases L;simp[eqF] at h;subst h;exact⟨EqAt.list_bool _ B G,RcAt.list_bool _ B G,RcNeAt.list_bool _ B G⟩|int b=>rw[show w=.int b from Z] at L;obtain⟨t,rfl⟩:=L;simp[eqF] at h;subst h;exact⟨EqAt.list_int _ _ B G,RcAt.list_int _ _ B G,RcNeAt.list_int _ _ B G⟩|str b=>rw[show w=.str b from Z] at L;obtain⟨t,rfl⟩:=L;simp[eqF] at h;subst h;exact⟨EqAt.list_str _ _ B G,RcAt.list_str _ _ B G,RcNeAt.list_str _ _ B G⟩|lst es=>
    have q8:=Z;obtain⟨b,ys,rfl,q2,_,q0⟩:=Z;cases L;obtain⟨U,v2,p2,_⟩:=I.list q2;have l1:q3.toArray.size=ds.length:=by rw[Ah,<-v1.length,q4.length]
    have l2:U.toArray.size=es.length:=by rw[Ah,<-v2.length,q0.length]
    have q5:RcAt A s (.ref a) (.ref b) k/\RcNeAt A s (.ref a) (.ref b) (!k):=by
     by_cases hl:ds.length=es.length;have hk:dU n ds es=some k:=by simpa[eqF,hl] using h
     have hv:=pK hk;rw[<-hl,Nat.min_self,beq_self_eq_true,Dy,<-l1] at hv;rw[hv];exact⟨RcAt.lists B p2.isList (by rw[l1,l2,hl]) G (items q4 q0 v1 v2 hk),RcNeAt.lists B p2.isList (by rw[l1,l2,hl]) G (items q4 q0 v1 v2 hk)⟩;have hk:k=false:=by simpa[eqF,hl] using h.symm
     subst hk;have hz:(q3.toArray.size != U.toArray.size)=true:=by rw[l1,l2];simpa using hl
     exact⟨RcAt.lists_lengths B p2.isList hz G,RcNeAt.lists_lengths B p2.isList hz G⟩
    refine⟨?_,q5.1,q5.2⟩;by_cases q6:a=b;subst q6;have:=uY I (n+1) (.lst ds) (.lst es) (.ref a) k ex ex' q7 q8 h;subst this;exact EqAt.same _;exact EqAt.of_refs q6 q5.1
   | tup es=>obtain⟨b,ys,rfl,q2,q0⟩:=Z;cases L;obtain⟨U,v2,p2,_⟩:=I.tuple q2;have q9:s.heap.IsTuple b U.toArray:=p2;simp[eqF] at h;subst h;exact⟨EqAt.list_tuple B q9 G,RcAt.list_tuple B q9 G,RcNeAt.list_tuple B q9 G⟩
mutual
theorem aBE(I:L2.Inv X pins σV H s):∀(d e:D) (u:V) (ex ex':Addr->Prop),Rep X.K H ex d u->Rep X.K H ex' e u->fW d=true->fW e=true->d=e
 | .non,e,u,_,_,G,B,_,_=>by
  rw[show u=.non from G] at B;cases e with
  | non=>rfl|err _ _=>obtain⟨_,_,z,_⟩:=iV B;cases z|_=>first|(obtain⟨a,xs,z,_⟩:=B;cases z)|exact B.elim|(injection B)
 | .bl b,e,u,_,_,G,B,_,_=>by
  rw[show u=.bl b from G] at B;cases e with
  | bl b'=>cases(B);rfl|err _ _=>obtain⟨_,_,z,_⟩:=iV B;cases z|_=>first|(obtain⟨a,xs,z,_⟩:=B;cases z)|exact B.elim|(injection B)
 | .int b,e,u,_,_,G,B,_,_=>by
  rw[show u=.int b from G] at B;cases e with
  | int b'=>cases(B);rfl|err _ _=>obtain⟨_,_,z,_⟩:=iV B;cases z|_=>first|(obtain⟨a,xs,z,_⟩:=B;cases z)|exact B.elim|(injection B)
 | .str b,e,u,_,_,G,B,_,_=>by
  rw[show u=.str b from G] at B;cases e with
  | str b'=>cases(B);rfl|err _ _=>obtain⟨_,_,z,_⟩:=iV B;cases z|_=>first|(obtain⟨a,xs,z,_⟩:=B;cases z)|exact B.elim|(injection B)
 | .tup ds,e,u,ex,ex',G,B,M,U=>by
  obtain⟨a,xs,z,q,r⟩:=G;subst z;cases e with
  | tup es=>obtain⟨a',ys,z,L,Z⟩:=B;cases z;have:=I.tuple_inj q L;subst this;rw[reps_inj I ds es xs ex ex' r Z (by simpa[fW] using M) (by simpa[fW] using U)]|lst es=>obtain⟨a',ys,z,L,_,Z⟩:=B;cases z;exact(I.lt_ne L q).elim|err _ _=>simp[fW] at U|_=>injection B
 | .lst ds,e,u,ex,ex',G,B,M,U=>by
  obtain⟨a,xs,z,q,_,r⟩:=G;subst z;cases e with
  | lst es=>obtain⟨a',ys,z,L,_,Z⟩:=B;cases z;have:=I.list_inj q L;subst this;rw[reps_inj I ds es xs ex ex' r Z (by simpa[fW] using M) (by simpa[fW] using U)]|tup es=>obtain⟨a',ys,z,L,Z⟩:=B;cases z;exact(I.lt_ne q L).elim|err _ _=>simp[fW] at U|_=>injection B
 | .err _ _,e,u,_,_,G,_,M,_=>by simp[fW] at M
theorem reps_inj(I:L2.Inv X pins σV H s):∀(ds es:List D) (us:List V) (ex ex':Addr->Prop),Reps X.K H ex ds us->Reps X.K H ex' es us->noDics ds=true->noDics es=true->ds=es
 | [],[],_,_,_,_,_,_,_=>rfl|[],e::es,us,_,_,h1,h2,_,_=>by obtain⟨x,r,z,_⟩:=h2;rw[show us=[] from h1] at z;cases z|d::ds,[],us,_,_,h1,h2,_,_=>by obtain⟨x,r,z,_⟩:=h1;rw[show us=[] from h2] at z;cases z|d::ds,e::es,us,ex,ex',h1,h2,n1,n2=>by obtain⟨x,r,z,G,M⟩:=h1;obtain⟨x',Z,B,L,U⟩:=h2;rw[z] at B;cases B;simp only[noDics,bA] at n1 n2;rw[aBE I d e x ex ex' G L n1.1 n2.1,reps_inj I ds es r ex ex' M U n1.2 n2.2]
end
theorem iG:∀{ds:List D} {ns:List Int} {xs:List V} {ex:Addr->Prop},bG ds=some ns->Reps X.K H ex ds xs->xs=ns.map V.int
 | [],ns,xs,ex,h,r=>by simp[bG] at h;subst h;exact r|.int a::ds,ns,xs,ex,h,r=>by
  obtain⟨x,L,z,B,G⟩:=r;rw[bG] at h;cases q:bG ds with
  | none=>rw[q] at h;cases h|some I=>rw[q] at h;cases h;rw[z,show x=.int a from B,iG q G];rfl
 | .non::ds,ns,xs,ex,h,r=>by simp[bG] at h|.bl _::ds,ns,xs,ex,h,r=>by simp[bG] at h|.str _::ds,ns,xs,ex,h,r=>by simp[bG] at h|.tup _::ds,ns,xs,ex,h,r=>by simp[bG] at h|.lst _::ds,ns,xs,ex,h,r=>by simp[bG] at h|.err _ _::ds,ns,xs,ex,h,r=>by simp[bG] at h
theorem aBF:∀{x:D} {B:List D} {k:Bool},lP x B=some k->(∀y∈B,∃b,eqD y x=some b)/\(k=true↔∃y∈B,eqD y x=some true)
 | x,[],k,h=>by simp[lP] at h;subst h;simp|x,y::B,k,h=>by
  rw[lP] at h;cases G:eqD y x with
  | none=>rw[G] at h;simp at h|some a=>
   cases I:lP x B with
   | none=>rw[G,I] at h;simp at h|some b=>rw[G,I] at h;obtain⟨i1,i2⟩:=aBF I;grind
theorem kH:∀{ds:List D} {d:D},noDics ds=true->d∈ds->fW d=true
 | d'::ds,d,h,hm=>by simp only[noDics,bA] at h;rcases Ax.mp hm with e|e;subst e;exact h.1;exact kH h.2 e
open Classical in
theorem iW(I:L2.Inv X pins σV H s){A:AT}(hA:A.units+gM+1<cLine){ex ex':Addr->Prop}{B:List Value}
 (hx:Rep X.K H ex x ux) (rx:bB ux vx) (r:Reps X.K H ex' ys xs) (v:aX xs B) (hn:noDics ys=true) (h:lP x ys=some k) :
 ∃e:Value->Bool,(∀y,y∈B.toArray->EqAt A.in1 s y vx (e y))/\B.toArray.any e=k:=by
 obtain⟨h1,h2⟩:=aBF h;have at':∀y∈B,∃u d,bB u y/\Rep X.K H ex' d u/\d∈ys:=λy L=>by
  obtain⟨j,U⟩:=BX L;have hl:=v.length;have G:j<xs.length:=by have:=(Ai.mp U).1;omega
  obtain⟨u',e',q⟩:=v.get (Ac G);rw[U] at e';cases e';obtain⟨d,hd,M⟩:=r.get' (Ac G);exact⟨_,d,q,M,mG hd⟩
 refine⟨λy=>decide (∃u d,bB u y/\Rep X.K H ex' d u/\d∈ys/\eqD d x=some true),λy L=>?_,?_⟩;obtain⟨u,d,q,M,hd⟩:=at' y (by simpa using L);obtain⟨b,hb⟩:=h1 d hd;have q0:(decide (∃u d,bB u y/\Rep X.K H ex' d u/\d∈ys/\eqD d x=some true))=b:=by
  cases b with
  | true=>exact Av ⟨u,d,q,M,hd,hb⟩|false=>refine Aw ?_;rintro ⟨u',d',q',q1,Z,q2⟩;have e1:=q'.inj q;subst e1;have e2:=aBE I d d' u' ex' ex' M q1 (kH hn hd) (kH hn Z);grind
 show EqAt A.in1 s y vx (decide (∃u d,bB u y/\Rep X.K H ex' d u/\d∈ys/\eqD d x=some true));rw[q0];exact(vA I gM A.in1 d x u ux y vx b ex' ex (by rw[mV];omega) M hx q rx hb).1;rw[El,h2];constructor;grind;rintro ⟨d,hd,e⟩;have:B.any (λy=>decide (∃u d,bB u y/\Rep X.K H ex' d u/\d∈ys/\eqD d x=some true))=true:=by obtain⟨j,U⟩:=BX hd;obtain⟨u,hu,ru⟩:=r.get U;obtain⟨y,L,q⟩:=v.get hu;exact HK.mpr ⟨y,mG L,Av ⟨u,d,q,ru,hd,e⟩⟩
 grind
end
section
variable {X:Cx} {RT Y J:Addr->Prop} {σ:Sg} {σV:L2.St} {H:Hp} {s:Ad} {pins:List (Addr×Obj)} {Q:VK} {ux uy:V} {vx vy:Value} {x y:Vl}
theorem aDe(I:L2.Inv X pins σV H s)(hA:X.A.units+200<cLine)(rx:bB ux vx)(ry:bB uy vy)(B:Rv X.K RT Y J σ σV2 H x ux)(Z:Rv X.K RT Y J σ σV2 H y uy)
 (h:cT o x.d y.d=some k) (q:Q (.bl k) H):As (A5 X.prog X.w) X.A (BP o vx vy) (EP X pins σV Q) X.xe s:=by
 have hu:X.A.units<cLine:=by omega
 have U:EP X pins σV Q (.bool k) s:=⟨.bl k,H,I,rfl,q⟩
 have hD:gM=120:=rfl;have go:∀{f:Value->Value->Kr Value} {r:R2},OpR X f r->r ux uy H Q->As (A5 X.prog X.w) X.A (f vx vy) (EP X pins σV Q) X.xe s:=λhr q=>hr pins s σV H ux uy vx vy Q I rx ry q;have e3:∀{b:Bool},eqD x.d y.d=some b->Eq3 X.A s vx vy b:=λ{b} hb=>vA I gM X.A x.d y.d ux uy vx vy b _ _ (by omega) B Z rx ry hb;cases o with
 | Eq=>exact(e3 h).2.1 X.prog X.w X.xe _ U|NotEq=>simp only[cT,Bf] at h;obtain⟨b,hb,e⟩:=h;subst e;exact(e3 hb).2.2 X.prog X.w X.xe _ U|Lt=>simp only[cT] at h;unfold ltD at h;split at h;rename_i a b L G;exact go aMG ⟨a,b,B.int L,Z.int G,by show Q (.bl (decide (a<b))) H;rw[Ao h];exact q⟩;cases h|Gt=>simp only[cT] at h;split at h;rename_i a b L G;exact go aMI ⟨a,b,B.int L,Z.int G,by show Q (.bl (decide (b<a))) H;rw[Ao h];exact q⟩;cases h|LtE=>simp only[cT] at h;unfold leD at h;split at h;rename_i a b L G;exact go aMH ⟨a,b,B.int L,Z.int G,by show Q (.bl (decide (a<=b))) H;rw[Ao h];exact q⟩;cases h|GtE=>simp only[cT] at h;split at h;rename_i a b L G;exact go aMJ ⟨a,b,B.int L,Z.int G,by show Q (.bl (decide (b<=a))) H;rw[Ao h];exact q⟩;cases h|Is=>
  simp only[cT] at h;split at h;rename_i G;refine go aJP ⟨Z.non G,?_⟩;have:decide (ux=V.non)=k:=by
   rw[<-Ao h];unfold isNone;split;rename_i L;rw[B.non L];simp;rename_i L;refine Aw λz=>?_;rw[z] at B;unfold Rv at B;cases q':x.d with
   | non=>exact L q'|err _ _=>rw[q'] at B;obtain⟨_,_,z',_⟩:=iV B;cases z'|_=>rw[q'] at B;first|(obtain⟨a,xs,z',_⟩:=B;cases z')|exact B.elim|injection B
  rw[this];exact q;cases h
 | IsNot=>
  simp only[cT] at h;split at h;rename_i G;refine go aHc ⟨Z.non G,?_⟩;have:(!decide (ux=V.non))=k:=by
   rw[<-Ao h];unfold isNone;split;rename_i L;rw[B.non L];simp;rename_i L;rw[Aw λz=>?_];rw[z] at B;unfold Rv at B;cases q':x.d with
   | non=>exact L q'|err _ _=>rw[q'] at B;obtain⟨_,_,z',_⟩:=iV B;cases z'|_=>rw[q'] at B;first|(obtain⟨a,xs,z',_⟩:=B;cases z')|exact B.elim|injection B
  rw[this];exact q;cases h
 | In=>simp only[cT] at h;unfold inD at h;split at h;rename_i ys G;by_cases M:noDics ys=true;rw[if_pos M] at h;obtain⟨b,xs,e2,p2,_,r2⟩:=Z.lst G;subst e2;cases ry;obtain⟨q0,v2,t2,_⟩:=I.list p2;obtain⟨e,he,hk⟩:=iW I (A:=X.A) (by omega) B rx r2 v2 M h;exact in_listAt e t2.isList he (by rw[hk];exact U);rw[if_neg M] at h;cases h;rename_i ys G;by_cases M:noDics ys=true;rw[if_pos M] at h;obtain⟨b,xs,e2,p2,r2⟩:=Z.tup G;subst e2;cases ry;obtain⟨q0,v2,t2,_⟩:=I.tuple p2;obtain⟨e,he,hk⟩:=iW I (A:=X.A) (by omega) B rx r2 v2 M h;exact in_tupleAt e (show s.heap.IsTuple b q0.toArray from t2) he (by rw[hk];exact U);rw[if_neg M] at h;cases h;rename_i a b L G;exact go aCT ⟨a,b,B.str L,Z.str G,by rw[show(!(CA b a 0 b.length 1).isEmpty)=k from Ao h];exact q⟩;cases h|NotIn=>simp only[cT,Bf] at h;obtain⟨k',h,ek⟩:=h;subst ek;unfold inD at h;split at h;rename_i ys G;by_cases M:noDics ys=true;rw[if_pos M] at h;obtain⟨b,xs,e2,p2,_,r2⟩:=Z.lst G;subst e2;cases ry;obtain⟨q0,v2,t2,_⟩:=I.list p2;obtain⟨e,he,hk⟩:=iW I (A:=X.A) (by omega) B rx r2 v2 M h;exact notIn_listAt e t2.isList he (by rw[hk];exact U);rw[if_neg M] at h;cases h;rename_i ys G;by_cases M:noDics ys=true;rw[if_pos M] at h;obtain⟨b,xs,e2,p2,r2⟩:=Z.tup G;subst e2;cases ry;obtain⟨q0,v2,t2,_⟩:=I.tuple p2;obtain⟨e,he,hk⟩:=iW I (A:=X.A) (by omega) B rx r2 v2 M h;exact notIn_tupleAt e (show s.heap.IsTuple b q0.toArray from t2) he (by rw[hk];exact U);rw[if_neg M] at h;cases h;rename_i a b L G;exact go uP ⟨a,b,B.str L,Z.str G,by rw[show(!(CA b a 0 b.length 1).isEmpty)=k' from Ao h];exact q⟩;cases h
end
end Hp
namespace Hp
open PySem PySem.Spec PyProof.Rows L2
section
variable {X:Cx} {RT Y J:Addr->Prop} {σ:Sg} {σV:L2.St} {H:Hp} {s:Ad} {pins:List (Addr×Obj)} {Q:VK} {ux uy:V} {vx vy:Value} {x y:Vl}
theorem mW(n:Nat)(k:Int):Hp.ixN n k=L2.ixN n k:=rfl
theorem Rv.ofSub(h:Rep X.K H (exV RT Y J σ σV x.pa x.al) d u):Ro X.K RT Y J σ σV H H (x.sub d) u:=by refine Ro.plain (aL.refl H) ?_ (Rv.sub (ds:=[]) (xs:=[]) (j:=0) h);unfold Vl.sub Vl.cl;split <;> rfl
theorem aDf(t:Tk X.K H)(M:Rv X.K RT Y J σ σV H x ux)(U:Rv X.K RT Y J σ σV H y uy)(h:RE (eA x y) (Wn X RT Y J σ σV H Q)):rIx X.K ux uy H (λv H'=>Tk X.K H'->Q v H'):=by
 unfold eA at h;split at h;rename_i ds k G I;obtain⟨a,xs,e,q,_,r⟩:=M.lst G;cases B:Hp.ixN ds.length k with
 | none=>rw[B] at h;exact h.elim|some j=>
  rw[B] at h;cases hd:ds[j]? with
  | none=>simp only[hd] at h;exact h.elim|some d=>simp only[hd] at h;obtain⟨v,L,rv⟩:=r.get hd;refine .inl ⟨a,xs,k,v,e,U.int I,q,?_,λt'=>h v H t' (Rv.ofSub rv)⟩;unfold atI;rw[<-r.length,<-mW,B];exact L
 rename_i ds k G I;obtain⟨a,xs,e,q,r⟩:=M.tup G;cases B:Hp.ixN ds.length k with
 | none=>rw[B] at h;exact h.elim|some j=>
  rw[B] at h;cases hd:ds[j]? with
  | none=>simp only[hd] at h;exact h.elim|some d=>simp only[hd] at h;obtain⟨v,L,rv⟩:=r.get hd;refine .inr (.inl ⟨a,xs,k,v,e,U.int I,q,?_,λt'=>h v H t' (Rv.ofSub rv)⟩);unfold atI;rw[<-r.length,<-mW,B];exact L
 rename_i z k G I;obtain⟨c,h⟩:=h.iff;have Z:=of_decide_eq_true c;cases B:Hp.ixN z.length k with
 | none=>rw[B] at h;exact h.elim|some j=>
  rw[B] at h;cases hd:z.cps.toList[j]? with
  | none=>simp only[hd] at h;exact h.elim|some c=>
   simp only[hd] at h;refine .inr (.inr ⟨z,k,c,M.str G,U.int I,eB Z,?_,λt'=>Wn.val h t' λ_=>rfl⟩);unfold atI;have hl:z.cps.toList.length=z.length:=by simp[IN]
   rw[hl,<-mW,B];exact hd
 exact h.elim
theorem vB(n d:Nat)(o:Option Int):Hp.sIx n d o=HT.sIx n d o:=by cases o <;> rfl
theorem xZ{K:Fg}{ex:Addr->Prop}{ds:List D}{xs:List V}(r:Reps K H ex ds xs)(lo hi:Option Int):Reps K H ex (cut ds lo hi) (xJ xs lo hi):=by unfold cut xJ;rw[vB,vB,r.length];exact(r.drop _).take _
theorem jO{prog:A2}{w:AL}{A:AT}{E:Value->Ad->Prop}{t sl:Addr}{items:Array Value}{M U:Value}{lo hi:Option Int}{Q:Value->Ad->Prop}(ht:IsTup s.heap t items)(hs:s.heap.IsSliceOf sl M U .none)(pl:Fy M lo)(pu:Fy U hi)
 (L:HT.sIx items.size 0 lo=0/\HT.sIx items.size items.size hi=items.size) (h:Q (.ref t) s):As (A5 prog w) A (Fz (.ref t) (.ref sl)) Q E s:=by
 obtain⟨os,I,G,Z⟩:=id hs;unfold Fz
 try with_reducible refine Br ?_
 first|refine Aa (Ae ?_)|skip
 refine Aa (GO ht.typeIs (by decide) ?_);refine Aa (AU ht.typeIs Bj
  (AZ Bj ht.typeIs Gh ?_ (Gw _ _)))
 show As _ _ (E5 (.ref t) >>= _) _ _ s;refine Aa (Jr ht ?_);refine Aa (DI (⟨os,I,G⟩) ?_);rw[if_pos (by decide)];refine Aa (HT.sliceApplied_gen hs pl pu ?_);have B:(((HT.sIx items.size 0 lo:Nat):Int)==0&&(1:Int)==1&&(HT.sIx items.size items.size hi-HT.sIx items.size 0 lo)==items.size)=true:=by rw[L.1,L.2];simp
 show As _ _ (if (((HT.sIx items.size 0 lo:Nat):Int)==0&&(1:Int)==1&&(HT.sIx items.size items.size hi-HT.sIx items.size 0 lo)==items.size)=true then _ else _) _ _ s;rw[if_pos B];unfold IV;refine Aa (Aa (DI ht.typeIs (Ae ?_)));rw[if_pos (beq_self_eq_true _)];exact Aa (D9 (Ae ⟨_,rfl,Ae h⟩))
noncomputable def yA(K:Fg):V->Option Int->Option Int->Hp->VK->Prop:=λx lo hi H Q=>∃a xs,x=.ref a/\SqT K H a xs/\(HT.sIx xs.length 0 lo=0/\HT.sIx xs.length xs.length hi=xs.length)/\Q (.ref a) H
theorem aHy:SlR X (yA X.K):=by
 intro pins s σ H x v vl vu lo hi sl Q I Z hs pl U h;obtain⟨a,xs,rfl,M,L,q⟩:=h;cases Z;obtain⟨G,r,ht,hz⟩:=I.tuple M;have B:G.toArray.size=xs.length:=by rw[Ah];exact r.length.symm
 exact⟨"tuple",_,Bj.lookup,ht.typeIs,(jO ht hs pl U (by rw[B];exact L) ⟨.ref a,H,I,rfl,q⟩)⟩
theorem aKm:SlR X (λx lo hi H Q=>aEt X.K x lo hi H Q\/aEs X.K x lo hi H Q\/yA X.K x lo hi H Q\/aEG x lo hi H Q):=aHo.or (aJU.or (aHy.or aKj))
theorem aDg{α:Type}{xs:List α}{lo hi:Option Int}(B:Hp.sIx xs.length 0 lo=0)(G:Hp.sIx xs.length xs.length hi=xs.length):cut xs lo hi=xs:=by unfold cut;rw[B,G,List.drop_zero,Hb,CD]
theorem aDh{lo hi:Option Int}(S:Sx X.K RT Y J σ σV H)(t:Tk X.K H)(G:Rv X.K RT Y J σ σV H x ux)(h:RE (iE x lo hi) (Wn X RT Y J σ σV H Q)) :
 aEt X.K ux lo hi H (λv H'=>Tk X.K H'->Q v H')\/aEs X.K ux lo hi H (λv H'=>Tk X.K H'->Q v H')\/yA X.K ux lo hi H (λv H'=>Tk X.K H'->Q v H')\/aEG ux lo hi H (λv H'=>Tk X.K H'->Q v H'):=by
 unfold iE at h;split at h;rename_i ds B;obtain⟨a,xs,e,q,_,r⟩:=G.lst B;exact .inl ⟨a,xs,e,q,λp L t'=>h _ _ t' (Ro.fresh L t' rfl rfl S (xZ (eW r) lo hi))⟩;rename_i ds B;obtain⟨a,xs,e,q,r⟩:=G.tup B;by_cases I:HT.sIx xs.length 0 lo=0/\HT.sIx xs.length xs.length hi=xs.length;refine .inr (.inr (.inl ⟨a,xs,e,q,I,λt'=>h _ _ t' (Ro.plain (aL.refl H) rfl ?_)⟩));unfold Rv;rw[(aDg (by rw[vB,r.length];exact I.1) (by rw[vB,r.length];exact I.2))];exact⟨a,xs,rfl,q,(eW r)⟩;exact .inr (.inl ⟨a,xs,e,q,I,λp L t'=>h _ _ t' (Ro.tup L rfl rfl (xZ (eW r) lo hi))⟩);rename_i a B;obtain⟨M,h⟩:=h.iff;have e:ux=.str a:=by unfold Rv at G;rw[B] at G;exact G
 exact .inr (.inr (.inr ⟨a,e,eB (of_decide_eq_true M),λt'=>h _ _ t' (Ro.cl (aL.refl H) rfl)⟩));exact h.elim
theorem lR:∀{ds:List D} {bs:List Bool} {xs:List V} {ex:Addr->Prop},cJ ds=some bs->Reps X.K H ex ds xs->xs=bs.map V.bl
 | [],bs,xs,ex,h,r=>by simp[cJ] at h;subst h;exact r|.bl a::ds,bs,xs,ex,h,r=>by
  obtain⟨x,L,z,B,G⟩:=r;rw[cJ] at h;cases q:cJ ds with
  | none=>rw[q] at h;cases h|some I=>rw[q] at h;cases h;rw[z,show x=.bl a from B,lR q G];rfl
 | .non::ds,ns,xs,ex,h,r=>by simp[cJ] at h|.int _::ds,ns,xs,ex,h,r=>by simp[cJ] at h|.str _::ds,ns,xs,ex,h,r=>by simp[cJ] at h|.tup _::ds,ns,xs,ex,h,r=>by simp[cJ] at h|.lst _::ds,ns,xs,ex,h,r=>by simp[cJ] at h|.err _ _::ds,ns,xs,ex,h,r=>by simp[cJ] at h
theorem aDi:∀{bs:List Bool} {us:List Value},aX (bs.map V.bl) us->us=bs.map D6:=by
 intro bs
 induction bs with
 | nil=>intro us r;rw[mN] at r;cases r;rfl|cons b bs B=>
  intro us r;rw[mC] at r;cases r with
  | cons G I=>rw[show _=D6 b from G,B I];rfl
theorem aAv(bs:List Bool):((Au bs.length).all λi=>(bs[i]?).getD true)=bs.all id:=by rw[El];simp only[AB,AV,id];constructor;intro h b B;obtain⟨i,hi⟩:=BX B;have:=h i (Ai.mp hi).1;rw[hi] at this;simpa using this;intro h i hi;rw[(Ac hi)];exact h _ (AM hi)
theorem aDj(U:X.calm=true):fV X (.builtin "all") (λxs H Q=>∃(p:Addr) (bs:List Bool),xs=[.ref p]/\SqL X.K H p (bs.map V.bl)/\Q (.bl (bs.all id)) H):=by
 intro pins s σ H xs us Q I r h;obtain⟨p,bs,rfl,hq,q⟩:=h;obtain⟨u,rfl,rx⟩:=xE r;cases rx;obtain⟨q0,rv,pl,hz⟩:=I.list hq;have L:=aDi rv;subst L;refine call_all_walk (CY pl.isList ?_);refine⟨s.heap.objs.size,[s.heap.objs.size,p],[s.heap.objs.size],(bs.map D6).toArray.size,_,_,λi=>(bs[i]?).getD true,rfl,Kv (A:=X.A.in1) (I.ok.hd U) _ p (A4 pl.lt) _,
  ⟨⟨_,Al _ rfl,rfl,rfl⟩,pl.isList.push _⟩,λi v s' Q' E' hP M=>?_,λh' tk Z=>?_⟩
 have B:bs[i]?.map D6=some v:=by grind
 cases e:bs[i]? with
 | none=>rw[e] at B;cases B|some b=>rw[e] at B;cases B;simp only[e] at M;exact BH M
 have e:((Au (bs.map D6).toArray.size).all λi=>(bs[i]?).getD true)=bs.all id:=by rw[Ah,lM];exact aAv bs
 rw[e];refine⟨.bl _,H,I.kept λb o G=>Z b o ?_ (Ab _ G),rfl,q⟩;intro hm;rw[A8.mp hm] at G;exact AX _ (Aq G)
noncomputable def rBi(X:Cx)(b:Bi):List V->Hp->VK->Prop:=match b with|.len=>λxs H Q=>(∃p ys,xs=[.ref p]/\(SqL X.K H p ys\/SqT X.K H p ys)/\Q (.int ys.length) H)\/∃z,xs=[.str z]/\z.length<=sizeLine/\Q (.int z.length) H|.list=>λxs H Q=>∃p ys,xs=[.ref p]/\(SqL X.K H p ys\/SqT X.K H p ys)/\∀l,H l=none->Q (.ref l) (upd H l (.lst ys))|.tuple=>λxs H Q=>∃p ys,xs=[.ref p]/\((SqL X.K H p ys/\∀l,H l=none->Q (.ref l) (upd H l (.tup ys)))\/(SqT X.K H p ys/\Q (.ref p) H))|.max=>λxs H Q=>∃i j,xs=[.int i,.int j]/\Q (.int (if j>i then j else i)) H|.all=>λxs H Q=>∃(p:Addr) (bs:List Bool),xs=[.ref p]/\SqL X.K H p (bs.map V.bl)/\Q (.bl (bs.all id)) H|_=>λ_ _ _=>False
noncomputable def aIZ:Bi->Value
 | .len=>.builtin "len" | .list=>.type "list" | .tuple=>.type "tuple" | .min=>.builtin "min" | .max=>.builtin "max" | .abs=>.builtin "abs" | .int=>.type "int" | .str=>.type "str"
 | .all=>.builtin "all" | .any=>.builtin "any" | .sum=>.builtin "sum" | .sorted=>.builtin "sorted" | .bool=>.type "bool" | .repr=>.builtin "repr"
theorem aHz(B:X.calm=true)(I:X.A.guards=some [])(L:X.A.units+200<cLine)(b:Bi)(G:aEA b=true):fV X (aIZ b) (rBi X b):=by
 cases b with
 | len=>exact uQ.or uR|list=>exact uS|tuple=>exact rX|max=>exact aCU B|all=>exact aDj B|_=>cases G
theorem aEJ(I:aEA b=true)(S:Sx X.K RT Y J σ σV H)(hv:Rvs X.K RT Y J σ σV H vs us)(h:RE (biD b vs) (Wn X RT Y J σ σV H Q)) :
 rBi X b us H (λv H'=>Tk X.K H'->Q v H'):=by
 unfold biD at h;split at h;rename_i x;obtain⟨u,r,e,G,U⟩:=hv;rw[show r=[] from U] at e;subst e;cases b with
 | len=>dsimp only[aEy] at h;split at h;rename_i ds B;obtain⟨a,xs,e,q,_,r⟩:=G.lst B;exact .inl ⟨a,xs,by rw[e],.inl q,λt'=>by rw[<-r.length];exact Wn.val h t' λ_=>rfl⟩;rename_i ds B;obtain⟨a,xs,e,q,r⟩:=G.tup B;exact .inl ⟨a,xs,by rw[e],.inr q,λt'=>by rw[<-r.length];exact Wn.val h t' λ_=>rfl⟩;rename_i z B;obtain⟨c,h⟩:=h.iff;exact .inr ⟨z,by rw[G.str B],eB (of_decide_eq_true c),λt'=>Wn.val h t' λ_=>rfl⟩;exact h.elim|list=>dsimp only[aEy] at h;split at h;rename_i ds B;obtain⟨a,xs,e,q,_,r⟩:=G.lst B;exact⟨a,xs,by rw[e],.inl q,λp L t'=>h _ _ t' (Ro.fresh L t' rfl rfl S (eW r))⟩;rename_i ds B;obtain⟨a,xs,e,q,r⟩:=G.tup B;exact⟨a,xs,by rw[e],.inr q,λp L t'=>h _ _ t' (Ro.fresh L t' rfl rfl S (eW r))⟩;exact h.elim|tuple=>dsimp only[aEy] at h;split at h;rename_i ds B;obtain⟨a,xs,e,q,_,r⟩:=G.lst B;exact⟨a,xs,by rw[e],.inl ⟨q,λp L t'=>h _ _ t' (Ro.tup L rfl rfl (eW r))⟩⟩;rename_i ds B;obtain⟨a,xs,e,q,r⟩:=G.tup B;exact⟨a,xs,by rw[e],.inr ⟨q,λt'=>h _ _ t' (Ro.plain (aL.refl H) rfl ⟨a,xs,rfl,q,r⟩)⟩⟩;exact h.elim|abs=>cases I|int=>cases I|str=>cases I|all=>dsimp only[aEy] at h;split at h;rename_i ds B;obtain⟨a,xs,e,q,_,r⟩:=G.lst B;split at h;rename_i bs M;rw[lR M r] at q;exact⟨a,bs,by rw[e],q,λt'=>Wn.val h t' λ_=>rfl⟩;exact h.elim;exact h.elim|repr=>cases I|bool=>cases I|sum=>cases I|any=>cases I|sorted=>cases I|min=>exact h.elim|max=>exact h.elim
 rename_i x y;obtain⟨u,r,e,G,u',r',Z,hy,U⟩:=hv;rw[show r'=[] from U] at Z;subst Z e;cases b with
 | min=>cases I|max=>dsimp only[aMX] at h;split at h;rename_i i j B d2;exact⟨i,j,by rw[G.int B,hy.int d2],λt'=>Wn.val h t' λ_=>rfl⟩;exact h.elim|_=>exact h.elim
 exact h.elim
noncomputable def fX:Cl->Option Value
 | .tInt=>some (.type "int")|.tBool=>some (.type "bool")|.tStr=>some (.type "str")|.tList=>some (.type "list")|.tTuple=>some (.type "tuple")|.tDict=>some (.type "dict")
 | _=>none
noncomputable def tyD:D->Option String
 | .non=>some "NoneType" | .bl _=>some "bool" | .int _=>some "int" | .str _=>some "str" | .tup _=>some "tuple" | .lst _=>some "list" | .err _ _=>none
theorem fH(K:Fg)(P:Pg){c:Cl}{I:Value}{d:D}{k:Bool}{T:String}(B:fX c=some I)(G:tyD d=some T)(h:isI [c] P d=some k):PySem.W.kitOne K (.type T) I=some k:=by
 cases c with
 | own c=>cases B|tValueError=>cases B|tInt=>cases B;cases d <;> cases G <;> simp[isI] at h <;> subst h <;> kernel_rfl|tBool=>cases B;cases d <;> cases G <;> simp[isI] at h <;> subst h <;> kernel_rfl|tStr=>cases B;cases d <;> cases G <;> simp[isI] at h <;> subst h <;> kernel_rfl|tList=>cases B;cases d <;> cases G <;> simp[isI] at h <;> subst h <;> kernel_rfl|tTuple=>cases B;cases d <;> cases G <;> simp[isI] at h <;> subst h <;> kernel_rfl|tDict=>cases B;cases d <;> cases G <;> simp[isI] at h <;> subst h <;> kernel_rfl
theorem aDk(P:Pg)(I:L2.Inv X pins σV H s)(G:bB ux vx)(M:Rv X.K RT Y J σ σV H x ux)(L:fX c=some cv)(h:isI [c] P x.d=some k)(q:Q (.bl k) H) :
 As (A5 X.prog X.w) X.A (Gy (.builtin "isinstance") [vx,cv]) (EP X pins σV Q) X.xe s:=by
 have B:∀tk,EP X pins σV Q (.bool k) { s with toks:=tk }:=λtk=>⟨.bl k,H,I.tok tk,rfl,q⟩
 cases d:x.d with
 | non=>rw[M.non d] at G;cases G;exact CO Hd I.kIn C7 (fH X.K P L (by rw[d];rfl) h) (λz=>nomatch z) B|bl b=>rw[M.bl d] at G;cases G;exact CO He I.kIn C7 (fH X.K P L (by rw[d];rfl) h) (λz=>nomatch z) B|int i=>rw[M.int d] at G;obtain⟨t,rfl⟩:=G;exact CO HL I.kIn C7 (fH X.K P L (by rw[d];rfl) h) (λz=>nomatch z) B|str z=>rw[M.str d] at G;obtain⟨t,rfl⟩:=G;exact CO HM I.kIn C7 (fH X.K P L (by rw[d];rfl) h) (λz=>nomatch z) B|tup ds=>obtain⟨a,xs,U,p,_⟩:=M.tup d;subst U;cases G;obtain⟨q0,_,t,_⟩:=I.tuple p;obtain⟨o,Z,h2,_⟩:=t;exact CO G0 I.kIn ⟨o,Z,h2⟩ (fH X.K P L (by rw[d];rfl) h) (λz=>nomatch z) B|lst ds=>obtain⟨a,xs,U,p,_⟩:=M.lst d;subst U;cases G;obtain⟨q0,_,t,_⟩:=I.list p;obtain⟨o,n,Z,h2,_⟩:=t;exact CO Hf I.kIn ⟨o,Z,h2⟩ (fH X.K P L (by rw[d];rfl) h) (λz=>nomatch z) B|err _ _=>rw[d] at h;cases h
theorem iX(K:Fg)(P:Pg){c I:Cl}{M B:Value}{d:D}{k:Bool}{T:String}(U:fX c=some M)(G:fX I=some B)(L:tyD d=some T)(h:isI [c,I] P d=some k):FQ K (.type T) [M,B]=some k:=by
 have e:∃a b,isI [c] P d=some a/\isI [I] P d=some b/\k=(a||b):=by cases d <;> cases L <;> refine⟨_,_,rfl,rfl,?_⟩ <;> cases h <;> cases c <;> cases U <;> cases I <;> cases G <;> rfl
 obtain⟨a,b,Z,h2,rfl⟩:=e;unfold FQ;rw[(fH K P U L Z)];cases a with
 | true=>rfl|false=>unfold FQ;rw[(fH K P G L h2)];cases b <;> rfl
theorem aHA(P:Pg)(I:L2.Inv X pins σV H s)(L:bB ux vx)(U:Rv X.K RT Y J σ σV H x ux)(M:fX c=some cv)(G:fX c'=some cv')(ht:s.heap.get? tp=some ⟨.type "tuple",oc,.seq #[cv,cv'] nn,osl⟩)(h:isI [c,c'] P x.d=some k)(q:Q (.bl k) H) :
 As (A5 X.prog X.w) X.A (Gy (.builtin "isinstance") [vx,.ref tp]) (EP X pins σV Q) X.xe s:=by
 have B:∀tk,EP X pins σV Q (.bool k) { s with toks:=tk }:=λtk=>⟨.bl k,H,I.tok tk,rfl,q⟩
 cases d:x.d with
 | non=>rw[U.non d] at L;cases L;exact CP Hd I.kIn C7 ht (iX X.K P M G (by rw[d];rfl) h) (λz=>nomatch z) B|bl b=>rw[U.bl d] at L;cases L;exact CP He I.kIn C7 ht (iX X.K P M G (by rw[d];rfl) h) (λz=>nomatch z) B|int i=>rw[U.int d] at L;obtain⟨t,rfl⟩:=L;exact CP HL I.kIn C7 ht (iX X.K P M G (by rw[d];rfl) h) (λz=>nomatch z) B|str z=>rw[U.str d] at L;obtain⟨t,rfl⟩:=L;exact CP HM I.kIn C7 ht (iX X.K P M G (by rw[d];rfl) h) (λz=>nomatch z) B|tup ds=>obtain⟨a,xs,Z,p,_⟩:=U.tup d;subst Z;cases L;obtain⟨q0,_,t,_⟩:=I.tuple p;obtain⟨o,h1,h2,_⟩:=t;exact CP G0 I.kIn ⟨o,h1,h2⟩ ht (iX X.K P M G (by rw[d];rfl) h) (λz=>nomatch z) B|lst ds=>obtain⟨a,xs,Z,p,_⟩:=U.lst d;subst Z;cases L;obtain⟨q0,_,t,_⟩:=I.list p;obtain⟨o,n,h1,h2,_⟩:=t;exact CP Hf I.kIn ⟨o,h1,h2⟩ ht (iX X.K P M G (by rw[d];rfl) h) (λz=>nomatch z) B|err _ _=>rw[d] at h;cases h
end
end Hp
namespace L2
open PySem PySem.Spec PyProof.Rows
noncomputable def jP(cells:List (Str×Addr)):List (Str×Ci)->List (Str×Addr)->List (Str×Addr)
 | [],acc=>acc|(n,k)::r,acc=>if k==.free then jP cells r ((n,(cells.lookup n).getD 0)::acc) else jP cells r acc
theorem clos_mem{cells:List (Str×Addr)}:∀{names:List (Str×Ci)} {B:List (Str×Addr)} {p:Str×Addr},p∈jP cells names B->p∈B\/((p.1,Bh)∈names/\p.2=(cells.lookup p.1).getD 0)
 | [],_,_,h=>.inl h|(n,k)::r,B,p,h=>by unfold jP at h;by_cases G:(k==Bh)=true;rw[if_pos G] at h;rcases clos_mem h with q|q;grind;exact .inr ⟨Ag _ q.1,q.2⟩;rw[if_neg G] at h;rcases clos_mem h with q|q;exact .inl q;exact .inr ⟨Ag _ q.1,q.2⟩
theorem pL{cells:List (Str×Addr)}:∀{names:List (Str×Ci)} {B:List (Str×Addr)} {p:Str×Addr},p∈B->p∈jP cells names B
 | [],_,_,h=>h|(n,k)::r,B,p,h=>by unfold jP;by_cases G:(k==Bh)=true;rw[if_pos G];exact pL (Ag _ h);rw[if_neg G];exact pL h
theorem lT{cells:List (Str×Addr)}:∀{names:List (Str×Ci)} {B:List (Str×Addr)} {n:Str},(n,Bh)∈names->(n,(cells.lookup n).getD 0)∈jP cells names B
 | [],_,_,h=>by simp at h|(m,k)::r,B,n,h=>by unfold jP;rcases Ax.mp h with q|q;cases q;rw[if_pos (by rfl:(Bh==Bh)=true)];exact pL Am;by_cases G:(k==Bh)=true;rw[if_pos G];exact lT q;rw[if_neg G];exact lT q
theorem eQ{α:Type}:∀{l:List (Str×α)} {x:Str} {a:α},(x,a)∈l->∃b,l.lookup x=some b
 | (y,b)::r,x,a,h=>by
  rw[Ff];cases B:x==y with
  | true=>exact⟨b,rfl⟩|false=>rcases Ax.mp h with q|q;grind;exact eQ q
theorem cM{cells:List (Str×Addr)}(G:∀n,(n,Bh)∈names->∃c,cells.lookup n=some c)(h:(jP cells names []).lookup x=some c):cells.lookup x=some c:=by
 rcases clos_mem (B6 h) with q|⟨I,B⟩
 simp at q;obtain⟨L,e⟩:=G x I;simp only at B;rw[e] at B;rw[e,B];rfl
theorem hX{scope:De}{env:JA}(Z:∀n,(n,Bh)∈scope.names->∃c,env.cells.lookup n=some c):closureFor scope env=pure (jP env.cells scope.names []):=by
 have go:∀(l:List (Str×Ci)) (B:List (Str×Addr)),(∀n,(n,Bh)∈l->∃c,env.cells.lookup n=some c) ->
  (forIn l B (λ(x:Str×Ci) (r:List (Str×Addr))=>(match x with|(name,kind)=>if (kind==Bh)=true then do let __do_lift<-cellOf env name;pure (CQ ((name,__do_lift)::r)) else pure (CQ r):Kr (ForInStep (List (Str×Addr))))))=(pure (jP env.cells l B):Kr (List (Str×Addr))):=by
  intro l
  induction l with
  | nil=>intro B _;rfl|cons p r M=>
   intro B G;obtain⟨n,k⟩:=p;rw[FB];unfold jP;by_cases L:(k==Bh)=true;have:=eq_of_beq L;subst this;obtain⟨c,e⟩:=G n Am;have U:cellOf env n=pure c:=by unfold cellOf;rw[e]
   simp only[beq_self_eq_true,if_true,U];rw[e];exact M _ λm I=>G m (Ag _ I);simp only[L,if_false];exact M _ λm I=>G m (Ag _ I)
 unfold closureFor;exact(bind_pure _).trans (go scope.names [] Z)
section
variable {prog:A2} {w:AL} {A:AT} {R:Fu->Ad->Prop} {s:Ad}
theorem iH(I:Nat->Ad->Prop)
 (q6:∀n s,I n s->As (A5 prog w) A (Dp it) (λr B=>match r with
  | none=>R (.ok .next) B|some v=>As (A5 prog w) A (Eg target it v) (λ_ G=>As (A5 prog w) A (IF target env v) (λ_ Z=>
   As (A5 prog w) A (forIn ifs true λc r=>if r=true then do let ok<-isTrue c env (Ch c env);pure (CQ ok) else pure (CQ r)) (λok L=>
    if ok=true then As (A5 prog w) A (Ch elt env) (λx q0=>
     As (A5 prog w) A (call (.builtin "list.append") [acc,x]) (λ_ q1=>∃m,m<n/\I m q1) (λ_ _=>False) q0) (λ_ _=>False) L
    else ∃m,m<n/\I m L) (λ_ _=>False) Z) (λ_ _=>False) G) (λ_ _=>False) B) (λ_ _=>False) s)
 (n:Nat) (h:I n s) :
 D4 (A5 prog w) A (.compLoop (.ListComp elt [⟨target,iter,ifs,0⟩] scope pos) 0 it acc env) R s:=by
 refine codeAny_loop rfl I (λn s hI=>?_) n h;refine wpAny_noted ?_;rw[compTurn_list];refine Aa (Gm (Aa (CJ (q6 n s hI) (λr B M=>?_) λ_ _ h'=>h'.elim)));cases r with
 | none=>exact Ae M|some v=>
  refine Aa (CJ M (λ_ G q2=>?_) λ_ _ h'=>h'.elim);refine Aa (CJ q2 (λ_ Z q3=>Aa (CJ q3 (λok L U=>?_) λ_ _ h'=>h'.elim)) λ_ _ h'=>h'.elim);cases ok with
  | false=>exact Ae ⟨rfl,U⟩|true=>exact Aa (Aa (CJ U (λx q0 q4=>Aa (CJ q4 (λ_ q1 q5=>Ae (Ae ⟨rfl,q5⟩)) λ_ _ h'=>h'.elim)) λ_ _ h'=>h'.elim))
end
noncomputable def dB(X:Cx)(scope:De)(N':List Str)(C:Addr)(s₀:Ad)(H₀:Hp)(ex:List Addr):Cx:=
 { X with env:=Kb scope (jP X.env.cells scope.names []) C X.env,N:=N',s₀:=s₀,H₀:=H₀,outer:=X.stack,ex:=ex,fn:=λ_=>false,pn:=[],xe:=λ_ _=>False }
noncomputable def PTs(X:Cx)(ifs:List A6)(t:TT):Prop:=
 ∀(pins:List (Addr×Obj)) (s:Ad) (σ:St) (H:Hp) (Q:Bool->Hp->Prop),Inv X pins σ H s->t σ H Q ->
  As (A5 X.prog X.w) X.A (forIn ifs true λc r=>if r=true then do let ok<-isTrue c X.env (Ch c X.env);pure (CQ ok) else pure (CQ r)) (TP X pins σ Q) X.xe s
theorem aHB:PTs X [] (λ_ H Q=>Q true H):=λpins s σ H Q I h=>Ae ⟨H,I,h⟩
theorem aHC(h:PT X c t):PTs X [c] t:=λpins s σ H Q I B=>wpAny_tests_one (h pins s σ H Q I B)
structure cS (X:Cx) (scope:De) (k:Nat) (caps:List Nat) (N':List Str):Prop where
 kind:scope.kind=.function
 nocell:∀y∈scope.names,y.2≠.cell
 loc:∀y∈scope.names,y.2=.local->scope.names.lookup y.1=some .local
 free:∀n,(n,Bh)∈scope.names->X.env.kindOf n=some .cell\/X.env.kindOf n=some .free
 len:N'.length=k+caps.length
 cap:∀j i,caps[j]? = some i->∃x,N'[k+j]? = some x/\X.N[i]? = some x/\scope.names.lookup x=some .free/\X.env.kindOf x=some .cell
 ndp:X.N.Nodup
noncomputable def kI(k:Nat)(caps:List Nat)(σ:St):St:=Aj k none++caps.map λi=>(σ[i]?).getD none
noncomputable def aEK(k:Nat)(caps:List Nat)(wi:TI)(g:TG)(tt:TT)(te:TE):TE:=λσ H Q=>wi σ H λJ'' H1=>
 ∃W:Nat->Nat->List V->St->Hp->Prop,(∃m,W 0 m [] (kI k caps σ) H1)/\∀i m ys σ1 H,W i m ys σ1 H ->
  (J''.stop i H/\ys.length<=sizeLine/\∀p,H p=none->Q (.ref p) (upd H p (.lst ys))) \/
  (J''.go i H/\ys.length<sizeLine/\∀x H',J''.yld i H x H'->g x σ1 H' λσ2 H2=>tt σ2 H2 λb H3=>
   if b=true then te σ2 H3 λy H4=>∃m',m'<m/\W (i+1) m' (ys++[y]) σ2 H4 else ∃m',m'<m/\W (i+1) m' ys σ2 H3)
theorem HOk.track(ok:HOk P w H h)(n:H a=none)(new:eJ P w (upd H a o) h a o):HOk P w (upd H a o) h:=λb u e=>by by_cases B:b=a;subst B;rw[aP] at e;cases e;exact new;rw[aJ B] at e;exact(ok b u e).stay (λ_ _ _ q=>q) (λc q=>by rw[aJ (aU q n)];exact q) λc xs q=>by rw[aJ (aU q n)];exact q
abbrev eC(its:List Value)(n:Nat):Obj:={ cls:=.type "list",data:=.seq its.toArray n }
section
variable {X:Cx} {scope:De} {k:Nat} {caps:List Nat} {N':List Str} {pins:List (Addr×Obj)} {σ:St} {H:Hp} {s:Ad} {fp:List Addr}
theorem Inv.cellLt(I:Inv X pins σ H s)(e:X.env.cells.lookup x=some c):c<s.heap.objs.size:=by obtain⟨v,q⟩:=I.cell x c e;exact q.lt
theorem fI:∀{l:List (Str×Ci)} {x:Str} {k:Ci},l.lookup x=some k->(x,k)∈l:=λh=>B6 h
theorem relabel_lookup{env:JA}:∀{names:List (Str×Ci)} {x:Str} {k:Ci},
 (names.map λ(n,k)=>if (k==Bh&&env.scope.kind==.function&&env.kindOf n==some .cell) then (n,NameKind.cell) else (n,k)).lookup x=some k ->
 (k=.cell/\names.lookup x=some .free/\env.kindOf x=some .cell)\/names.lookup x=some k
 | [],_,_,h=>by simp at h|(n,k')::r,x,k,h=>by
  have I:=@relabel_lookup env r x k;rw[mC] at h;by_cases B:(k'==Bh&&env.scope.kind==.function&&env.kindOf n==some .cell)=true;simp only[B,if_true,Ff] at h ⊢;cases G:x==n with
  | true=>rw[G] at h;simp only at h ⊢;simp only[bA] at B;have L:k'=.free:=eq_of_beq B.1.1;have M:env.kindOf n=some .cell:=eq_of_beq B.2;have U:x=n:=eq_of_beq G;subst U;cases h;exact .inl ⟨rfl,by rw[L],M⟩|false=>rw[G] at h;exact I h
  simp only[Bool.not_eq_true] at B;simp only[B,if_false,Ff,bF] at h ⊢;cases G:x==n with
  | true=>rw[G] at h;exact .inr h|false=>rw[G] at h;exact I h
theorem aPW(G:cS X scope k caps N')(I:Inv X pins σ H s)(f:∀b∈fp,lG X pins H b)(hf:∀b∈fp,b<s.heap.objs.size) :
 (dB X scope N' (s.heap.objs.size+1) { s with heap:=s.heap.push (eC [] 0) } H (s.heap.objs.size::fp)).Ok:=by
 have L:∀b∈frs X.stack,∃o,s.heap.get? b=some o:=λb B=>by obtain⟨_,o,ho,_⟩:=I.stack.mem B;exact⟨o,ho⟩
 refine⟨I.ok.mod,?_,I.ok.glob,I.ok.blt,?_,λx y c Z h2=>?_,λx hx=>?_,λx c h _=>?_,I.ok.hd,I.ok.frames,.inl rfl,λb B=>?_,λb o e=>?_,?_,λb o e B=>?_,λb B=>?_,?_,I.stkFree⟩;exact G.kind;show(s.heap.push (eC [] 0)).objs.size<=s.heap.objs.size+1;rw[Bl];exact An _;exact I.ok.inj x y c (cM (λn M=>I.ok.has n (G.free n M)) Z) (cM (λn M=>I.ok.has n (G.free n M)) h2);have fr:(x,Bh)∈scope.names:=by rcases hx with q|q;rcases relabel_lookup q with⟨_,z,_⟩|z;exact fI z;exact absurd rfl (G.nocell _ (fI z));rcases relabel_lookup q with⟨z,_⟩|z;cases z;exact fI z
 obtain⟨c,e⟩:=eQ (lT fr);exact⟨c,e⟩;cases(h);refine⟨?_,λx c e=>?_⟩;show b≠s.heap.objs.size+1;rcases Ax.mp B with z|z;rw[z];grind;exact A4 (Bz (hf b z));have U:=cM (λn M=>I.ok.has n (G.free n M)) e;rcases Ax.mp B with z|z;rw[z];exact A4 (I.cellLt U);exact(f b z).2.2.2.2.1 x c U;exact⟨(λb o e=>Ab _ e) b o (I.bs b o e).1,(I.bs b o e).2⟩;show X.base.objs.size<=(s.heap.push (eC [] 0)).objs.size;rw[Bl];exact DO (AW I.ok.bsz I.sz);have lt:=Aq e;rcases Ax.mp B with z|z;subst z;exact absurd (AC lt (AW I.ok.bsz I.sz)) (AX _);rcases(f b z).2.2.2.1 with q|q;exact I.ok.noex b o e q;exact absurd (AC lt (AW I.ok.bsz q)) (AX _);show b∉frs X.stack;intro hs;rcases Ax.mp B with z|z;subst z;obtain⟨o,e⟩:=L _ hs;exact absurd (Aq e) (AX _);rcases Ax.mp (I.stkSub b hs) with q|q;exact(f b z).2.1 q;exact(f b z).2.2.1 q;exact I.stack.of_keeps λb o e _=>⟨o,(λb o e=>Ab _ e) b o e,rfl⟩
theorem aEL(I:cS X scope k caps N')(h:(kI k caps σ)[j]? = some (some v)):∃G i,j=k+G/\caps[G]? = some i/\σ[i]? = some (some v):=by
 unfold kI at h;by_cases B:j<k;rw[A0 (by simpa using B),BF] at h;split at h <;> cases h;rw[A3 (by simpa using B),AQ,Ar] at h;cases e:caps[j-k]? with
 | none=>rw[e] at h;cases h|some i=>
  rw[e] at h;have h':(σ[i]?).getD none=some v:=Ao h;refine⟨j-k,i,by omega,e,?_⟩;cases q:σ[i]? with
  | none=>rw[q] at h';cases h'|some z=>rw[q] at h';exact congrArg some h'
theorem aNf(L:cS X scope k caps N')(I:Inv X pins σ H s)(f:∀b∈fp,lG X pins H b)(hf:∀b∈fp,b<s.heap.objs.size){B:Heap}{tk:Nat}
 (q1:B.Ns (s.heap.objs.size+1) λ_=>none) (hk:∀b o,(s.heap.push (eC [] 0)).get? b=some o->B.get? b=some o) :
 Inv (dB X scope N' (s.heap.objs.size+1) { s with heap:=s.heap.push (eC [] 0) } H (s.heap.objs.size::fp)) [] (kI k caps σ) H { s with heap:=B,toks:=tk }:=by
 have G:∀{c:Addr} {v:Option Value},s.heap.IsCell c v->B.IsCell c v:=λ{c v} ⟨o,e,d⟩=>⟨o,(λb o e=>hk b o (Ab _ e)) _ _ e,d⟩
 refine⟨aPW L I f hf,rfl,I.bare,Un.kept hk,⟨_,q1,λj x v e1 e2 e3=>?_⟩,λx c e=>?_,?_,λx c e=>?_,λp hp=>absurd (show p∈([]:List (Addr×Obj)) from hp) (by simp),I.hok.kept (λb o e=>hk b o (Ab _ e)),?_⟩;obtain⟨j',i,ej,ec,es⟩:=aEL L e2;obtain⟨y,h1,h2,h3,h4⟩:=L.cap j' i ec;have U:N'[j]? = some x:=e1;rw[ej,h1] at U;have ey:=Ao U;subst ey;obtain⟨m,M,hl⟩:=I.loc;obtain⟨u,ru,lk⟩:=hl i y v h2 es (.inr (.inl h4));rcases lk with⟨k1,_⟩|⟨_,c,q0,hc⟩
 rw[h4] at k1;cases k1;refine⟨u,ru,.inr ⟨?_,c,?_,G hc⟩⟩;have Z:=e3;rcases Z with z|z|z;rcases relabel_lookup z with⟨z,_⟩|z;cases z;rw[h3] at z;cases z;exact .inl z;exact .inr z;obtain⟨c',e⟩:=eQ (lT (fI h3));have e':=cM (λn M=>I.ok.has n (L.free n M)) e;rw[q0] at e';cases e';exact e;obtain⟨v,q⟩:=I.cell x c (cM (λn M=>I.ok.has n (L.free n M)) e);exact⟨v,G q⟩;exact I.hok.fresh (Ec _);exact I.freeC x c (cM (λn M=>I.ok.has n (L.free n M)) e);show(kI k caps σ).length=N'.length;unfold kI;rw[lA,AQ,lM,L.len]
theorem yB{tg q1 elt:A6}{q9:List A6}{pos:Du}{g:TG}{tt:TT}{te:TE}{it:Addr}{tn:Nat->Heap->Prop}{J'':It}{RR:Value->Addr->Fu->Ad->Prop}{E:Value->Ad->Prop}{Q:VK}
 (CS:cS X scope k caps N') (hc:X.calm=true) (I:Inv X pins σ H s) (T:xC X.prog X.w X.K tg J'' fp it tn) (st:tn 0 s.heap) (f:∀b∈fp,lG X pins H b)
 (x6:∀C s₀ H₀ ex,PG (dB X scope N' C s₀ H₀ ex) tg g/\PTs (dB X scope N' C s₀ H₀ ex) q9 tt/\PE (dB X scope N' C s₀ H₀ ex) elt te)
 (hw:∃W:Nat->Nat->List V->St->Hp->Prop,(∃m,W 0 m [] (kI k caps σ) H)/\∀i m Z L H,W i m Z L H ->
  (J''.stop i H/\Z.length<=sizeLine/\∀p,H p=none->Q (.ref p) (upd H p (.lst Z))) \/
  (J''.go i H/\Z.length<sizeLine/\∀x H',J''.yld i H x H'->g x L H' λw5 H2=>tt w5 H2 λb H3=>
   if b=true then te w5 H3 λy H4=>∃m',m'<m/\W (i+1) m' (Z++[y]) w5 H4 else ∃m',m'<m/\W (i+1) m' Z w5 H3))
 (hR:∀D C s' H' m,Inv X pins σ H' s'->s'.heap.Ns C m->s.heap.objs.size<C->(∀(σ':St) (q3:Ad) (h':Heap),Inv X pins σ' H' q3->BR C q3.heap h'->Inv X pins σ' H' { q3 with heap:=h' })->Q (.ref D) H'->RR (.ref D) C (.ok .next) s') :
 As (A5 X.prog X.w) X.A (newList []) (λz3 z8=>As (A5 X.prog X.w) X.A (newFunctionEnv scope X.env.globals (jP X.env.cells scope.names []) [] X.env.qual none .none (some X.env)) (λw9 z9=>
  D4 (A5 X.prog X.w) X.A (.compStart (.ListComp elt [⟨tg,q1,q9,0⟩] scope pos) 0 (.ref it) z3 { w9 with scope:=JD scope X.env }) (RR z3 w9.locals) z9) E z8) E s:=by
 obtain⟨W,⟨m0,w0⟩,x0⟩:=hw;have hf:∀b∈fp,b<s.heap.objs.size:=λb G=>by obtain⟨o,e,_⟩:=T.obj 0 _ st b G;exact Aq e
 refine Bm (wpAny_newFunctionEnv CS.nocell (by intro y hy;simp at hy) (λM q4 q5=>?_) CS.kind);have q0:(s.heap.push (eC [] 0)).objs.size=s.heap.objs.size+1:=Bl _ _;have x8:M.Ns (s.heap.objs.size+1) λ_=>none:=by have:=q4;rw[show({ s with heap:=s.heap.push (eC [] 0) }:Ad).heap.objs.size=s.heap.objs.size+1 from q0] at this;exact this
 have hk:∀b o,(s.heap.push (eC [] 0)).get? b=some o->M.get? b=some o:=λb o e=>q5.extBut b o (A4 (by have:=Aq e;rw[q0] at this;show b<(s.heap.push (eC [] 0)).objs.size;rw[q0];exact this)) (Ab _ e);have z7:∀b∈frs X.stack,b<s.heap.objs.size:=λb G=>by obtain⟨_,o,ho,_⟩:=I.stack.mem G;exact Aq ho
 have z0:∀(pl:List (Addr×Obj)),(∀p∈pl,p.1=s.heap.objs.size)->∀{H':Hp},(∀b∈fp,H' b=none)->∀b∈fp,lG (dB X scope N' (s.heap.objs.size+1) { s with heap:=s.heap.push (eC [] 0) } H (s.heap.objs.size::fp)) pl H' b:=by
  intro pl v0 H' hn b G;refine⟨hn b G,(λ{b} G=>A4 (Bz G)) (hf b G),λz=>?_,.inl (Ag _ G),λx c e=>(f b G).2.2.2.2.1 x c (cM (λn hn=>I.ok.has n (CS.free n hn)) e),λp hp z=>?_⟩;rcases Ax.mp (I.stkSub b z) with q|q;exact(f b G).2.1 q;exact(f b G).2.2.1 q;have x9:p∈pl:=by simpa[dB] using hp
  rw[v0 p x9] at z;exact absurd (hf b G) (by rw[<-z];exact AX _)
 have q2:∀{σ':St} {H':Hp} {s':Ad} {B:List Value} {n:Nat} {pl:List (Addr×Obj)},Inv (dB X scope N' (s.heap.objs.size+1) { s with heap:=s.heap.push (eC [] 0) } H (s.heap.objs.size::fp)) pl σ' H' s' ->
  s'.heap.get? s.heap.objs.size=some (eC B n)->H' s.heap.objs.size=none->Inv (dB X scope N' (s.heap.objs.size+1) { s with heap:=s.heap.push (eC [] 0) } H (s.heap.objs.size::fp)) [(s.heap.objs.size,eC B n)] σ' H' s':=by
  intro σ' H' s' B n pl J'' e nn;refine J''.pins_of λp hp=>?_;have:p=(s.heap.objs.size,eC B n):=by simpa using hp
  subst this;refine⟨e,nn,A4 (B3 _),λz=>absurd (z7 _ z) (AX _),λv z=>by cases z⟩
 have start:D4 (A5 X.prog X.w) X.A (.compLoop (.ListComp elt [⟨tg,q1,q9,0⟩] scope pos) 0 (.ref it) (.ref s.heap.objs.size) (Kb scope (jP X.env.cells scope.names []) (s.heap.objs.size+1) X.env))
  (RR (.ref s.heap.objs.size) (s.heap.objs.size+1)) { s with heap:=M,toks:=s.toks+([]:List (Str×Value)).length }:=by
  refine iH (λn s'=>∃i Z B cnt L H',Inv (dB X scope N' (s.heap.objs.size+1) { s with heap:=s.heap.push (eC [] 0) } H (s.heap.objs.size::fp)) [(s.heap.objs.size,eC B cnt)] L H' s' /\
   tn i s'.heap/\(∀b∈fp,H' b=none)/\aX Z B/\W i n Z L H') ?_ m0 ⟨0,[],[],0,_,H,q2 (aNf CS I f hf x8 hk) (hk _ _ (Al _ rfl)) I.fresh,T.keep _ _ _ st λb _ o e=>hk b o (Ab _ e),λb G=>(f b G).1,.nil,w0⟩
  rintro n s3 ⟨i,Z,B,cnt,L,H3,I3,z6,z4,w4,w3⟩;obtain⟨v4,v5,_⟩:=I3.pin (s.heap.objs.size,eC B cnt) (by simp[dB]);have z1:∀p∈[(s.heap.objs.size,eC B cnt)],p.1=s.heap.objs.size:=λp hp=>by grind
  rcases x0 i n Z L H3 w3 with⟨stop,hz,qn⟩|⟨go,hz,step⟩
  refine thn (T.done (dB X scope N' (s.heap.objs.size+1) { s with heap:=s.heap.push (eC [] 0) } H (s.heap.objs.size::fp)) rfl rfl rfl hc i _ s3 _ H3 _ I3 (z0 _ z1 z4) z6 stop) λr s4 ⟨hr,I4⟩=>?_;subst hr;obtain⟨x4,z5,_⟩:=I4.pin (s.heap.objs.size,eC B cnt) (by simp[dB]);have u4:=I4.base;have nb:∀{b:Addr} {o:Obj},s.heap.get? b=some o->b∉fp->b∉s.heap.objs.size::fp:=λ{b o} e G z=>by rcases Ax.mp z with z|z;exact absurd (Aq e) (by rw[z];exact AX _);exact G z
  have v3:∀{b:Addr} {o:Obj},s.heap.get? b=some o->b≠s.heap.objs.size:=λ{b o} e=>A4 (Aq e);have trD:∀{b:Addr} {o:HO},H b=some o->b≠s.heap.objs.size:=λ{b o} e=>aU e I.fresh;have u:Un (frs X.stack) fp H (upd H3 s.heap.objs.size (.lst Z)) s.heap s4.heap:={
   keep:=λb o e nn G hx=>u4.keep b o (Ab _ e) nn G (nb e hx)
   slot:=λb o e nn G hx=>u4.slot b o (Ab _ e) nn G (nb e hx)
   free:=λb o e nn hx=>by rw[aJ (v3 e)];exact u4.free b o (Ab _ e) nn (nb e hx)
   there:=λb o e hx=>u4.there b o (Ab _ e) (nb e hx)
   tups:=λb xs e=>by rw[aJ (trD e)];exact u4.tups b xs e
   frzs:=λb o u e=>by rw[aJ (trD e)];exact u4.frzs b o u e
   tbls:=λb ps e=>by rw[aJ (trD e)];exact u4.tbls b ps e }
  obtain⟨m4,x7,_⟩:=I4.loc;refine hR s.heap.objs.size (s.heap.objs.size+1) s4 _ m4 (I.call' I4.os u (HOk.track I4.hok z5 ⟨hz,B,cnt,w4,x4⟩) I4.bare λb G=>⟨(f b G).2.2.2.1,(f b G).2.1,(f b G).2.2.2.2.1,(f b G).2.2.2.2.2⟩) x7 (B3 _) (λσ' q3 h' I6 v1=>?_) (qn _ z5);have:=I6.turned (t':=q3.toks) (λb o G e=>v1.extBut b o G e) (by rw[aJ (BS (B3 _))];exact I4.free)
   (BS (Bz I.lt)) (.inr (DO I.sz)) (λx c e=>A4 (Bz (I.cellLt e))) λp hp z=>?_
  exact this;have:=Aq (I.pin p hp).1;rw[z] at this;exact absurd this (F3.mpr (Ec _));refine thn (T.item (dB X scope N' (s.heap.objs.size+1) { s with heap:=s.heap.push (eC [] 0) } H (s.heap.objs.size::fp)) rfl rfl rfl hc i _ s3 _ H3 _ I3 (z0 _ z1 z4) z6 go) λr s4 ⟨u,hr,h4⟩=>?_;subst hr;refine thn h4 λ_ s5 ⟨x,H5,I5,r5,y5,z2,x3⟩=>?_;obtain⟨hg,ht,he⟩:=x6 (s.heap.objs.size+1) { s with heap:=s.heap.push (eC [] 0) } H (s.heap.objs.size::fp);have keep:∀{x1:St} {H7:Hp} {s7:Ad},Inv (dB X scope N' (s.heap.objs.size+1) { s with heap:=s.heap.push (eC [] 0) } H (s.heap.objs.size::fp)) ([(s.heap.objs.size,eC B cnt)]++oZ fp s5.heap) x1 H7 s7 ->
   tn (i+1) s7.heap/\(∀b∈fp,H7 b=none)/\s7.heap.get? s.heap.objs.size=some (eC B cnt)/\H7 s.heap.objs.size=none:=by intro x1 H7 s7 I7;obtain⟨x5,v2,_⟩:=I7.pin (s.heap.objs.size,eC B cnt) (by simp[dB]);refine⟨T.keep _ _ _ z2 λb G o e=>(I7.pin (b,o) (AD _ (AD _ (gK G e)))).1,λb G=>?_,x5,v2⟩;obtain⟨o,e,d⟩:=T.obj _ _ z2 b G;exact(I7.pin (b,o) (AD _ (AD _ (gK G e)))).2.1
  refine thn (hg _ s5 _ H5 x u _ (I5.pinned (z0 _ z1 x3) (T.obj _ _ z2)) r5 (step x H5 y5)) λ_ s6 ⟨w6,H6,I6,q6⟩=>?_;refine thn (ht _ s6 w6 H6 _ I6 q6) λb s7 ⟨H7,I7,q7⟩=>?_;cases b with
  | false=>rw[if_neg bN] at q7 ⊢;obtain⟨m',hm,w7⟩:=q7;obtain⟨t7,f7,d7,n7⟩:=keep I7;exact⟨m',hm,i+1,Z,B,cnt,w6,H7,q2 I7 d7 n7,t7,f7,w4,w7⟩|true=>
   rw[if_pos rfl] at q7 ⊢;refine thn (he _ s7 w6 H7 _ I7 q7) λyv s8 ⟨y,H8,I8,r8,q8⟩=>?_;obtain⟨m',hm,w8⟩:=q8;obtain⟨t8,f8,d8,n8⟩:=keep I8;have hl:=w4.length;refine D8 Gx ⟨_,d8,rfl⟩ Gi (FN _ _) (GR s.heap.objs.size B.toArray cnt yv (by rw[Ah];omega)) ⟨d8,?_⟩;have q:=HF d8 (λa=>a.push yv);have e':B.toArray.push yv=(B++[yv]).toArray:=by simp
   rw[e'] at q;have x2:=((I8.unpinned).pins_of (pins':=[]) (λp hp=>absurd hp (by simp))).turned (t':=s8.toks) (h':=s8.heap.update s.heap.objs.size (Bt λa=>a.push yv)) (λb o G e=>(CL s8.heap _ (Dj G)).trans e) n8
    (A4 (B3 _)) (.inl Am) (λx c e=>A4 (I.cellLt (cM (λn hn=>I.ok.has n (CS.free n hn)) e))) (λp hp=>absurd (show p∈([]:List (Addr×Obj)) from by simpa[dB] using hp) (by simp))
   refine⟨m',hm,i+1,Z++[y],B++[yv],_,w6,H8,q2 x2 q n8,?_,f8,w4.append (.cons r8 .nil),w8⟩;refine T.keep _ _ _ t8 λb G o e=>(CL s8.heap _ ?_).trans e;intro z;exact absurd (hf b G) (by rw[<-z];exact AX _)
 have U:∀C,C=s.heap.objs.size+1->D4 (A5 X.prog X.w) X.A (.compLoop (.ListComp elt [⟨tg,q1,q9,0⟩] scope pos) 0 (.ref it) (.ref s.heap.objs.size) (Kb scope (jP X.env.cells scope.names []) C X.env))
  (RR (.ref s.heap.objs.size) C) { s with heap:=M,toks:=s.toks+([]:List (Str×Value)).length }:=by rintro C rfl;exact start
 exact codeAny_compStart_list (U _ q0) (T.self X.A 0 _ _ _ (T.keep _ _ _ st λb _ o e=>hk b o (Ab _ e)) (U _ q0))
end
section
variable {X:Cx} {scope:De} {k:Nat} {caps:List Nat} {N':List Str} {tg iter elt:A6} {ifs:List A6} {pos:Du} {wi:TI} {g:TG} {tt:TT} {te:TE}
theorem aBG(G:cS X scope k caps N')(hc:X.calm=true)(hi:PI X tg iter wi)
 (L:∀C s₀ H₀ ex,PG (dB X scope N' C s₀ H₀ ex) tg g/\PTs (dB X scope N' C s₀ H₀ ex) ifs tt/\PE (dB X scope N' C s₀ H₀ ex) elt te) (hs:∀x,BJ iter X.env x=pure x) :
 PE X (.ListComp elt [⟨tg,iter,ifs,0⟩] scope pos) (aEK k caps wi g tt te):=by intro pins s σ H Q I h;rw[eval_ListComp];refine EU rfl hs (hX λn M=>I.ok.has n (G.free n M)) G.kind G.loc (thn (hi pins s σ H _ I h) λxv s1 h1=>thn h1 λq0 s2 h2=>?_);obtain⟨it,fp,tn,J'',H2,e,I2,T,Z,f2,hw⟩:=h2;subst e;exact yB G hc I2 T Z f2 L hw λD C s' H' m J'' M _ B q=>⟨m,M,λh' U=>⟨.ref D,H',B σ s' h' J'' U,rfl,q⟩⟩
theorem pM(B:cS X scope k caps N')(hc:X.calm=true)(hi:PI X tg iter wi)
 (L:∀C s₀ H₀ ex,PG (dB X scope N' C s₀ H₀ ex) tg g/\PTs (dB X scope N' C s₀ H₀ ex) ifs tt/\PE (dB X scope N' C s₀ H₀ ex) elt te) (hs:∀x,BJ iter X.env x=pure x)
 (hN:X.N.Nodup) (M:X.N[i]? = some x) (hx:Loc X.env.scope x) (hf:X.fn x=true\/X.env.scope.names.lookup x=some .local) :
 PS X (.Assign [.Name x pos'] (.ListComp elt [⟨tg,iter,ifs,0⟩] scope pos) spos) (aJG (aEK k caps wi g tt te) (xA i)):=by
 have U:∃b,H0 (.ListComp elt [⟨tg,iter,ifs,0⟩] scope pos) (some (.Name x pos')) spos.line X.env=pure b:=⟨_,rfl⟩
 obtain⟨b,U⟩:=U;cases b with
 | false=>exact oX hN M hx (aBG B hc hi L hs) U hf|true=>intro pins s σ H D I h;rw[exec_Assign_Name_used x pos' _ spos U];refine Aa (Gm (Aa ?_));refine Aa (EU rfl hs (hX λn hn=>I.ok.has n (B.free n hn)) B.kind B.loc (thn (hi pins s σ H _ I h) λxv s1 h1=>thn h1 λq4 s2 h2=>?_));obtain⟨it,fp,tn,J'',H2,e,Z,T,q3,f2,hw⟩:=h2;subst e;refine yB (Q:=λv H'=>D.nx (σ.set i (some v)) H') B hc Z T q3 f2 L hw λD' C s' H' m J'' hn lt G q=>?_;refine GG (sJ (v:=V.ref D') J'' hN M hx rfl (λq2 J' q1=>?_) hf);obtain⟨a,sb,ha⟩:=q1;refine⟨m,hn.sameBut sb ?_,λh' q0=>?_⟩;rcases ha with z|z;rw[z];exact BS (DL Z.lt lt);exact BS (DL (Z.cellLt z) lt);exact Ae (Ae ⟨_,H',G _ q2 h' J' q0,q⟩)
end
section
variable {X:Cx} {pins:List (Addr×Obj)} {σ:St} {H:Hp} {s:Ad}
noncomputable def aJa(K:Ap)(a:Addr)(xs:TKV)(vs:List V)(H:Hp)(Q:VK):Prop:=∃(b:Addr) (k:List Int) (v:V),vs=[.ref b,v]/\H a=some (eZ a xs)/\(∀x∈xs,SqT K H x.2.1 (x.1.map V.int))/\SqT K H b (k.map V.int) /\
 (∀p,Et xs k=some p->∃v',bB v' p.2/\Q v' H)/\(Et xs k=none->Q v H)
theorem aDl(hu:X.A.units+100<cLine)(I:Inv X pins σ H s)(r:aX vs us)(h:aJa X.K a xs vs H Q) :
 As (A5 X.prog X.w) X.A (call (.builtin "dict.get") (.ref a::us)) (EP X pins σ Q) X.xe s:=by
 obtain⟨b,k,v,rfl,e,Z,kb,M,U⟩:=h;cases r with
 | cons r1 B=>
  cases B with
  | cons B r3=>
   cases r3;cases r1;rename_i u;obtain⟨L,g2,G⟩:=lK I e Z;refine GY FE G.typeIs PySem.F.entry_dict_get (PySem.F.args_dict_get_3 _ _ _) (meetsH_dict_get_default (Hy (DY X.prog X.w)) a b L u) ⟨show X.A.in1.units<cLine by show X.A.units+1<cLine;omega,k,xs,uV I kb,G,?_⟩;cases q:Et xs k with
   | none=>exact⟨v,H,I.tok _,B,U q⟩|some p=>obtain⟨v',rv,q⟩:=M p q;exact⟨v',H,I.tok _,rv,q⟩
variable {o e:A6} {es:List A6} {to:TE} {t:TA} {apos cpos:Du}
theorem aHD(hu:X.A.units+100<cLine)(ho:PE X o to)(ha:PA X (e::es) t)
 (G:DZ o "get" X.env (Ch o X.env)=Ch o X.env)
 (M:((Cd cpos (AA (e::es) X.env)).all (λx=>!x.1)&&(E3 cpos (Df [] X.env)).all (λx=>x.1.isSome)
  && decide ((e::es).length+([]:List EK).length+(if ([]:List EK).isEmpty then 0 else 1)<30))=true)
 (L:(apos.endLine==cpos.line)=true) (hs:AA (e::es) X.env=(false,Ch e X.env)::AA es X.env) (B:(Cd cpos (AA es X.env)).any (·.1)=false) :
 PE X (.Call (.Attribute o "get" apos) (e::es) [] cpos) (λσ H Q=>to σ H λx H1=>∃a xs,x=.ref a/\H1 a=some (eZ a xs)/\(∀x∈xs,SqT X.K H1 x.2.1 (x.1.map V.int))/\t σ H1 λvs U=>aJa X.K a xs vs U Q):=by intro pins s σ H Q I h;refine DJ G M L rfl (thn (ho pins s σ H _ I h) λv s1 ⟨x,H1,Z,r1,a,xs,e1,e2,e3,q1⟩=>?_);subst e1;obtain rfl:v=AG a:=r1;obtain⟨g1,g2,g3⟩:=lK Z e2 e3;refine⟨"dict", "dict.get",Fd,FE,PySem.F.type_dict_get,g3.typeIs,λb q=>?_,?_⟩;cases q;obtain⟨ob,_,_,h1,h2,_⟩:=g3;exact⟨ob,h1,h2.2.1⟩;have hA:=ha cpos pins s1 σ H1 _ Z q1;rw[hs] at hA ⊢;exact DK (by show(false||(Cd cpos (AA es X.env)).any (·.1))=false;rw[B] <;> rfl) (Ed (thn hA λus s2 ⟨vs,U,I2,r2,q2⟩=>aDl hu I2 r2 q2))
end
end L2
namespace Hp
open PySem PySem.Spec PyProof.Rows L2
noncomputable def Rr(K:Fg)(H H':Hp)(Y:Addr->Prop)(r:Rt)(u:V):Prop:=
 if r.2.1=true then ∃a xs ds,u=.ref a/\r.1=.lst ds/\H a=none/\H' a=some (.lst xs)/\Reps K H' (λb=>b=a\/Y b\/(r.2.2=false/\H b≠none)) ds xs
 else Rep K H' (λb=>Y b\/(r.2.2=false/\H b≠none)) r.1 u
noncomputable def spF(K:Fg)(P:Pg)(n:Nat)(f:Nat):Sp:=λvs H Q _=>∃(ds:List D) (Y:Addr->Prop),(∀a,Y a->H a≠none)/\Reps K H Y ds vs/\RE (call P n f ds) λr=>∀u H',Tk K H'->aL H H'->Rr K H H' Y r u->Q u H'
noncomputable def spI(K:Fg)(P:Pg)(n f:Nat)(c:Str):Sp:=λvs H Q _=>∃(C x dx:Addr) (ds:List D) (us:List V) (r:Rt),vs=.ref x::us/\ds.length=us.length/\H x=some (.ins C dx [])/\BU K AI c=some (some (.ref C)) /\
 call P n f (.err 0 [.int 0,.str c]::ds)=.ok r/\(Tk K H->∃Y:Addr->Prop,(∀a,Y a->H a≠none)/\Y x/\Reps K H Y ds us/\∀H',Tk K H'->(∀a o,H a=some o->a≠x->H' a=some o)->Rep K H' (λb=>Y b/\b≠x) r.1 (.ref x)->Q .non H')
noncomputable def bltNames:List Str:=["len", "list", "tuple", "min", "max", "abs", "int", "str", "sum", "all", "any", "sorted", "bool", "range", "zip", "enumerate", "reversed", "set", "isinstance", "dict", "repr"]
structure Md (X:Cx) (P:Pg) (Γ:Ct) (n:Nat):Prop where
 fn:∀(f:Nat) (x:Str),Γ.fns[f]? = some x->∃fa fd ps,X.mg x=some (.ref fa)/\CB X.K (.ref fa)=true/\dM X.K fd ps []/\eY X.prog X.w X.K X.mg X.base CX0 n fa fd ps (spF X.K P n f)
 blt:∀x∈bltNames,X.mg x=none
 cns:∀(x:Str) (d:D),Γ.cns.lookup x=some d->∃u v,X.mg x=some u/\bB v u/\∀H ex,Rep X.K H ex d v
 tab:∀(i:Nat) (x:Str),Γ.tbs[i]? = some x->∃a t,X.mg x=some (.ref a)/\P.tabs[i]? = some t/\sW X.prog X.w X.K a t
 obj:∀(c:Str) (k:List Str×List (Str×Nat)),P.objs.lookup c=some k->∃C,BU X.K AI c=some (some (.ref C))/\Cls X.K C/\(∀f,k.1.contains f=true->dZ X.K C f)/\∀m f,k.2.lookup m=some f->∃fa fd ps,xG X.K C m fa/\dM X.K fd ps []/\eY X.prog X.w X.K X.mg X.base CX0 n fa fd ps (spF X.K P n f)
 mkr:∀(j:Nat) (c:Str),Γ.obs[j]? = some c->∃k C fi fa fd ps,P.objs[j]? = some (c,k)/\BU X.K AI c=some (some (.ref C))/\k.2.lookup ("__init__" : Str)=some fi/\X.mg c=some (.ref C)/\Mk X.K C fa/\dM X.K fd ps [] /\
  ∀n',n=n'+1->eY X.prog X.w X.K X.mg X.base CX0 n' fa fd ps (spI X.K P n' fi c)
structure Mc (X:Cx) (P:Pg) (Γ:Ct) (n:Nat):Prop where
 md:Md X P Γ n
 N:X.N=Γ.N
 nd:X.N.Nodup
 sc:X.env.scope.names=Γ.sc
 calm:X.calm=true
 room:fS n X.A
 xe:X.xe=λ_ _=>False
 st:∀x:Str,xU Γ x=true->X.fn x=true\/X.env.scope.names.lookup x=some .local
 fk:X.env.scope.kind=.function
section
variable {X:Cx} {P:Pg} {Γ:Ct} {n:Nat}
theorem Mc.units(M:Mc X P Γ n):X.A.units+200<cLine:=by have:=M.room.un;omega
theorem Mc.vis(M:Mc X P Γ n)(h:aEz Γ x=true):Vis X.env.scope x:=by
 unfold aEz at h;unfold Vis;rw[M.sc];cases q:Γ.sc.lookup x with
 | none=>rw[q] at h;cases h|some k=>rw[q] at h;cases k <;> first|exact .inl rfl|exact .inr (.inl rfl)|exact .inr (.inr rfl)|cases h
theorem Mc.loc(M:Mc X P Γ n)(h:xU Γ x=true):L2.Loc X.env.scope x:=by
 unfold xU at h;unfold L2.Loc;rw[M.sc];cases q:Γ.sc.lookup x with
 | none=>rw[q] at h;cases h|some k=>rw[q] at h;cases k <;> first|exact .inl rfl|exact .inr rfl|cases h
theorem Mc.gl(M:Mc X P Γ n)(h:dD Γ x=true):Gl X x:=by
 unfold dD at h;unfold Gl;show X.env.scope.names.lookup x=_;rw[M.sc];cases q:Γ.sc.lookup x with
 | none=>rw[q] at h;cases h|some k=>rw[q] at h;cases k <;> first|rfl|cases h
theorem aY(h:dA x=true):(x==("__debug__" : Str))=false:=by unfold dA at h;simp only[bA,Db] at h;exact h.1
theorem iY(h:dA x=true):(x==("__classdict__" : Str))=false:=by unfold dA at h;simp only[bA,Db] at h;exact h.2
theorem aKn:∀{d d':D},eqK d d'=true->d=d':=by intro d d' h;cases d <;> cases d' <;> simp[eqK] at h <;> first|rfl|(subst h;rfl)
noncomputable def aQ:A6->Bool
 | .Starred _ _=>false|.Slice _ _ _ _=>false|.Set _ _ _=>false|_=>true
theorem aBH{α:Type}{o:Option α}{f:α->Bool}(h:oB o f=true):∃a,o=some a/\f a=true:=by
 cases o with
 | none=>cases h|some a=>exact⟨a,rfl,h⟩
theorem aD{α:Type}{q:α->Prop}{o:Option { a:α // q a }}{f:α->Bool}(h:oS o f=true):∃a,q a/\f a=true:=by
 cases o with
 | none=>cases h|some a=>exact⟨a.1,a.2,h⟩
theorem aO{c:E}{e:A6}(h:aR Γ c e=true):aQ e=true:=by
 cases c with
 | c d=>rcases(Cf _ _).mp (h) with h|h;obtain⟨_,⟨_,_,rfl⟩,_⟩:=aD h;rfl;obtain⟨_,⟨_,rfl⟩,_⟩:=aD h;rfl
 | v i=>obtain⟨_,⟨_,rfl⟩,_⟩:=aD h;rfl|op o a b=>obtain⟨_,⟨_,rfl⟩,_⟩:=aD h;rfl|neg a=>obtain⟨_,⟨_,rfl⟩,_⟩:=aD h;rfl|nt a=>obtain⟨_,⟨_,rfl⟩,_⟩:=aD h;rfl|an a b=>obtain⟨_,rfl,_⟩:=aD h;rfl|orr a b=>obtain⟨_,rfl,_⟩:=aD h;rfl|ife t a b=>obtain⟨_,⟨_,rfl⟩,_⟩:=aD h;rfl|cmp o a b=>obtain⟨_,⟨_,rfl⟩,_⟩:=aD h;rfl|srt a=>obtain⟨_,⟨_,_,rfl⟩,_⟩:=aD h;rfl|fld j f=>obtain⟨_,⟨_,_,rfl⟩,_⟩:=aD h;rfl|mcl j m es=>obtain⟨_,⟨_,_,rfl,_⟩,_⟩:=aD h;rfl|mk j es=>obtain⟨_,⟨_,_,rfl⟩,_⟩:=aD h;rfl|dgl o k=>obtain⟨_,⟨_,_,rfl,_⟩,_⟩:=aD h;rfl|grp j=>cases h|in2 o a j k=>obtain⟨_,⟨_,rfl⟩,_⟩:=aD h;rfl|add2 j k e=>obtain⟨_,⟨_,rfl⟩,_⟩:=aD h;rfl|sset a=>obtain⟨_,⟨_,_,rfl⟩,_⟩:=aD h;rfl|cmp2 B G a b c=>obtain⟨_,⟨_,rfl⟩,_⟩:=aD h;rfl|idx a b=>obtain⟨_,⟨_,rfl⟩,_⟩:=aD h;rfl|sli a lo hi=>obtain⟨_,⟨_,rfl⟩,_⟩:=aD h;rfl|tup es=>obtain⟨_,⟨_,_,rfl⟩,_⟩:=aD h;rfl|lst es=>obtain⟨_,⟨_,rfl⟩,_⟩:=aD h;rfl|call f es=>obtain⟨_,⟨_,_,rfl⟩,_⟩:=aD h;rfl|bi b es=>obtain⟨_,⟨_,_,rfl⟩,_⟩:=aD h;rfl|isi a cs=>obtain⟨_,⟨_,_,rfl⟩,_⟩:=aD h;rfl|comp k caps t it cond elt=>obtain⟨_,⟨_,rfl⟩,_⟩:=aD h;rfl
theorem aC(h:aQ e=true):AA (e::es) env=(false,Ch e env)::AA es env:=by cases e <;> first|rfl|cases h
theorem eK:∀{cs:Es} {es:List A6},chkEs Γ cs es=true->es.all aQ=true
 | .nil,[],_=>rfl|.nil,_::_,h=>by cases h|.cons _ _,[],h=>by cases h|.cons c cs,e::es,h=>by simp only[chkEs,bA] at h;rw[Ea,aO h.1,eK h.2];rfl
theorem cH:∀{es:List A6},es.all aQ=true->(Cd pos (AA es env)).any (·.1)=false
 | [],_=>rfl|e::es,h=>by rw[Ea,bA] at h;rw[aC h.1];show(false||(Cd pos (AA es env)).any (·.1))=false;rw[cH h.2];rfl
theorem fC(h:aQ e=true):aBu e:=by intro o i;cases e <;> first|rfl|cases h
theorem iZ(h:aQ e=true):∀x,BJ e env x=pure x:=by intro x;cases e <;> first|rfl|cases h
theorem iI(h:aQ e=true):Gn op e=false:=by cases e <;> first|rfl|cases h
variable {RT Y J:Addr->Prop} {σ:Sg} {pos:Du}
abbrev WE(X:Cx)(P:Pg)(n:Nat)(RT Y J:Addr->Prop)(σ:Sg)(c:E):TE:=wE X P (call P n) RT Y J σ c
abbrev WT(X:Cx)(P:Pg)(n:Nat)(RT Y J:Addr->Prop)(σ:Sg)(c:E):TT:=wT X P (call P n) RT Y J σ c
abbrev WA(X:Cx)(P:Pg)(n:Nat)(RT Y J:Addr->Prop)(σ:Sg)(c:Es):TA:=wA X P (call P n) RT Y J σ c
theorem RE.bind'{α B:Type}{x:R α}{f:α->R B}{p:B->Prop}(h:RE (x >>= f) p):RE x λa=>RE (f a) p:=by rwa [RE.bind] at h
theorem wE.one{p:Vl->Prop}{Q:V->Hp->Prop}(S:Sx X.K RT Y J σ σV H)(h:RE (ev P (call P n) σ a) p)
 (f:∀x u H',p x->Tk X.K H'->Sx X.K RT Y J σ σV H'->Ro X.K RT Y J σ σV H H' x u->Q u H'):WE X P n RT Y J σ a σV H Q:=
 ⟨S,h.mono λx B u H' t r=>f x u H' B t (S.grow r.1 t) r⟩
theorem aPX(ha:PE X ea (WE X P n RT Y J σ a))(hb:PE X eb (WE X P n RT Y J σ b)):PE X (.BinOp ea o eb pos) (WE X P n RT Y J σ (.op o a b)):=by
 intro pins s σV H Q I hw;obtain⟨S,h⟩:=hw;have h:=RE.bind' (h);refine JV (thn (ha pins s σV H (λux H1=>WE X P n RT Y J σ b σV H1 λuy B=>∃x y,Sx X.K RT Y J σ σV B/\aL H B/\Rv X.K RT Y J σ σV B x ux/\Rv X.K RT Y J σ σV B y uy/\(x.fr=true->∃a xs,ux=.ref a/\B a=some (.lst xs))/\RE (opD o x y) (Wn X RT Y J σ σV H Q)) I
  (wE.one S h λx u H1 U t1 S1 r1=>wE.one S1 (RE.bind' U) λy u' B Z t2 L G=>⟨x,y,L,r1.1.trans G.1,(r1.rv S).grow G.1,G.rv S1,λM=>?_,Z⟩)) λv s1 ⟨x',H1,I1,rx,q1⟩=>thn (hb pins s1 σV H1 _ I1 q1) λu s2 ⟨y',B,I2,ry,q2⟩=>?_)
 have:=r1.2;rw[if_pos M] at this;obtain⟨a',xs,ds,e1,_,_,e4,_⟩:=this;exact⟨a',xs,e1,G.1 _ _ e4⟩;obtain⟨x,y,L,sm,U,Z,M,h⟩:=q2;exact aEI I2 L rx ry U Z M (h.mono λv hv u H' t r=>hv u H' t (r.from sm))
theorem aNg(L:PE X ea (WE X P n RT Y J σ a)):PE X (.UnaryOp .USub ea pos) (WE X P n RT Y J σ (.neg a)):=by refine(aME aJO L).imp λσV H Q t ⟨S,h⟩=>?_;refine wE.one S (RE.bind' (h)) λx u H1 B U M G=>?_;split at B;rename_i i I;exact⟨i,(G.rv S).int I,λt'=>B _ _ t' (Ro.cl G.1 rfl)⟩;exact B.elim
theorem aEM{x:Vl}(B:Rv X.K RT Y J σ σV H x u)(h:aEw x.d=some k):aHd X.K u H k:=by
 unfold aEw at h;split at h;rename_i d;rw[B.non d];exact(Ao h).symm;rename_i b d;rw[B.bl d];exact(Ao h).symm;rename_i i d;rw[B.int d];exact(Ao h).symm;rename_i z d;by_cases G:z.length<=lim;rw[if_pos G] at h;rw[B.str d];refine⟨eB G,?_⟩;rw[<-Ao h];cases hz:z.length with
 | zero=>rfl|succ m=>simp;omega
 rw[if_neg G] at h;cases h;rename_i ds d;obtain⟨a,xs,e,q,r⟩:=B.tup d;rw[e];refine .inr (.inl ⟨xs,q,?_⟩);rw[<-Ao h];have:=r.length;grind;rename_i ds d;obtain⟨a,xs,e,q,_,r⟩:=B.lst d;rw[e];refine .inl ⟨xs,q,?_⟩;rw[<-Ao h];have:=r.length;grind;cases h
theorem RE.tru{x:Vl}{p:Bool->Prop}(h:RE (gN x) p):∃k,aEw x.d=some k/\p k:=by
 unfold gN at h;cases q:aEw x.d with
 | none=>rw[q] at h;exact h.elim|some k=>rw[q] at h;exact⟨k,rfl,h⟩
theorem aNh(ha:PE X ea (WE X P n RT Y J σ a)):PE X (.UnaryOp .Not ea pos) (WE X P n RT Y J σ (.nt a)):=by intro pins s σV H Q I hw;obtain⟨S,h⟩:=hw;refine UnaryOp_ (thn (ha pins s σV H (λu H1=>∃k,aHd X.K u H1 k/\Q (.bl (!k)) H1) I (wE.one S (RE.bind' (h)) λx u H1 hx t1 S1 G=>?_)) λv s1 ⟨u,H1,M,ru,k,B,q⟩=>?_);obtain⟨k,B,hp⟩:=RE.tru (RE.bind' hx);exact⟨k,aEM (G.rv S) B,(hp) _ _ t1 (Ro.cl G.1 rfl)⟩;refine not_of (thn (aEj pins s1 σV H1 u v (λk' H'=>k'=k/\H'=H1) M ru ⟨k,B,rfl,rfl⟩) λb s2 ⟨L,U,Z,e2⟩=>?_);subst Z e2;exact⟨.bl (!b),L,U,rfl,q⟩
theorem pN{e:A6}(I:PE X e (WE X P n RT Y J σ c))(M:∀B,isTrue e X.env B=(do let v<-B;GH e.pos;Ft [v] (truthy v)))
 (L:∀p,RE (tst P (call P n) σ c) p->RE (ev P (call P n) σ c) λx=>RE (gN x) p):PT X e (WT X P n RT Y J σ c):=by refine(aEk I M).imp λσV H Q t ⟨S,h⟩=>?_;refine wE.one S (L _ h) λx u H1 hx t1 S1 G=>?_;obtain⟨k,U,Z⟩:=RE.tru hx;exact⟨k,aEM (G.rv S) U,λt'=>Z _ t' G.1⟩
theorem aNi(U:PE X ea (WE X P n RT Y J σ a))(Z:PE X (.BoolOp .And (M::r) pos) (WE X P n RT Y J σ b)):PE X (.BoolOp .And (ea::M::r) pos) (WE X P n RT Y J σ (.an a b)):=by refine(aJC U Z).imp λσV H Q t ⟨S,h⟩=>?_;refine wE.one S (RE.bind' (h)) λx u H1 B t1 L G=>?_;split at B;rename_i I;refine⟨true,(G.rv S).bl I,?_⟩;rw[if_pos rfl];exact⟨L,B.mono λv hv u H' t r=>λ_=>hv u H' t (r.from G.1)⟩;rename_i I;refine⟨false,(G.rv S).bl I,?_⟩;rw[if_neg bN];exact λt'=>B _ _ t' (Ro.cl G.1 rfl);exact B.elim
theorem aJb(U:PE X ea (WE X P n RT Y J σ a))(Z:PE X (.BoolOp .Or (M::r) pos) (WE X P n RT Y J σ b)):PE X (.BoolOp .Or (ea::M::r) pos) (WE X P n RT Y J σ (.orr a b)):=by refine(aMs U Z).imp λσV H Q t ⟨S,h⟩=>?_;refine wE.one S (RE.bind' (h)) λx u H1 B t1 L G=>?_;split at B;rename_i I;refine⟨true,(G.rv S).bl I,?_⟩;rw[if_pos rfl];exact λt'=>B _ _ t' (Ro.cl G.1 rfl);rename_i I;refine⟨false,(G.rv S).bl I,?_⟩;rw[if_neg bN];exact⟨L,B.mono λv hv u H' t r=>λ_=>hv u H' t (r.from G.1)⟩;exact B.elim
theorem aNj(ht:PT X et (WT X P n RT Y J σ t))(L:PE X ea (WE X P n RT Y J σ a))(M:PE X eb (WE X P n RT Y J σ b)):PE X (.IfExp et ea eb pos) (WE X P n RT Y J σ (.ife t a b)):=by
 refine(aDY ht L M).imp λσV H Q U ⟨S,h⟩=>?_;refine⟨S,(RE.bind' (h)).mono λk B H1 I s1=>?_⟩;cases k with
 | true=>rw[if_pos rfl] at B ⊢;exact⟨S.grow s1 I,B.mono λv G u H' t r=>λ_=>G u H' t (r.from s1)⟩|false=>rw[if_neg bN] at B ⊢;exact⟨S.grow s1 I,B.mono λv G u H' t r=>λ_=>G u H' t (r.from s1)⟩
noncomputable def w2(X:Cx)(P:Pg)(n:Nat)(RT Y J:Addr->Prop)(σ:Sg)(σV:L2.St)(H:Hp)(p:Vl->Vl->Prop)(ux uy:V)(H2:Hp):Prop:=
 ∃x y,Sx X.K RT Y J σ σV H2/\aL H H2/\Rv X.K RT Y J σ σV H2 x ux/\Rv X.K RT Y J σ σV H2 y uy/\p x y
theorem fJ(M:Mc X P Γ n)(o:CmpOp):OpR X (BP o) (λB G H Q=>∃(σ:Sg) (σV:L2.St) (x y:Vl) (k:Bool),Rv X.K RT Y J σ σV H x B/\Rv X.K RT Y J σ σV H y G/\cT o x.d y.d=some k/\Q (.bl k) H):=by intro pins s σV H B G v u Q I rx ry h;obtain⟨σ',L,x,y,k,Z,hy,U,q⟩:=h;exact aDe I M.units rx ry Z hy U q
theorem aNk(M:Mc X P Γ n)(I:PE X ea (WE X P n RT Y J σ a))(L:PE X eb (WE X P n RT Y J σ b))(B:aQ eb=true):PE X (.Compare ea [o] [eb] pos) (WE X P n RT Y J σ (.cmp o a b)):=by refine(aBq (fJ (RT:=RT) (Y:=Y) (J:=J) M o) I L (iI B)).imp λσV H Q t ⟨S,h⟩=>?_;refine wE.two S ((RE.bind' (h)).mono λx G=>RE.bind' G) λx y ux uy H2 B t2 s2 S2 G Z=>?_;split at B;rename_i k U;exact⟨σ,σV,x,y,k,G,Z,U,λt'=>B _ _ t' (Ro.cl s2 rfl)⟩;exact B.elim
theorem bZ(M:Mc X P Γ n)(I:PE X ea (WE X P n RT Y J σ a))(L:PE X eb (WE X P n RT Y J σ b))(B:aQ eb=true):PT X (.Compare ea [o] [eb] pos) (WT X P n RT Y J σ (.cmp o a b)):=by refine(aBr (fJ (RT:=RT) (Y:=Y) (J:=J) M o) I L (iI B)).imp λσV H Q t ⟨S,h⟩=>?_;refine wE.two S ((RE.bind' (h)).mono λx G=>RE.bind' G) λx y ux uy H2 B t2 s2 S2 G Z=>?_;split at B;rename_i k U;exact⟨σ,σV,x,y,k,G,Z,U,k,rfl,λt'=>B _ t' s2⟩;exact B.elim
theorem aNl(I:PE X ea (WE X P n RT Y J σ a))(L:PE X eb (WE X P n RT Y J σ b))(B:aQ eb=true):PE X (.Subscript ea eb pos) (WE X P n RT Y J σ (.idx a b)):=by refine(xK aJY I L (fC B)).imp λσV H Q t ⟨S,h⟩=>?_;exact wE.two S ((RE.bind' (h)).mono λx G=>RE.bind' G) λx y ux uy H2 B Z s2 S2 G U=>(aDf Z G U (B.mono λv M u H' t r=>M u H' t (r.from s2)))
theorem yC:PA X [] (WA X P n RT Y J σ .nil):=eP.imp λσV H Q t ⟨S,h⟩ t'=>h [] H t' (aL.refl H) rfl
theorem kJ(L:PE X e (WE X P n RT Y J σ c))(U:PA X es (WA X P n RT Y J σ cs))(M:aQ e=true):PA X (e::es) (WA X P n RT Y J σ (.cons c cs)):=by refine(cZ L U (aC M)).imp λσV H Q t ⟨S,h⟩=>?_;exact wE.one S (RE.bind' (h)) λx u H1 hx t1 I B=>⟨I,(RE.bind' hx).mono λvs Z us G t2 s2 r2 t'=>(Z (u::us) G t' (B.1.trans s2) ⟨u,us,rfl,(B.rv S).grow s2,r2⟩)⟩
theorem vC:∀{cs:Es} {es:List A6} {vs:List Vl},chkEs Γ cs es=true->evs P (call P n) σ cs=.ok vs->vs.length=es.length
 | .nil,[],vs,_,h=>by cases(h);rfl|.nil,_::_,_,h,_=>by cases h|.cons _ _,[],_,h,_=>by cases h|.cons c cs,e::es,vs,I,h=>by
  simp only[chkEs,bA] at I;have h:(ev P (call P n) σ c >>= λx=>evs P (call P n) σ cs >>= λxs=>R.ok (x::xs))=R.ok vs:=h;cases B:ev P (call P n) σ c with
  | ok x=>
   cases G:evs P (call P n) σ cs with
   | ok xs=>rw[B] at h;rw[G] at h;cases(h);rw[lC,lC,vC I.2 G]|exc z=>rw[B] at h;have h:(evs P (call P n) σ cs >>= λxs=>R.ok (x::xs))=R.ok vs:=h;rw[G] at h;cases h|bad=>rw[B] at h;have h:(evs P (call P n) σ cs >>= λxs=>R.ok (x::xs))=R.ok vs:=h;rw[G] at h;cases h
  | exc z=>rw[B] at h;cases h|bad=>rw[B] at h;cases h
theorem RE.eq{α:Type}{x:R α}{p:α->Prop}(h:RE x p):∃a,x=.ok a/\p a:=by
 cases x with
 | ok a=>exact⟨a,rfl,h⟩|exc e=>exact h.elim|bad=>exact h.elim
theorem aNm{es:List A6}(G:PA X es (WA X P n RT Y J σ cs))(I:chkEs Γ cs es=true)(U:es.length<=1000):PE X (.Tuple es k pos) (WE X P n RT Y J σ (.tup cs)):=by refine(aEn G).imp λσV H Q t ⟨S,h⟩=>?_;obtain⟨vs,e,M⟩:=(RE.bind' (h)).eq;refine⟨S,?_⟩;rw[e];intro us H1 Z s1 B;exact⟨(by rw[<-B.length,vC I e,AY];omega),λp L t'=>(M) _ _ t' ((Ro.tup L rfl rfl B.all).from s1)⟩
theorem aNn{es:List A6}(G:PA X es (WA X P n RT Y J σ cs))(I:chkEs Γ cs es=true)(Z:es.length<=1000):PE X (.List es pos) (WE X P n RT Y J σ (.lst cs)):=by refine(aAi G).imp λσV H Q t ⟨S,h⟩=>?_;obtain⟨vs,e,M⟩:=(RE.bind' (h)).eq;refine⟨S,?_⟩;rw[e];intro us H1 U s1 B;exact⟨(by rw[<-B.length,vC I e,AY];omega),λp L t'=>(M) _ _ t' ((Ro.fresh L t' rfl rfl (S.grow s1 U) B.all).from s1)⟩
theorem aHE:∀b:Bi,aEA b=true->BC (kG b)=some (aIZ b):=by intro b B;cases b <;> first|kernel_rfl|cases B
theorem fD:∀b:Bi,kG b∈bltNames:=by intro b;cases b <;> decide +kernel
theorem fY:∀b:Bi,kG b ≠ "__name__" := by intro b;cases b <;> decide +kernel
theorem aPY(M:Mc X P Γ n)(Z:aEA b=true)(hx:kG b=x)(L:dD Γ x=true)(U:dA x=true)(I:PA X (e::es) (WA X P n RT Y J σ cs))(hp:(e::es).all aQ=true) :
 PE X (.Call (.Name x p) (e::es) [] pos) (WE X P n RT Y J σ (.bi b cs)):=by
 subst hx;have B:aQ e=true/\es.all aQ=true:=by simpa using hp
 have body:∀(f:PE X (.Call (.Name (kG b) p) (e::es) [] pos) (tCB (rBi X b) (WA X P n RT Y J σ cs))),PE X (.Call (.Name (kG b) p) (e::es) [] pos) (WE X P n RT Y J σ (.bi b cs)):=λf=>f.imp λσV H Q t ⟨S,h⟩=>by exact⟨S,(RE.bind' (h)).mono λvs hv us H1 t1 s1 r1=>(aEJ Z (S.grow s1 t1) r1 (hv.mono λv hv u H' t r=>hv u H' t (r.from s1)))⟩
 refine body ?_;have r:=aHz M.calm M.room.gd M.units b Z;have G:=aHE b Z;cases b with
 | len=>exact pB r (M.gl L) (M.md.blt _ (fD _)) G I (fY _) (aY U) (aC B.1) (cH B.2)|max=>exact pB r (M.gl L) (M.md.blt _ (fD _)) G I (fY _) (aY U) (aC B.1) (cH B.2)|all=>exact pB r (M.gl L) (M.md.blt _ (fD _)) G I (fY _) (aY U) (aC B.1) (cH B.2)|list=>exact sP r (M.gl L) (M.md.blt _ (fD _)) G I (fY _) (aY U) (aC B.1) (cH B.2)|tuple=>exact sP r (M.gl L) (M.md.blt _ (fD _)) G I (fY _) (aY U) (aC B.1) (cH B.2)|_=>cases Z
theorem vD(L:Sx X.K RT Y J σ σV H1)(s1:aL H H1)(s':aL H1 H')(h:Rr X.K H1 H' (λb=>H1 b≠none/\exV RT Y J σ σV (dN vs) (bQ vs) b) r u) :
 Ro X.K RT Y J σ σV H H' (dC vs r) u:=by
 obtain⟨d,fr,pa⟩:=r;have B:∀b,exV RT Y J σ σV (dC vs (d,fr,pa)).pa (dC vs (d,fr,pa)).al b->(H1 b≠none/\exV RT Y J σ σV (dN vs) (bQ vs) b)\/(pa=false/\H1 b≠none):=by
  intro b z;have tk:=exV.trk L z;cases pa with
  | true=>exact .inl ⟨tk,z⟩|false=>exact .inr ⟨rfl,tk⟩
 have G:(dC vs (d,fr,pa)).fr=fr:=by unfold dC;split <;> rfl
 have I:(dC vs (d,fr,pa)).d=d:=by unfold dC;split <;> rfl
 refine⟨s1.trans s',?_⟩;rw[G];unfold Rr at h;cases fr with
 | true=>rw[if_pos rfl] at h ⊢;obtain⟨a,xs,ds,M,U,Z,e4,rr⟩:=h;exact⟨a,xs,ds,M,by rw[I];exact U,s1.free Z,e4,rr.weak λb z=>z.elim (λz=>.inl z) λz=>.inr (B b z)⟩|false=>rw[if_neg bN] at h ⊢;unfold Rv;rw[I];exact Rep.weak h B
theorem aEN(S:Sx X.K RT Y J σ σV H)(h:RE (ev P (call P n) σ (.call f cs)) (Wn X RT Y J σ σV H Q)) :
 WA X P n RT Y J σ cs σV H λus H1=>spF X.K P n f (us++[]) H1 (λv H'=>Tk X.K H'->Q v H') E0:=by refine⟨S,(RE.bind' (h)).mono λvs G us H1 M s1 I=>?_⟩;exact⟨vs.map (·.d),λb=>H1 b≠none/\exV RT Y J σ σV (dN vs) (bQ vs) b,λa z=>z.1,by rw[Bd];exact I.all.weak λa z=>z.2,(RE.bind' G).mono λr B u H' t' L rr _=>((B) u H' t' (vD (S.grow s1 M) s1 L rr))⟩
theorem aKo(M:Mc X P Γ n){es:List A6}(hf:Γ.fns[f]? = some x)(Z:dD Γ x=true)(ho:dA x=true)(ha:PA X es (WA X P n RT Y J σ cs))(hp:es.all aQ=true)(hc:chkEs Γ cs es=true) :
 PE X (.Call (.Name x p) es [] pos) (WE X P n RT Y J σ (.call f cs)):=by
 obtain⟨fa,fd,ps,G,I,L,U⟩:=M.md.fn f x hf;cases es with
 | cons e es=>
  have B:aQ e=true/\es.all aQ=true:=by simpa using hp
  exact(aHh U M.room (M.gl Z) G I L .nil aBx ha (aY ho) (aC B.1) (cH B.2)).imp λσV H Q t ⟨S,h⟩=>aEN S h
 | nil=>
  cases cs with
  | cons _ _=>cases hc|nil=>exact(aEo U M.room (M.gl Z) G I L .nil aBx (aY ho)).imp λσV H Q t ⟨S,h⟩=>((aEN S h).2 [] H t (aL.refl H) rfl)
theorem yD{K:Fg}{H:Hp}{ex:Addr->Prop}{f:Str}{d:D}:∀{ds:List D} {fs:List (Str×V)},RepF K H ex ds fs->aAq f ds=some d->∃v,fs.lookup f=some v/\Rep K H ex d v
 | [],_,_,e=>by cases e|.str g::d'::r,fs,h,e=>by obtain⟨x,M,rfl,B,G⟩:=h;have e:(if g=f then some d' else aAq f r)=some d:=e;by_cases c:g=f;rw[if_pos c] at e;cases e;exact⟨x,by rw[c];simp[BN],B⟩;rw[if_neg c] at e;obtain⟨v,I,L⟩:=yD G e;refine⟨v,?_,L⟩;rw[BN,show(f==g)=false from beq_eq_false_iff_ne.mpr λz=>c z.symm];exact I|[.str _],_,h,_=>h.elim|.non::_,_,h,_=>h.elim|.bl _::_,_,h,_=>h.elim|.int _::_,_,h,_=>h.elim|.tup _::_,_,h,_=>h.elim|.lst _::_,_,h,_=>h.elim|.err _ _::_,_,h,_=>h.elim
theorem sX{K:Fg}{H:Hp}{ex:Addr->Prop}{f:Str}:∀{ds:List D} {fs:List (Str×V)},RepF K H ex ds fs->aAq f ds=none->fs.lookup f=none
 | [],_,h,_=>by rw[show _=[] from h];rfl|.str g::d'::r,fs,h,e=>by obtain⟨x,I,rfl,G,B⟩:=h;have e:(if g=f then some d' else aAq f r)=none:=e;by_cases c:g=f;rw[if_pos c] at e;cases e;rw[if_neg c] at e;rw[BN,show(f==g)=false from beq_eq_false_iff_ne.mpr λz=>c z.symm];exact sX B e|[.str _],_,h,_=>h.elim|.non::_,_,h,_=>h.elim|.bl _::_,_,h,_=>h.elim|.int _::_,_,h,_=>h.elim|.tup _::_,_,h,_=>h.elim|.lst _::_,_,h,_=>h.elim|.err _ _::_,_,h,_=>h.elim
theorem aEO{P:Pg}(h:aHv P d=some (k,ds)):∃n c,d=.err n (.str c::ds)/\P.objs.lookup c=some k:=by
 unfold aHv at h;split at h;rename_i n c ds';cases q:P.objs.lookup c with
 | none=>rw[q] at h;cases h|some B=>rw[q] at h;cases h;exact⟨n,c,rfl,q⟩
 cases h
theorem aNo(M:Mc X P Γ n)(ha:PE X (.Name x p) (WE X P n RT Y J σ (.v j))):PE X (.Attribute (.Name x p) f pos) (WE X P n RT Y J σ (.fld j f)):=by refine(aJQ ha rfl).imp λσV H Q tk ⟨S,h⟩=>?_;refine wE.one S (RE.bind' (h)) λy u H1 B t1 S1 U=>?_;unfold uX at B;split at B;rename_i k ds ho;obtain⟨hf,B⟩:=B.iff;obtain⟨no,c,ed,hc⟩:=aEO ho;split at B;rename_i d hd;have rv:Rep X.K H1 (exV RT Y J σ σV y.pa y.al) y.d u:=U.rv S;rw[ed] at rv;obtain⟨a,C,dx,fs,Z,q,_,hn,rf⟩:=rv;obtain⟨C',G,I,L,_⟩:=M.md.obj c k hc;rw[hn] at G;cases G;obtain⟨v,q1,q2⟩:=yD rf hd;exact⟨a,C,dx,fs,v,Z,q,I,L f hf,q1,λt'=>(B) v H1 t' ((Rv.ofSub q2).from U.1)⟩;exact B.elim;exact B.elim
theorem aDm{p B pos:Du}{es:List A6}(G:IW (es.length+([]:List EK).length) (Cd pos (AA es env)) (E3 pos (Df [] env))=true)(I:(B.endLine==pos.line)=true) :
 Ch (.Call (.Attribute (.Name x p) m B) es [] pos) env=(do
  let ov<-Ch (.Name x p) env
  GH B.atName
  let (f,first)<-Ft [ov] (HB ov m (do return (<-importBound (.Name x p) env).getD true))
  callWith pos f first (Cd pos (AA es env)) (E3 pos (Df [] env))):=by
 rw[arm_eval_Call];show(do
  let ov<-Ch (.Name x p) env
  GH B.atName
  methodCall (.Name x p) m B pos env ov (es.length+([]:List EK).length) (Cd pos (AA es env)) (E3 pos (Df [] env)))=_
 unfold methodCall;rw[G];unfold calleeOf methodCallPos;simp[I]
theorem aNp(M:Mc X P Γ n){p ap:Du}(Z:PE X (.Name x p) (WE X P n RT Y J σ (.v j)))(hs:PA X (e::es) (WA X P n RT Y J σ cs))(hp:(e::es).all aQ=true)(q4:(e::es).length<30)(hl:(ap.endLine==pos.line)=true) :
 PE X (.Call (.Attribute (.Name x p) m ap) (e::es) [] pos) (WE X P n RT Y J σ (.mcl j m cs)):=by
 intro pins s σV H Q I hw;obtain⟨S,h⟩:=hw;have h:=RE.bind' (show RE (ev P (call P n) σ (.v j) >>= λx=>evs P (call P n) σ cs >>= λvs=>(match iF P m x.d with
  | some f=>call P n f (x.d::vs.map (·.d)) >>= λr=>R.ok (dC (x::vs) r)|none=>.bad)) _ from h)
 obtain⟨y,ey,h⟩:=h.eq;have h:=RE.bind' h;cases B:iF P m y.d with
 | none=>rw[B] at h;obtain⟨_,_,z⟩:=h.eq;exact z.elim|some f=>
  rw[B] at h;unfold iF at B;split at B;rename_i k ds ho;split at B
  . rename_i q2;obtain⟨no,c,ed,hc⟩:=aEO ho;obtain⟨C,hn,q0,_,q1⟩:=M.md.obj c k hc;obtain⟨fa,fd,ps,h1,h3,h4⟩:=q1 m f B;have U:aQ e=true/\es.all aQ=true:=by simpa using hp
    refine aHi Z q0 h1 h4 M.room h3 .nil aBx hs (aC U.1) (cH U.2) (aDm ?few hl) pins s σV H Q I ?_
    case few=>
     have Z:(Cd pos (AA (e::es) X.env)).all (λx=>!x.1)=true:=by rw[AB];intro y hy;have:=cH (pos:=pos) (env:=X.env) hp;rw[GI] at this;simpa using this y hy
     unfold IW;rw[Z,show E3 pos (Df [] X.env)=[] from rfl];show(true&&decide ((e::es).length+0+0<30))=true;rw[Av (by omega)];rfl
    refine wE.one (p:=λz=>z=y) S (by rw[ey];rfl) λG u H1 hy t1 S1 r1=>?_;subst hy;have rv:Rep X.K H1 (exV RT Y J σ σV G.pa G.al) G.d u:=r1.rv S;have q3:=rv;rw[ed] at rv;obtain⟨a,C',dx,fs,e1,q,_,L,rf⟩:=rv;rw[hn] at L;cases L;refine⟨a,dx,fs,e1,q,sX rf q2,S1,h.mono λvs hv us H2 t2 s2 r2=>?_⟩;have rs:Rvs X.K RT Y J σ σV H2 (G::vs) (u::us):=⟨u,us,rfl,Rv.grow q3 s2,r2⟩
    exact⟨G.d::vs.map (·.d),λb=>H2 b≠none/\exV RT Y J σ σV (dN (G::vs)) (bQ (G::vs)) b,λa z=>z.1,by rw[Bd];exact rs.all.weak λa z=>z.2,(RE.bind' hv).mono λr hr u' H' t' s' rr=>((hr) u' H' t' (vD (S1.grow s2 t2) (r1.1.trans s2) s' rr))⟩
  cases B;cases B
theorem aBI{P:Pg}{k:List Str×List (Str×Nat)}(B:P.objs[j]? = some (c,k))(G:k.2.lookup ("__init__" : Str)=some fi) :
 call P (n+1) (P.fns.length+j) ds=(call P n fi (.err 0 [.int 0,.str c]::ds) >>= λr=>R.ok (r.1,false,true)):=by show mS P (call P n) (P.fns.length+j) ds=_;unfold mS;rw[AR (CF _ _),AN,B];show(match k.2.lookup ("__init__" : Str) with|some fi=>_|none=>_)=_;rw[G]
theorem aPZ(M:Mc X P Γ n)(hf:Γ.obs[j]? = some x)(hg:dD Γ x=true)(ho:dA x=true)(ha:PA X (e::es) (WA X P n RT Y J σ cs))(hp:(e::es).all aQ=true) :
 PE X (.Call (.Name x p) (e::es) [] pos) (WE X P n RT Y J σ (.mk j cs)):=by
 obtain⟨k,C,fi,fa,fd,ps,h1,h2,h3,h4,h5,h6,h7⟩:=M.md.mkr j x hf;have L:aQ e=true/\es.all aQ=true:=by simpa using hp
 cases n with
 | zero=>intro pins s σV H Q I hw;obtain⟨S,h⟩:=hw;obtain⟨_,_,z⟩:=(RE.bind' (h)).eq;exact z.elim|succ n=>
  refine(aHj h5 (h7 n rfl) M.room (M.gl hg) h4 h6 .nil aBx ha (aY ho) (aC L.1) (cH L.2)).imp λσV H Q tk ⟨S,h⟩=>?_;refine⟨S,(RE.bind' (h)).mono λvs G us H1 t1 s1 r1 q dx B U q0=>?_⟩;have G:=RE.bind' G;rw[aBI h1 h3] at G;obtain⟨r,er,G⟩:=(RE.bind' G).eq;have s2:aL H1 (upd (upd H1 dx (.own q)) q (.ins C dx [])):=λa o e=>by rw[aJ (aU e B),aJ (aU e U)];exact e
  refine⟨C,q,dx,vs.map (·.d),us,r,by rw[Bd],by rw[lM];exact r1.length,aP,h2,er,λt2=>⟨λb=>(H1 b≠none/\exV RT Y J σ σV (dN vs) (bQ vs) b)\/b=q,λa z=>?_,.inr rfl,?_,λH' t' s' rr=>⟨rfl,λ_=>G _ H' t' ?_⟩⟩⟩;rcases z with z|z;cases e:H1 a with
  | none=>exact absurd e z.1|some o=>rw[s2 a o e];simp
  rw[z,aP];simp;have nq:∀{a:Addr} {ys:List V},SqL X.K H1 a ys->a≠q:=λ{a ys} z w=>by
   subst w;rcases z with(z|⟨o,z⟩)|⟨o,q1,n',z,_⟩
   rw[B] at z;cases z;rw[B] at z;cases z;rw[t2 a (by rw[aP];simp)] at z;cases z
  refine Reps.imp (λ_ _ z=>aL.seqT s2 z) (λa ys Z z=>⟨λw=>w.elim (λw=>Z w.2) (nq z),s2.seq z⟩) (λ_ _ z=>s2 _ _ z) (λa o _ Z z=>⟨λw=>w.elim (λw=>Z w.2) (aU z B),s2 _ _ z⟩) _ _ r1.all;have s3:aL H1 H':=λa o e=>s' a o (s2 a o e) (aU e B);refine vD (S.grow s1 t1) s1 s3 ?_;show(if false=true then _ else Rep X.K H' (λb=>(H1 b≠none/\exV RT Y J σ σV (dN vs) (bQ vs) b)\/(true=false/\H1 b≠none)) r.1 (.ref q));rw[if_neg bN];refine rr.weak λb z=>?_;rcases z with z|z;exact⟨.inl z,λw=>z.1 (by rw[w];exact B)⟩;cases z.1
theorem mX{K:Fg}{H:Hp}{ex:Addr->Prop}:∀{ds:List D} {xs:TKV},RepM K H ex ds xs->∀x∈xs,SqT K H x.2.1 (x.1.map V.int)
 | [],_,h,x,B=>by rw[show _=[] from h] at B;cases B|.tup is::d::ds,_,h,x,B=>by obtain⟨js,b,u,v,r,rfl,L,G,M,U,I⟩:=h;rcases Ax.mp B with z|z;subst z;exact G;exact mX I x z
 | [.tup _],_,h,_,_=>h.elim|.non::_,_,h,_,_=>h.elim|.bl _::_,_,h,_,_=>h.elim|.int _::_,_,h,_,_=>h.elim|.str _::_,_,h,_,_=>h.elim|.lst _::_,_,h,_,_=>h.elim|.err _ _::_,_,h,_,_=>h.elim
theorem kK:∀js:List Int,bG (js.map D.int)=some js
 | []=>rfl|j::js=>by rw[mC,bG,kK js]
theorem yE{K:Fg}{H:Hp}{ex:Addr->Prop}{js:List Int}:∀{ds:List D} {xs:TKV},RepM K H ex ds xs->(∀p,Et xs js=some p->∃d v,hJ js ds=some d/\bB v p.2/\Rep K H ex d v)/\(Et xs js=none->hJ js ds=none)
 | [],_,h=>by rw[show _=[] from h];exact⟨λp e=>(by cases e),λ_=>rfl⟩|.tup is::d::ds,_,h=>by obtain⟨ks,b,u,v,r,rfl,rfl,Z,L,M,U⟩:=h;obtain⟨G,I⟩:=yE (js:=js) U;unfold Et at G I ⊢;rw[CT,hJ,kK];by_cases B:ks=js;subst B;simp only[Kc,if_true];refine⟨λp e=>?_,λe=>by cases e⟩;cases e;exact⟨d,v,rfl,L,M⟩;rw[if_neg (by simpa using B)];simp only[Aw B];exact⟨G,I⟩|[.tup _],_,h=>h.elim|.non::_,_,h=>h.elim|.bl _::_,_,h=>h.elim|.int _::_,_,h=>h.elim|.str _::_,_,h=>h.elim|.lst _::_,_,h=>h.elim|.err _ _::_,_,h=>h.elim
theorem aNq(M:Mc X P Γ n){ap lp:Du}(hm:m=("get" : Str))(hl:(ap.endLine==pos.line)=true)(hb:aMZ eo=true)(hO:PE X eo (WE X P n RT Y J σ o))(ha:PE X ea (WE X P n RT Y J σ k))(G:aQ ea=true) :
 PE X (.Call (.Attribute eo m ap) [ea,.List [] lp] [] pos) (WE X P n RT Y J σ (.dgl o k)):=by subst hm;refine(aHD (by have:=M.units;omega) hO (cZ ha (cZ (aAi eP) eP rfl) (aC G)) (by cases eo <;> first|rfl|cases hb) (by rw[aC G];rfl) hl (aC G) rfl).imp λσV H Q t ⟨S,h⟩=>?_;refine wE.one S (RE.bind' (h)) λx u H1 B t1 S1 Z=>?_;obtain⟨y,ey,B⟩:=(RE.bind' B).eq;split at B;rename_i c ds is d1 d2;split at B;rename_i js hj;have rv:Rep X.K H1 (exV RT Y J σ σV x.pa x.al) x.d u:=Z.rv S;rw[d1] at rv;obtain⟨a,xs,e1,q,nx,rm⟩:=rv;refine⟨a,xs,e1,q,mX rm,?_⟩;refine wE.one (p:=λL=>L=y) S1 (by rw[ey];rfl) λL uk U hy t2 S2 r2=>?_;subst hy;refine⟨A9 _,λp G=>?_⟩;have s3:aL U (upd U p (.lst [])):=aL.new G;have s:=r2.1.trans s3;have rk:Rep X.K U (exV RT Y J σ σV L.pa L.al) L.d uk:=r2.rv S1;rw[d2] at rk;obtain⟨b,zs,rfl,qb,rz⟩:=rk;have I:=iG hj rz;subst I;obtain⟨g1,g2⟩:=yE rm;refine⟨b,js,.ref p,rfl,s _ _ q,λz hz=>aL.seqT s (mX rm z hz),aL.seqT s3 qb,λz I=>?_,λI t'=>?_⟩;obtain⟨d,v,l1,l2,l3⟩:=g1 z I;rw[l1] at B;exact⟨v,l2,λt'=>(B) v _ t' ((Rv.ofSub (l3.grow s)).from (Z.1.trans s))⟩;rw[g2 I] at B;refine(B) _ _ t' (Ro.plain (Z.1.trans s) rfl ⟨p,[],rfl,SqL.of aP,λz=>exV.trk S2 z G,rfl⟩);exact B.elim;exact B.elim
theorem sY(B:fX c=some cv)(G:dJ Γ c=some x):BC x=some cv/\x∈bltNames/\x ≠ "__name__" := by cases c <;> cases B <;> cases G <;> exact⟨by kernel_rfl,by decide +kernel,by decide +kernel⟩
theorem aNr(M:Mc X P Γ n)(hf:f=("isinstance" : Str))(hg:dD Γ f=true)(hc:fX c=some cv)(hx:dJ Γ c=some x)(G:dD Γ x=true)(U:dA x=true)
 (ha:PE X ea (WE X P n RT Y J σ a)) (hp:aQ ea=true):PE X (.Call (.Name f pf) [ea,.Name x py] [] pos) (WE X P n RT Y J σ (.isi a [c])):=by subst hf;intro pins s σV H Q I hw;obtain⟨S,h⟩:=hw;obtain⟨b1,b2,b3⟩:=sY hc hx;refine Bq (dY I (M.gl hg) (M.md.blt _ (by decide +kernel)) (show BC "isinstance" = some (.builtin "isinstance") by kernel_rfl) ?_ (by decide +kernel) (by decide +kernel));refine B4 ?_ (aC hp) rfl;rw[aC hp];refine Cq (thn (ha pins s σV H (λu H1=>∃y k,Rv X.K RT Y J σ σV H1 y u/\isI [c] P y.d=some k/\Q (.bl k) H1) I (wE.one S (RE.bind' (h)) λy u H1 B t1 S1 r1=>?_)) λv s1 ⟨u,H1,Z,ru,y,k,B,L,q⟩=>?_);split at B;rename_i k L;exact⟨y,k,r1.rv S,L,(B) _ _ t1 (Ro.cl r1.1 rfl)⟩;exact B.elim;show As _ _ (IA ((false,Ch (.Name x py) X.env)::Cd pos (AA [] X.env))) _ _ s1;exact Cq (dY Z (M.gl G) (M.md.blt _ b2) b1 (DF (aDk P Z ru B hc L q)) b3 (aY U))
theorem aJc(M:Mc X P Γ n)(Z:aAr c=true)(B:sV Γ c y=true):∃T:String,fX c=some (.type T)/\aQ y=true/\PE X y (tC (.ty T)):=by
 unfold sV at B;split at B;rename_i x p;simp only[bA] at B;obtain⟨⟨q1,q2⟩,q3⟩:=B;have G:∃T:String,fX c=some (.type T):=by cases c <;> first|exact⟨_,rfl⟩|cases Z
 obtain⟨T,G⟩:=G;obtain⟨I,L,U⟩:=sY G (eq_of_beq q1);exact⟨T,G,rfl,aGU (M.gl q2) (M.md.blt _ L) I rfl U (aY q3)⟩;cases B
theorem aKp(M:Mc X P Γ n){a:E}{c c':Cl}{T T':String}{f:Str}{pf py:Du}{ky:Nat}{ea u v:A6}(hf:f=("isinstance" : Str))(hg:dD Γ f=true)(hc:fX c=some (.type T))(q0:fX c'=some (.type T'))
 (ha:PE X ea (WE X P n RT Y J σ a)) (L:aQ ea=true) (hu:PE X u (tC (.ty T))) (hv:PE X v (tC (.ty T'))) (q1:aQ u=true) (q2:aQ v=true):PE X (.Call (.Name f pf) [ea,.Tuple [u,v] ky py] [] pos) (WE X P n RT Y J σ (.isi a [c,c'])):=by
 subst hf;intro pins s σV H Q I hw;obtain⟨S,h⟩:=hw;refine Bq (dY I (M.gl hg) (M.md.blt _ (by decide +kernel)) (show BC "isinstance" = some (.builtin "isinstance") by kernel_rfl) ?_ (by decide +kernel) (by decide +kernel));refine B4 ?_ (aC L) rfl;rw[aC L];refine Cq (thn (ha pins s σV H (λu H1=>∃y k,Rv X.K RT Y J σ σV H1 y u/\isI [c,c'] P y.d=some k/\∀B,Tk X.K B->aL H1 B->Q (.bl k) B) I (wE.one S (RE.bind' (h)) λy u H1 G t1 S1 U=>?_)) λw s1 ⟨u1,H1,I1,ru,y,k,G,hk,q⟩=>?_);split at G;rename_i k hk;exact⟨y,k,U.rv S,hk,λB t2 s2=>(G) _ _ t2 (Ro.cl (U.1.trans s2) rfl)⟩;exact G.elim;show As _ _ (IA ((false,Ch (.Tuple [u,v] ky py) X.env)::Cd pos (AA [] X.env))) _ _ s1;refine Cq (thn ((aEn (cZ hu (cZ hv eP (aC q2)) (aC q1))) pins s1 σV H1 (λv B=>aL H1 B/\∃p,v=.ref p/\SqT X.K B p [.ty T,.ty T']) I1 ⟨by rw[AY];show 2<=_;decide,λp L=>⟨aL.new L,p,rfl,SqT.of aP⟩⟩) λcv s2 ⟨v2,B,Z,r2,sm,p,e2,hq⟩=>DF ?_);subst e2;cases r2;obtain⟨q3,v3,t3,_⟩:=Z.tuple hq;obtain⟨o,h1,h2,nn,h3⟩:=t3;obtain⟨oc,od,q4,osl⟩:=o;dsimp only at h2 h3;subst h2 h3;cases v3 with
 | cons a1 U=>
  cases U with
  | cons a2 r2=>cases r2;cases a1;cases a2;exact aHA P Z ru (Rv.grow G sm) hc q0 h1 hk (q B Z.tk sm)
end
section
variable {X:Cx} {P:Pg} {Γ:Ct} {n:Nat} {RT Y J:Addr->Prop} {σ:Sg} {pos:Du}
theorem pO(B:aQ ec=true):J6 [o,o'] [eb,ec]=false:=iI B
theorem aKq(M:Mc X P Γ n)(ha:PE X ea (WE X P n RT Y J σ a))(hb:PE X eb (WE X P n RT Y J σ b))(hc:PE X ec (WE X P n RT Y J σ c))(hq:aQ ec=true) :
 PE X (.Compare ea [o,o'] [eb,ec] pos) (WE X P n RT Y J σ (.cmp2 o o' a b c)):=by refine(aEh (fJ (RT:=RT) (Y:=Y) (J:=J) M o) (fJ (RT:=RT) (Y:=Y) (J:=J) M o') ha hb hc (pO hq)).imp λσV H Q t ⟨S,h⟩=>?_;refine wE.two S ((RE.bind' (h)).mono λx G=>RE.bind' G) λx y ux uy H2 B t2 s2 S2 G U=>?_;split at B;rename_i I;refine⟨σ,σV,x,y,true,G,U,I,true,rfl,?_⟩;rw[if_pos rfl];refine wE.one S2 (RE.bind' B) λz u H3 hz t3 S3 Z=>?_;split at hz;rename_i k' L;exact⟨σ,σV,y,z,k',U.grow Z.1,Z.rv S2,L,λt'=>hz _ _ t' (Ro.cl (s2.trans Z.1) rfl)⟩;exact hz.elim;rename_i I;refine⟨σ,σV,x,y,false,G,U,I,false,rfl,?_⟩;rw[if_neg bN];exact λt'=>B _ _ t' (Ro.cl s2 rfl);exact B.elim
theorem aKr(M:Mc X P Γ n)(ha:PE X ea (WE X P n RT Y J σ a))(hb:PE X eb (WE X P n RT Y J σ b))(hc:PE X ec (WE X P n RT Y J σ c))(hq:aQ ec=true) :
 PT X (.Compare ea [o,o'] [eb,ec] pos) (WT X P n RT Y J σ (.cmp2 o o' a b c)):=by refine(aEi (fJ (RT:=RT) (Y:=Y) (J:=J) M o) (fJ (RT:=RT) (Y:=Y) (J:=J) M o') ha hb hc (pO hq)).imp λσV H Q t ⟨S,h⟩=>?_;refine wE.two S ((RE.bind' (h)).mono λx G=>RE.bind' G) λx y ux uy H2 B t2 s2 S2 G U=>?_;split at B;rename_i I;refine⟨σ,σV,x,y,true,G,U,I,true,rfl,?_⟩;rw[if_pos rfl];refine wE.one S2 (RE.bind' B) λz u H3 hz t3 S3 Z=>?_;split at hz;rename_i k' L;exact⟨σ,σV,y,z,k',U.grow Z.1,Z.rv S2,L,k',rfl,λt'=>hz _ t' (s2.trans Z.1)⟩;exact hz.elim;rename_i I;refine⟨σ,σV,x,y,false,G,U,I,false,rfl,?_⟩;rw[if_neg bN];exact⟨false,rfl,λt'=>B _ t' s2⟩;exact B.elim
theorem fZ(B:PT X ea (WT X P n RT Y J σ a)):PT X (.UnaryOp .Not ea pos) (WT X P n RT Y J σ (.nt a)):=by exact(aJB B).imp λσV H Q t ⟨S,h⟩=>(⟨S,(RE.bind' (h)).mono λk G H1 I s1 t'=>(G) _ t' s1⟩)
theorem aEP(h:PW X e t)(f:∀σV H Q,Tk X.K H->t' σV H Q->t σV H λv H'=>Tk X.K H'->Q v H'):PW X e t':=λL pins s σV H Q I G=>thn (h L pins s σV H _ I (f σV H Q I.tk G)) λk M ⟨H',B,q⟩=>⟨H',B,q B.tk⟩
theorem aNs(I:PT X ea (WT X P n RT Y J σ a))(L:PW X (.BoolOp .And (G::r) pos) (WT X P n RT Y J σ b)):PW X (.BoolOp .And (ea::G::r) pos) (WT X P n RT Y J σ (.an a b)):=by
 refine aEP (aJA I L) λσV H Q t ⟨S,h⟩=>?_;refine⟨S,(RE.bind' (h)).mono λk B H1 Z s1=>?_⟩;cases k with
 | true=>rw[if_pos rfl] at B ⊢;exact⟨S.grow s1 Z,B.mono λv M H' t U _=>M H' t (s1.trans U)⟩|false=>rw[if_neg bN] at B ⊢;exact λt'=>(B) _ t' s1
theorem aJd(I:PT X ea (WT X P n RT Y J σ a))(L:PW X (.BoolOp .Or (G::r) pos) (WT X P n RT Y J σ b)):PW X (.BoolOp .Or (ea::G::r) pos) (WT X P n RT Y J σ (.orr a b)):=by
 refine aEP (aMq I L) λσV H Q t ⟨S,h⟩=>?_;refine⟨S,(RE.bind' (h)).mono λk B H1 Z s1=>?_⟩;cases k with
 | true=>rw[if_pos rfl] at B ⊢;exact λt'=>(B) _ t' s1|false=>rw[if_neg bN] at B ⊢;exact⟨S.grow s1 Z,B.mono λv M H' t U _=>M H' t (s1.trans U)⟩
noncomputable def wO(X:Cx)(P:Pg)(n:Nat)(RT Y J:Addr->Prop)(σ:Sg)(cs:Es):TO:=λσV H Q=>Sx X.K RT Y J σ σV H/\RE (evs P (call P n) σ cs) λvs=>(vs=[]/\∀H',Tk X.K H'->aL H H'->Q none H')\/∃v i,vs=[v]/\v.d=.int i/\∀H',Tk X.K H'->aL H H'->Q (some i) H'
theorem aEQ(h:PO X e t)(f:∀σV H Q,Tk X.K H->t' σV H Q->t σV H λv H'=>Tk X.K H'->Q v H'):PO X e t':=λpins s σV H Q I G=>thn (h pins s σV H _ I (f σV H Q I.tk G)) λu L ⟨o,H',B,r,q⟩=>⟨o,H',B,r,q B.tk⟩
theorem aNt:PO X none (wO X P n RT Y J σ .nil):=aEQ aHl λσV H Q t ⟨S,h⟩ t'=>by
 rcases(h) with⟨_,q⟩|⟨v,i,e,_⟩
 exact q H t' (aL.refl H);cases e
theorem aNu(G:PE X e (WE X P n RT Y J σ c)):PO X (some e) (wO X P n RT Y J σ (.cons c .nil)):=by
 refine aEQ (aHm G) λσV H Q t ⟨S,h⟩=>?_;refine wE.one S (RE.bind' (h)) λx u H1 I M L B=>?_;rcases(I) with⟨e,_⟩|⟨v,i,e,hd,q⟩
 cases e;cases e;exact⟨i,(B.rv S).int hd,λt'=>q _ t' B.1⟩
theorem aNv{a:E}{lo hi:Es}{ea:A6}{el eh:Option A6}{p2:Du}(ha:PE X ea (WE X P n RT Y J σ a))(I:PO X el (wO X P n RT Y J σ lo))(B:PO X eh (wO X P n RT Y J σ hi)) :
 PE X (.Subscript ea (.Slice el eh none p2) pos) (WE X P n RT Y J σ (.sli a lo hi)):=by
 refine(aEr (aKm) ha I B).imp λσV H Q t ⟨S,h⟩=>?_;have h:=RE.bind' (h);refine wE.one S h λx u H1 hx t1 S1 r1=>?_;refine⟨S1,(RE.bind' hx).mono λl I=>?_⟩;have I:=RE.bind' I;have up:∀(L:Option Int) (M:Hp),Tk X.K M->aL H1 M->(RE (evs P (call P n) σ hi) λh=>(h=[]/\RE (iE x L none) (Wn X RT Y J σ σV H Q))\/∃v i,h=[v]/\v.d=.int i/\RE (iE x L (some i)) (Wn X RT Y J σ σV H Q)) ->
  wO X P n RT Y J σ hi σV M λZ G=>aEt X.K u L Z G (λv H'=>Tk X.K H'->Q v H')\/aEs X.K u L Z G (λv H'=>Tk X.K H'->Q v H')\/yA X.K u L Z G (λv H'=>Tk X.K H'->Q v H')\/aEG u L Z G (λv H'=>Tk X.K H'->Q v H'):=by
  intro L M t2 s2 B;refine⟨S1.grow s2 t2,B.mono λZ hq=>?_⟩;have q0:∀(U:Option Int) (G:Hp),Tk X.K G->aL M G->RE (iE x L U) (Wn X RT Y J σ σV H Q) ->
   aEt X.K u L U G (λv H'=>Tk X.K H'->Q v H')\/aEs X.K u L U G (λv H'=>Tk X.K H'->Q v H')\/yA X.K u L U G (λv H'=>Tk X.K H'->Q v H')\/aEG u L U G (λv H'=>Tk X.K H'->Q v H'):=λU G t3 s3 hs=>
   aDh (S1.grow (s2.trans s3) t3) t3 ((r1.rv S).grow (s2.trans s3)) (hs.mono λv Z u H' t r=>Z u H' t (r.from (r1.1.trans (s2.trans s3))))
  rcases hq with⟨e,hs⟩|⟨v,i,e,hd,hs⟩
  exact .inl ⟨e,λG t3 s3=>q0 none G t3 s3 hs⟩;exact .inr ⟨v,i,e,hd,λG t3 s3=>q0 (some i) G t3 s3 hs⟩
 match l,I with
 | [],I=>
  refine .inl ⟨rfl,λM t2 s2=>up none M t2 s2 (I.mono λh B=>?_)⟩
  match h,B with
  | [],B=>exact .inl ⟨rfl,B⟩|[h],B=>have B:RE (match h.d with|.int h=>R.iff (bE h) (iE x none (some h))|_=>.bad) _:=B;split at B;rename_i i hd;exact .inr ⟨h,i,rfl,hd,B.iff.2⟩;exact B.elim|_::_::_,B=>exact B.elim
 | [l],I=>
  have hd:∃i,l.d=.int i:=by
   obtain⟨h,_,B⟩:=I.eq
   match h,B with
   | [],B=>have B:RE (match l.d with|.int l=>R.iff (bE l) (iE x (some l) none)|_=>.bad) _:=B;split at B;rename_i i hd;exact⟨i,hd⟩;exact B.elim|[h],B=>have B:RE (match l.d,h.d with|.int l,.int h=>R.iff (bE l&&bE h) (iE x (some l) (some h))|_,_=>.bad) _:=B;split at B;grind;exact B.elim|_::_::_,B=>exact B.elim
  obtain⟨i,hd⟩:=hd;refine .inr ⟨l,i,rfl,hd,λM t2 s2=>up (some i) M t2 s2 (I.mono λh B=>?_)⟩
  match h,B with
  | [],B=>have B:RE (match l.d with|.int l=>R.iff (bE l) (iE x (some l) none)|_=>.bad) _:=B;rw[hd] at B;exact .inl ⟨rfl,B.iff.2⟩|[h],B=>have B:RE (match l.d,h.d with|.int l,.int h=>R.iff (bE l&&bE h) (iE x (some l) (some h))|_,_=>.bad) _:=B;rw[hd] at B;split at B;rename_i i' j e1 e2;cases e1;exact .inr ⟨h,j,rfl,e2,B.iff.2⟩;exact B.elim|_::_::_,B=>exact B.elim
 | _::_::_,I=>exact(by
     obtain⟨h,_,B⟩:=I.eq
     match h,B with
     | [],B=>exact B.elim|[_],B=>exact B.elim|_::_::_,B=>exact B.elim)
end
end Hp
namespace L2
open PySem PySem.Spec PyProof.Rows
set_option maxRecDepth 100000
instance:LawfulBEq Key where
 eq_of_beq:=λ{a b} h=>by
  cases a with
  | inl x=>cases b with|inl y=>exact congrArg GD (eq_of_beq (show(x==y)=true from h))|inr y=>cases h
  | inr x=>cases b with|inl y=>cases h|inr y=>exact congrArg BZ (eq_of_beq (show(x==y)=true from h))
 rfl:=λ{a}=>by
  cases a with
  | inl x=>exact(beq_self_eq_true x:(x==x)=true)|inr x=>exact(beq_self_eq_true x:(x==x)=true)
end L2
namespace L2
open PySem PySem.Spec PyProof.Rows
section
variable {X:Cx} {pins:List (Addr×Obj)} {σ:St} {H:Hp} {s:Ad} {h':Heap}
theorem Inv.turnsNew{B:List Addr}{T:Addr}{o:HO}{t':Nat}(I:Inv X pins σ H s)(f:∀b∈B,lG X pins H b)(k:∀b o,b∉B->s.heap.get? b=some o->h'.get? b=some o)(there:∀b∈B,∃o,h'.get? b=some o)
 (Z:s.heap.objs.size<=T) (new:eJ X.prog X.w (upd H T o) h' T o):Inv X pins σ (upd H T o) { s with heap:=h',toks:=t' }:=by
 have M:∀b u,H b=some u->b∉B:=λb u e z=>by rw[(f b z).1] at e;cases e
 have L:=I.hok.fresh Z;refine I.step (λb U=>?_) (λb o _ _ G e _=>k b o G e) (λb o _ _ G e _=>⟨o.slots,k b o G e⟩) (λb o _ e n=>by rw[aJ ((λb o e=>A4 (AC (Aq e) Z)) b o e)];exact n)
  (λb o G e=>⟨o,k b o G e⟩) (λb xs e=>by rw[aJ (aU e L)];exact e) (λb o u e=>by rw[aJ (aU e L)];exact e) (λb ps e=>⟨#[],by rw[aJ (aU e L),e];simp⟩) (λm hm=>?_) (λb u e=>?_) I.bare
 obtain⟨_,f1,f2,f3,f4,f5⟩:=f b U;exact⟨f3,f1,f4,f5⟩;obtain⟨o,es,ep,ho,r⟩:=hm;exact⟨o,es,ep,k _ o (λz=>(f _ z).2.1 rfl) ho,r⟩;by_cases U:b=T;subst U;rw[aP] at e;cases e;exact new;rw[aJ U] at e;refine(I.hok b u e).stay (λc v G q=>k c v ?_ q) (λc q=>by rw[aJ (aU q L)];exact q) λc xs q=>by rw[aJ (aU q L)];exact q
 rcases G with z|z;rw[z];exact M b u e;exact M c _ z
theorem Inv.turns{G:List Addr}{t':Nat}(I:Inv X pins σ H s)(f:∀b∈G,lG X pins H b)(k:∀b o,b∉G->s.heap.get? b=some o->h'.get? b=some o):Inv X pins σ H { s with heap:=h',toks:=t' }:=by
 have L:∀b u,H b=some u->b∉G:=λb u e z=>by rw[(f b z).1] at e;cases e
 refine I.step (λb M=>?_) (λb o _ _ B e _=>k b o B e) (λb o _ _ B e _=>⟨o.slots,k b o B e⟩) (λb o _ e n=>n)
  (λb o B e=>⟨o,k b o B e⟩) (λb xs e=>e) (λb o u e=>e) (λb ps e=>⟨#[],by rw[e];simp⟩) (λm U=>?_) (λb u e=>?_) I.bare
 obtain⟨_,f1,f2,f3,f4,f5⟩:=f b M;exact⟨f3,f1,f4,f5⟩;obtain⟨o,es,ep,Z,r⟩:=U;exact⟨o,es,ep,k _ o (λz=>(f _ z).2.1 rfl) Z,r⟩;refine(I.hok b u e).stay (λc v B q=>k c v ?_ q) (λc q=>q) λc xs q=>q;rcases B with z|z;rw[z];exact L b u e;exact L c _ z
theorem Inv.newK(I:Inv X pins σ H s):X.K.lookup s.heap.objs.size=none:=by
 cases q:X.K.lookup s.heap.objs.size with
 | none=>rfl|some o=>exact absurd (Aq (I.bk _ o (I.ok.mod.kin _ o q))) (AX _)
noncomputable def Sq(k:Bool)(K:Ap)(H:Hp)(a:Addr)(xs:List V):Prop:=match k with|true=>SqL K H a xs|false=>SqT K H a xs
noncomputable def eR(k:Bool)(h:Heap)(a:Addr)(its:Array Value):Prop:=match k with|true=>h.IsList a its|false=>h.IsTuple a its
noncomputable def dE(k:Bool)(h:Heap)(it a:Addr)(i:Nat):Prop:=match k with|true=>h.IsListIter it a i|false=>h.IsTupleIter it a i
theorem eR.at{h:Heap}(q:eR k h a its)(e:∀o,h.get? a=some o->h'.get? a=some o):eR k h' a its:=by
 cases k with
 | true=>exact Heap.IsList.at q e|false=>exact Heap.IsTuple.at q e
theorem dE.at{h:Heap}(q:dE k h it a i)(e:∀o,h.get? it=some o->h'.get? it=some o):dE k h' it a i:=by
 cases k with
 | true=>exact Heap.IsListIter.at q e|false=>exact Heap.IsTupleIter.at q e
theorem dE.obj{h:Heap}(q:dE k h it a i):∃o,h.get? it=some o/\∀v,o.data≠.cell v:=by
 cases k with
 | true=>obtain⟨o,e,c,d⟩:=q;exact⟨o,e,λv z=>by rw[d] at z;cases z⟩|false=>obtain⟨o,e,c,d⟩:=q;exact⟨o,e,λv z=>by rw[d] at z;cases z⟩
theorem Inv.sq{xs:List V}(I:Inv X pins σ H s)(h:Sq k X.K H a xs):∃B:List Value,aX xs B/\eR k s.heap a B.toArray/\xs.length<=sizeLine:=by
 cases k with
 | true=>obtain⟨B,r,p,z⟩:=I.list h;exact⟨B,r,p.isList,z⟩|false=>obtain⟨B,r,p,z⟩:=I.tuple h;exact⟨B,r,p,z⟩
theorem Inv.sq_inj(I:Inv X pins σ H s)(h:Sq k X.K H a xs)(h':Sq k X.K H a ys):xs=ys:=by
 cases k with
 | true=>exact I.list_inj h h'|false=>exact I.tuple_inj h h'
theorem Sq.there{K:Ap}(h:Sq k K H a xs):H a≠none\/∃o,K.lookup a=some o:=by
 cases k with
 | true=>
  rcases h with(h|⟨o,h⟩)|⟨o,B,n,q,_⟩
  exact .inl (by rw[h];simp);exact .inl (by rw[h];simp);exact .inr ⟨_,q⟩
 | false=>
  rcases h with(h|⟨o,h⟩)|⟨o,B,n,q,_⟩
  exact .inl (by rw[h];simp);exact .inl (by rw[h];simp);exact .inr ⟨_,q⟩
theorem Inv.sqNe(I:Inv X pins σ H s)(h:Sq k X.K H a xs)(f:lG X pins H b):a≠b:=by
 intro e;subst e;rcases h.there with z|⟨o,z⟩
 exact z f.1;have B:=I.ok.mod.kin a o z;rcases f.2.2.2.1 with q|q;exact I.ok.noex a o B q;exact absurd (AC (Aq B) (AW I.ok.bsz q)) (AX _)
end
section
variable {prog:A2} {w:AL} {A:AT} {E:Value->Ad->Prop} {s:Ad}
theorem lU{items}{Q:Value->Ad->Prop}(B:s.heap.IsTupleIter it l i)
 (U:s.heap.IsTuple l items) (Z:items[i]? = some x)
 (L:∀h',h'.IsTupleIter it l (i+1)->BR it s.heap h'->Q x { s with heap:=h' }) :
 As (A5 prog w) A (AO (.ref it)) Q E s:=by
 obtain⟨o,G,M,hd⟩:=id B;obtain⟨ol,I,_,nl,hdl⟩:=U;unfold AO;refine Aa (AU B.typeIs Cr
  (AZ Cr B.typeIs Ev ?_ (Em _)))
 show As _ _ (Hg (.ref it) 0 >>= _) _ _ s;refine Aa (Bc G hd rfl ?_);show As _ _ (if (AG l==Ca)=true then _ else _) _ _ s;rw[if_neg (show ¬ ((AG l==Ca)=true) from bN)];show As _ _ (Hg (.ref it) 1 >>= _) _ _ s;refine Aa (Bc G hd rfl ?_);show As _ _ (J8 (.ref l) >>= _) _ _ s;refine Aa (B1 I hdl ?_);simp only[BK,Z];refine Aa (IX G hd (by simp) (Ae ⟨x,rfl,Ae (L _ ?_ (B8 ..))⟩));exact⟨_,CU _ G (Obj.isFreed_of_fields (G1 hd _)),(Obj.cls_mapFields ..).trans M,by
  rw[G1 hd];simp[Co]⟩
theorem mY{items}{Q:Value->Ad->Prop}(L:A.handled=none)
 (B:s.heap.IsTupleIter it l i) (U:s.heap.IsTuple l items) (Z:items[i]? = none)
 (M:∀h' e,FR it s.heap h'->(∃o,h'.get? e=some o/\o.cls=.type "StopIteration")->E (.ref e) { s with heap:=h' }) :
 As (A5 prog w) A (AO (.ref it)) Q E s:=by
 obtain⟨o,G,hc,hd⟩:=id B;obtain⟨ol,I,_,nl,hdl⟩:=U;unfold AO;refine Aa (AU B.typeIs Cr
  (AZ Cr B.typeIs Ev ?_ (Em _)))
 show As _ _ (Hg (.ref it) 0 >>= _) _ _ s;refine Aa (Bc G hd rfl ?_);show As _ _ (if (AG l==Ca)=true then _ else _) _ _ s;rw[if_neg (show ¬ ((AG l==Ca)=true) from bN)];show As _ _ (Hg (.ref it) 1 >>= _) _ _ s;refine Aa (Bc G hd rfl ?_);show As _ _ (J8 (.ref l) >>= _) _ _ s;refine Aa (B1 I hdl ?_);simp only[BK,Z];refine Aa (D9 (Aa (IX G hd (by simp) ?_)));show As _ _ (Kw (.type "StopIteration") [] >>= _) _ _ _;refine Aa ?_;simp only[Kw,newTuple];refine Aa (Bm ?_ (by size_fits));refine Aa (Ig (by first|rfl|(simp only[IY];rfl)) ?_);refine Bm ?_ (by size_fits);simp only[raiseNew];refine Aa (Jv ?_)
 first|rw[show A.in1.handled=none from L]|rw[L]
 refine Aa (Ae (Kd ?_));exact M _ _ (((B8 ..).extBut.push _).push _) ⟨_,Al _ rfl,rfl⟩
theorem fK{items:Array Value}{Q:Value->Ad->Prop}(B:dE k s.heap it l i)(I:eR k s.heap l items)(L:items[i]? = some x)
 (G:∀h',dE k h' it l (i+1)->BR it s.heap h'->Q x { s with heap:=h' }):As (A5 prog w) A (AO (.ref it)) Q E s:=by
 cases k with
 | true=>exact wpAny_nextOf_list_item B I L G|false=>exact lU B I L G
theorem kM{items:Array Value}{Q:Value->Ad->Prop}(I:A.handled=none)(B:dE k s.heap it l i)(L:eR k s.heap l items)(M:items[i]? = none)
 (G:∀h' e,FR it s.heap h'->(∃o,h'.get? e=some o/\o.cls=.type "StopIteration")->E (.ref e) { s with heap:=h' }):As (A5 prog w) A (AO (.ref it)) Q E s:=by
 cases k with
 | true=>exact wpAny_nextOf_list_end I B L M G|false=>exact mY I B L M G
theorem aDn{ka kb:Bool}{z TI TO i1 i2 l1 l2:Addr}{k1 k2:Nat}{xs ys:Array Value}{x y a b:Value}{Q:Value->Ad->Prop}(D:Hi z TI TO i1 i2 l1 l2)
 (hz:FS s.heap z TI TO .none) (z2:Dg s.heap TI (.ref i1) (.ref i2)) (z3:Dg s.heap TO a b)
 (h1:dE ka s.heap i1 l1 k1) (h2:dE kb s.heap i2 l2 k2) (z5:eR ka s.heap l1 xs) (z6:eR kb s.heap l2 ys) (hx:xs[k1]? = some x) (hy:ys[k2]? = some y)
 (hQ:∀h',FS h' z TI TO (Co s.heap.objs.size)->Dg h' TO x y->dE ka h' i1 l1 (k1+1)->dE kb h' i2 l2 (k2+1)->Dg h' s.heap.objs.size x y->h'.objs.size=s.heap.objs.size+1 ->
  (∀c o,c≠z->c≠TO->c≠i1->c≠i2->s.heap.get? c=some o->h'.get? c=some o)->Q (.ref s.heap.objs.size) { s with heap:=h' }) :
 As (A5 prog w) A (BI.«zip.__next__» ⟨[.ref z],[]⟩) (λz1 s'=>∃v,z1=.done (.ret v)/\Q v s') E s:=by
 show As _ _ (Hg (.ref z) 2 >>= _) _ _ _;refine Aa (Bc hz rfl rfl ?_);show As _ _ (Hg (.ref z) 3 >>= _) _ _ _;refine Aa (Bc hz rfl rfl ?_);refine Aa (B1 z2 rfl ?_);show As _ _ (Bn (.ref z) >>= _) _ _ _;refine Aa ?_;unfold Bn;refine Aa (Bc hz rfl rfl (Ae ?_));simp only[if_true];refine Aa (D9 ?_);refine Aa (Bc hz rfl rfl ?_);refine Aa (AS hz (by simp) λw8 q4 B=>?_);replace q4:FS w8 z TI TO .ellipsis:=q4;refine Aa ?_;simp only[HN,Io,FB,FT];refine Aa (Aa (EV ?_));show As _ _ (AO (.ref i1) >>= _) _ _ _;refine Aa (fK (h1.at λo e=>B.extBut _ _ D.i1z e) (z5.at λo e=>B.extBut _ _ D.l1z e) hx λz7 w3 L=>Ae ?_);have q7:=L.extBut _ _ D.TOi1 (B.extBut _ _ D.TOz z3);refine Aa (B1 q7 rfl ?_);refine Aa (Ee q7 λw9 Z M=>?_);replace Z:Dg w9 TO x b:=Z;refine Aa (FU (Ae ?_));refine Aa (Aa (EV ?_));show As _ _ (AO (.ref i2) >>= _) _ _ _;refine Aa (fK (h2.at λo e=>M.extBut _ _ D.TOi2.symm (L.extBut _ _ D.i12.symm (B.extBut _ _ D.i2z e)))
  (z6.at λo e=>M.extBut _ _ D.l2TO (L.extBut _ _ D.l2i1 (B.extBut _ _ D.l2z e))) hy λz8 w4 U=>Ae ?_)
 refine Aa (B1 (U.extBut _ _ D.TOi2 Z) rfl ?_);refine Aa (Ee (U.extBut _ _ D.TOi2 Z) λI G q0=>?_);replace G:Dg I TO x y:=G;refine Aa (FU (Ae (Ae ?_)));refine Aa (B1 G rfl ?_);refine Aa (FV ?_);have w6:I.objs.size=s.heap.objs.size:=by rw[q0.1,U.1,M.1,L.1,B.1]
 have q5:=q0.extBut _ _ D.TOz.symm (U.extBut _ _ D.i2z.symm (M.extBut _ _ D.TOz.symm (L.extBut _ _ D.i1z.symm q4)));have w5:∀c o,c≠z->c≠TO->c≠i1->c≠i2->s.heap.get? c=some o->I.get? c=some o:=λc o c1 c2 c3 c4 e=>q0.extBut _ _ c2 (U.extBut _ _ c4 (M.extBut _ _ c2 (L.extBut _ _ c3 (B.extBut _ _ c1 e))));have z4:=Aq G;show As _ _ (Cj (.ref z) (.ref I.objs.size) >>= _) _ _ _;refine Aa ?_;unfold Cj;refine Aa (AS (Ab _ q5) (by simp) λz0 q6 q2=>?_);replace q6:FS z0 z TI TO (Co I.objs.size):=q6;refine AS q6 (by simp) λq8 q1 q3=>?_;replace q1:FS q8 z TI TO (Co I.objs.size):=q1;have up:∀c o,c≠z->I.get? c=some o->q8.get? c=some o:=λc o c1 e=>q3.extBut _ _ c1 (q2.extBut _ _ c1 (Ab _ e));have q9:=q3.extBut _ _ (BS (Aq q5)) (q2.extBut _ _ (BS (Aq q5)) (Al _ rfl));have w7:q8.objs.size=I.objs.size+1:=by rw[q3.1,q2.1,Bl]
 rw[w6] at q1 q9 w7;refine Ae ⟨_,rfl,?_⟩;show Q (.ref I.objs.size) _;rw[w6];exact hQ q8 q1 (up _ _ D.TOz G) ((w3.at λo e=>q0.extBut _ _ D.TOi1.symm (U.extBut _ _ D.i12 (M.extBut _ _ D.TOi1.symm e))).at λo e=>up _ o D.i1z e) ((w4.at λo e=>q0.extBut _ _ D.TOi2.symm e).at λo e=>up _ o D.i2z e) q9 w7 λc o c1 c2 c3 c4 e=>up c o c1 (w5 c o c1 c2 c3 c4 e)
theorem aER{ka kb:Bool}{z TI TO i1 i2 l1 l2:Addr}{k1 k2:Nat}{xs ys:Array Value}{a b:Value}{Q:Fin->Ad->Prop}(hh:A.handled=none)(D:Hi z TI TO i1 i2 l1 l2)
 (hz:FS s.heap z TI TO .none) (w4:Dg s.heap TI (.ref i1) (.ref i2)) (w5:Dg s.heap TO a b)
 (h1:dE ka s.heap i1 l1 k1) (h2:dE kb s.heap i2 l2 k2) (q5:eR ka s.heap l1 xs) (w6:eR kb s.heap l2 ys) (w7:xs[k1]? = none\/ys[k2]? = none)
 (hE:∀h' e,(∀c o,c≠z->c≠TO->c≠i1->c≠i2->s.heap.get? c=some o->h'.get? c=some o)->(∃o,h'.get? e=some o/\o.cls=.type "StopIteration")->E (.ref e) { s with heap:=h' }) :
 As (A5 prog w) A (BI.«zip.__next__» ⟨[.ref z],[]⟩) Q E s:=by
 show As _ _ (Hg (.ref z) 2 >>= _) _ _ _;refine Aa (Bc hz rfl rfl ?_);show As _ _ (Hg (.ref z) 3 >>= _) _ _ _;refine Aa (Bc hz rfl rfl ?_);refine Aa (B1 w4 rfl ?_);show As _ _ (Bn (.ref z) >>= _) _ _ _;refine Aa ?_;unfold Bn;refine Aa (Bc hz rfl rfl (Ae ?_));simp only[if_true];refine Aa (D9 ?_);refine Aa (Bc hz rfl rfl ?_);refine Aa (AS hz (by simp) λq6 L B=>?_);replace L:FS q6 z TI TO .ellipsis:=L;refine Aa ?_;simp only[HN,Io,FB,FT];refine Aa (Aa (EV ?_));show As _ _ (AO (.ref i1) >>= _) _ _ _;cases hx:xs[k1]? with
 | none=>refine Aa (kM hh (h1.at λo e=>B.extBut _ _ D.i1z e) (q5.at λo e=>B.extBut _ _ D.l1z e) hx λq7 e G he=>?_);obtain⟨oe,q2,q1⟩:=he;have q3:=G _ _ D.i1z.symm L;refine AS q3 (by simp) λq0 _ I=>hE q0 e (λc o c1 _ c3 _ x=>I.extBut _ _ c1 (G _ _ c3 (B.extBut _ _ c1 x))) ⟨oe,I.extBut _ _ (λx=>by grind) q2,q1⟩|some x=>
  refine Aa (fK (h1.at λo e=>B.extBut _ _ D.i1z e) (q5.at λo e=>B.extBut _ _ D.l1z e) hx λq7 w3 G=>Ae ?_);have M:=G.extBut _ _ D.TOi1 (B.extBut _ _ D.TOz w5);refine Aa (B1 M rfl ?_);refine Aa (Ee M λq0 q9 I=>?_);refine Aa (FU (Ae ?_));refine Aa (Aa (EV ?_));show As _ _ (AO (.ref i2) >>= _) _ _ _;refine Aa (kM hh (h2.at λo e=>I.extBut _ _ D.TOi2.symm (G.extBut _ _ D.i12.symm (B.extBut _ _ D.i2z e)))
   (w6.at λo e=>I.extBut _ _ D.l2TO (G.extBut _ _ D.l2i1 (B.extBut _ _ D.l2z e))) (by grind) λw8 e U he=>?_)
  obtain⟨oe,q2,q1⟩:=he;have q4:=U _ _ D.i2z.symm (I.extBut _ _ D.TOz.symm (G.extBut _ _ D.i1z.symm L));refine AS q4 (by simp) λq8 _ Z=>hE q8 e (λc o c1 c2 c3 c4 x=>Z.extBut _ _ c1 (U _ _ c4 (I.extBut _ _ c2 (G.extBut _ _ c3 (B.extBut _ _ c1 x))))) ⟨oe,Z.extBut _ _ (λx=>by grind) q2,q1⟩
theorem oE{ka kb:Bool}{z TI TO i1 i2 B G:Addr}{Z k2:Nat}{xs ys:Array Value}{x y a b:Value}{Q:Option Value->Ad->Prop}(D:Hi z TI TO i1 i2 B G)
 (hz:FS s.heap z TI TO .none) (I:Dg s.heap TI (.ref i1) (.ref i2)) (L:Dg s.heap TO a b)
 (h1:dE ka s.heap i1 B Z) (h2:dE kb s.heap i2 G k2) (M:eR ka s.heap B xs) (U:eR kb s.heap G ys) (hx:xs[Z]? = some x) (hy:ys[k2]? = some y)
 (hQ:∀h',FS h' z TI TO (Co s.heap.objs.size)->Dg h' TO x y->dE ka h' i1 B (Z+1)->dE kb h' i2 G (k2+1)->Dg h' s.heap.objs.size x y->h'.objs.size=s.heap.objs.size+1 ->
  (∀c o,c≠z->c≠TO->c≠i1->c≠i2->s.heap.get? c=some o->h'.get? c=some o)->Q (some (.ref s.heap.objs.size)) { s with heap:=h' }) :
 As (A5 prog w) A (Dp (.ref z)) Q E s:=by
 unfold Dp;exact Aa (Dz (AU (⟨_,hz,rfl⟩) En
  (AZ En (⟨_,hz,rfl⟩) HP
   (aDn D hz I L h1 h2 M U hx hy λh' a1 a2 a3 a4 a5 a6 a7=>Ae (hQ h' a1 a2 a3 a4 a5 a6 a7)) (Hj _))))
theorem pP{ka kb:Bool}{z TI TO i1 i2 U Z:Addr}{k1 k2:Nat}{xs ys:Array Value}{a b:Value}{Q:Option Value->Ad->Prop}(hh:A.handled=none)(D:Hi z TI TO i1 i2 U Z)
 (hz:FS s.heap z TI TO .none) (G:Dg s.heap TI (.ref i1) (.ref i2)) (I:Dg s.heap TO a b)
 (h1:dE ka s.heap i1 U k1) (h2:dE kb s.heap i2 Z k2) (L:eR ka s.heap U xs) (M:eR kb s.heap Z ys) (B:xs[k1]? = none\/ys[k2]? = none)
 (hQ:∀h',(∀c o,c≠z->c≠TO->c≠i1->c≠i2->s.heap.get? c=some o->h'.get? c=some o)->Q none { s with heap:=h' }):As (A5 prog w) A (Dp (.ref z)) Q E s:=by
 unfold Dp;refine Aa (Dz (AU (⟨_,hz,rfl⟩) En
  (AZ En (⟨_,hz,rfl⟩) HP (aER hh D hz G I h1 h2 L M B λh' e hk he=>?_) (Hj _))))
 obtain⟨o,ho,hc⟩:=he;refine Aa (DV ⟨o,ho,hc⟩ FW ?_);exact Ae (hQ _ hk)
end
noncomputable def jU(k:Bool)(l:Addr):Obj:=match k with
 | true=>{ cls:=.type "list_iterator",data:=.fields #[.ref l,.int 0 0] }
 | false=>{ cls:=.type "tuple_iterator",data:=.fields #[.ref l,.int 0 0] }
abbrev zH1(k:Bool)(h:Heap)(l1:Addr):Heap:=h.push (jU k l1)
abbrev zH2(ka kb:Bool)(h:Heap)(l1 l2:Addr):Heap:=(zH1 ka h l1).push (jU kb l2)
abbrev zH3(ka kb:Bool)(h:Heap)(l1 l2:Addr):Heap:=(zH2 ka kb h l1 l2).push { cls:=.type "tuple",data:=.seq #[.ref h.objs.size,.ref (zH1 ka h l1).objs.size] }
abbrev zH4(ka kb:Bool)(h:Heap)(l1 l2:Addr):Heap:=(zH3 ka kb h l1 l2).push { cls:=.type "tuple",data:=.seq #[.none,.none] }
abbrev zH5(ka kb:Bool)(h:Heap)(l1 l2:Addr):Heap:=(zH4 ka kb h l1 l2).push { cls:=.type "zip",data:=.fields #[.none,.bool false,.bool false,.ref (zH2 ka kb h l1 l2).objs.size,.ref (zH3 ka kb h l1 l2).objs.size] }
theorem jA{E:Value->Ad->Prop}{s:Ad}{Q:Value->Ad->Prop}(G:eR k s.heap l items)
 (B:Q (.ref s.heap.objs.size) { s with heap:=s.heap.push (jU k l) }):As (A5 prog w) A (H9 (.ref l)) Q E s:=by
 cases k with
 | true=>exact CY G B|false=>exact G2 G B
theorem aAw(I L:Bool)(B G:Addr)(xs ys:Array Value) :
 K7 (BI.«zip.__new__» ⟨[.type "zip",.ref B,.ref G],[]⟩) (λ_ R s=>eR I s.heap B xs/\eR L s.heap G ys /\
  R (.ok (.ret (.ref (zH4 I L s.heap B G).objs.size))) { s with heap:=zH5 I L s.heap B G }):=
 .of_wp λprog w A R s h=>by
  obtain⟨hp,g,d,tk,os⟩:=s;obtain⟨U,Z,h⟩:=h;have q0:=sub_zip;have M:eR L (Shared.heap ⟨hp.push (jU I B),g,d,tk,os⟩) G ys:=Z.at λo e=>Ab _ e
  wp_walk using jA U,jA M
  exact⟨_,rfl,h⟩
theorem pQ{h:Heap}(e:h.get? it=some (jU k a)):dE k h it a 0:=by
 cases k with
 | true=>exact⟨_,e,rfl,rfl⟩|false=>exact⟨_,e,rfl,rfl⟩
theorem aDo{E:Value->Ad->Prop}{s:Ad}{Q:Value->Ad->Prop}(G:eR ka s.heap l1 xs)(I:eR kb s.heap l2 ys)
 (h:∀h',FS h' (s.heap.objs.size+4) (s.heap.objs.size+2) (s.heap.objs.size+3) .none->Dg h' (s.heap.objs.size+2) (.ref s.heap.objs.size) (.ref (s.heap.objs.size+1)) ->
  Dg h' (s.heap.objs.size+3) .none .none->dE ka h' s.heap.objs.size l1 0->dE kb h' (s.heap.objs.size+1) l2 0->h'.objs.size=s.heap.objs.size+5 ->
  (∀c o,s.heap.get? c=some o->h'.get? c=some o)->Q (.ref (s.heap.objs.size+4)) { s with heap:=h' }) :
 As (A5 prog w) A (call (.type "zip") [.ref l1,.ref l2]) Q E s:=by
 refine JE F.called_zip (by decide) (F.typeCall_zip_2 _ _) (F.newCall_zip_2 _ _) (λobj=>F.args_object_init_3 obj _ _) F.entry_zip_new
  (aAw ka kb l1 l2 xs ys) ⟨G,I,?_⟩
 have L:(zH1 ka s.heap l1).objs.size=s.heap.objs.size+1:=Bl ..;have M:(zH2 ka kb s.heap l1 l2).objs.size=s.heap.objs.size+2:=by rw[Bl,L]
 have U:(zH3 ka kb s.heap l1 l2).objs.size=s.heap.objs.size+3:=by rw[Bl,M]
 have Z:(zH4 ka kb s.heap l1 l2).objs.size=s.heap.objs.size+4:=by rw[Bl,U]
 have z5:(zH5 ka kb s.heap l1 l2).objs.size=s.heap.objs.size+5:=by rw[Bl,Z]
 have nf:∀k l,(jU k l).isFreed=false:=by intro k l;cases k <;> rfl
 have B:(zH5 ka kb s.heap l1 l2).get? (zH4 ka kb s.heap l1 l2).objs.size=some _:=Al _ rfl;have g4:(zH5 ka kb s.heap l1 l2).get? (zH3 ka kb s.heap l1 l2).objs.size=some _:=Ab _ (Al _ rfl);have g3:(zH5 ka kb s.heap l1 l2).get? (zH2 ka kb s.heap l1 l2).objs.size=some _:=Ab _ (Ab _ (Al _ rfl));have g2:(zH5 ka kb s.heap l1 l2).get? (zH1 ka s.heap l1).objs.size=some _:=Ab _ (Ab _ (Ab _ (Al _ (nf _ _))));show _/\_;rw[M,U,Z] at B;rw[L,M] at g3;rw[U] at g4;rw[L] at g2;rw[Z];exact⟨⟨_,B,rfl⟩,h _ B g3 g4 (pQ (Ab _ (Ab _ (Ab _ (Ab _ (Al _ (nf _ _))))))) (pQ g2) z5 λc o x=>
  Ab _ (Ab _ (Ab _ (Ab _ (Ab _ x))))⟩
noncomputable def Itz(K:Ap)(ka kb:Bool)(a b:Addr):It:=
 ⟨λi H=>∃xs ys x y,Sq ka K H a xs/\Sq kb K H b ys/\xs[i]? = some x/\ys[i]? = some y,
  λi H v H'=>∃p x y,v=.ref p/\H p=none/\K.lookup p=none/\H'=upd H p (.tup [x,y])/\∀xs ys,Sq ka K H a xs->Sq kb K H b ys->xs[i]? = some x/\ys[i]? = some y,
  λi H=>∃xs ys,Sq ka K H a xs/\Sq kb K H b ys/\(xs.length<=i\/ys.length<=i)⟩
structure aHF (z TI TO i1 i2:Addr):Prop where
 TIz:TI≠z
 TOz:TO≠z
 i1z:i1≠z
 i2z:i2≠z
 TITO:TI≠TO
 TIi1:TI≠i1
 TIi2:TI≠i2
 TOi1:TO≠i1
 TOi2:TO≠i2
 i12:i1≠i2
theorem aHF.apart{X:Cx}{pins:List (Addr×Obj)}{σ:St}{H:Hp}{s:Ad}{L M:Bool}{a b z TI TO i1 i2:Addr}{xs U:List V}(F:aHF z TI TO i1 i2)(I:Inv X pins σ H s)(f:∀c∈[z,TI,TO,i1,i2],lG X pins H c)
 (B:Sq L X.K H a xs) (G:Sq M X.K H b U):Hi z TI TO i1 i2 a b:=
 ⟨F.TIz,F.TOz,F.i1z,F.i2z,F.TITO,F.TIi1,F.TIi2,F.TOi1,F.TOi2,F.i12,I.sqNe B (f z (by simp)),I.sqNe B (f TO (by simp)),I.sqNe B (f i1 (by simp)),I.sqNe B (f i2 (by simp)),
  I.sqNe G (f z (by simp)),I.sqNe G (f TO (by simp)),I.sqNe G (f i1 (by simp)),I.sqNe G (f i2 (by simp))⟩
theorem aES{P:A2}{w:AL}{K:Ap}{ka kb:Bool}{q0:List A6}{tk:Nat}{tp:Du}{z TI TO i1 i2 a b:Addr}(F:aHF z TI TO i1 i2) :
 xC P w K (.Tuple q0 tk tp) (Itz K ka kb a b) [z,TI,TO,i1,i2] z (λi h=>FS h z TI TO .none/\Dg h TI (.ref i1) (.ref i2)/\(∃u v,Dg h TO u v)/\dE ka h i1 a i/\dE kb h i2 b i) where
 mem:=by simp
 obj:=λi h st c U=>by obtain⟨hz,B,⟨u,v,L⟩,Z,h2⟩:=st;rcases(by simpa using U) with rfl|rfl|rfl|rfl|rfl;exact⟨_,hz,λv z=>by cases(show Ia _=Ge v from z)⟩;exact⟨_,B,λv z=>by cases(show KT _ _=Ge v from z)⟩;exact⟨_,L,λv z=>by cases(show KT _ _=Ge v from z)⟩;exact Z.obj;exact h2.obj
 keep:=λi h h' st k=>by obtain⟨hz,B,⟨u,v,L⟩,Z,h2⟩:=st;exact⟨k z (by simp) _ hz,k TI (by simp) _ B,⟨u,v,k TO (by simp) _ L⟩,Z.at λo e=>k i1 (by simp) o e,h2.at λo e=>k i2 (by simp) o e⟩
 item:=by
  intro X hP hw hK U i pins s σ H E I hf st hg;subst hP hw hK;obtain⟨hz,B,⟨u,v,L⟩,Z,h2⟩:=st;obtain⟨xs,ys,x,y,ha,hb,hx,hy⟩:=hg;obtain⟨as,ra,pa,_⟩:=I.sq ha;obtain⟨bs,rb,pb,_⟩:=I.sq hb;obtain⟨ux,q7,rx⟩:=ra.get hx;obtain⟨uy,q8,ry⟩:=rb.get hy;refine oE (F.apart I hf ha hb) hz B L Z h2 pa pb (x:=ux) (y:=uy) (by simpa using q7) (by simpa using q8) λh' a1 a2 a3 a4 a5 a6 hk=>?_;refine⟨_,rfl,wpAny_letOwnedTupleGo_zip a1 λq1 q3 M=>?_⟩;have q6:∀c o,c∉[z,TI,TO,i1,i2]->s.heap.get? c=some o->q1.get? c=some o:=λc o U e=>by
   have G:c≠z/\c≠TI/\c≠TO/\c≠i1/\c≠i2:=by simpa using U
   exact M.extBut _ _ G.1 (hk c o G.1 G.2.2.1 G.2.2.2.1 G.2.2.2.2 e)
  have tI:=M.extBut _ _ F.TIz (hk _ _ F.TIz F.TITO F.TIi1 F.TIi2 B);have tO:=M.extBut _ _ F.TOz a2;have I1:Inv X pins σ (upd H s.heap.objs.size (.tup [x,y])) { s with heap:=q1 }:=by
   refine I.turnsNew hf q6 (λc U=>?_) (An _) ⟨by show 2<=sizeLine;rw[AY];decide,[ux,uy],.cons rx (.cons ry .nil),_,(M.extBut _ _ (BS (Aq hz)) a5),rfl,_,rfl⟩;have G:c=z\/c=TI\/c=TO\/c=i1\/c=i2:=by simpa using U
   rcases G with rfl|rfl|rfl|rfl|rfl;exact⟨_,q3⟩;exact⟨_,tI⟩;exact⟨_,tO⟩;obtain⟨o,e,_⟩:=(a3.at λo e=>M.extBut _ _ F.i1z e).obj;exact⟨o,e⟩;obtain⟨o,e,_⟩:=(a4.at λo e=>M.extBut _ _ F.i2z e).obj;exact⟨o,e⟩
  refine⟨.ref s.heap.objs.size,_,I1,rfl,⟨_,x,y,rfl,I.fresh,I.newK,rfl,λq9 w3 q4 q5=>?_⟩,⟨q3,tI,⟨_,_,tO⟩,(a3.at λo e=>M.extBut _ _ F.i1z e),(a4.at λo e=>M.extBut _ _ F.i2z e)⟩,λc U=>?_⟩;rw[I.sq_inj q4 ha,I.sq_inj q5 hb];exact⟨hx,hy⟩;rw[aJ (A4 ?_)];exact(hf c U).1;obtain⟨o,e,_⟩:∃o,s.heap.get? c=some o/\True:=by
   have G:c=z\/c=TI\/c=TO\/c=i1\/c=i2:=by simpa using U
   rcases G with rfl|rfl|rfl|rfl|rfl;exact⟨_,hz,trivial⟩;exact⟨_,B,trivial⟩;exact⟨_,L,trivial⟩;obtain⟨o,e,_⟩:=Z.obj;exact⟨o,e,trivial⟩;obtain⟨o,e,_⟩:=h2.obj;exact⟨o,e,trivial⟩
  exact Aq e
 done:=by
  intro X hP hw hK U i pins s σ H E I hf st hg;subst hP hw hK;obtain⟨hz,B,⟨u,v,L⟩,Z,h2⟩:=st;obtain⟨xs,ys,ha,hb,q2⟩:=hg;obtain⟨as,ra,pa,_⟩:=I.sq ha;obtain⟨bs,rb,pb,_⟩:=I.sq hb;have la:=ra.length;have lb:=rb.length;refine pP (I.ok.hd U) (F.apart I hf ha hb) hz B L Z h2 pa pb ?_ λh' hk=>⟨rfl,I.turns hf λc o U e=>?_⟩
  rcases q2 with q|q;exact .inl (by simp;omega);exact .inr (by simp;omega);grind
 self:=λ_ _ _ _ _ st h=>HQ st.1 h
noncomputable def aQa(K:Ap)(ta:TA):TI:=λσ H R=>ta σ H λvs H1=>∃(ka kb:Bool) (a b:Addr) (xs ys:List V),vs=[.ref a,.ref b]/\Sq ka K H1 a xs/\Sq kb K H1 b ys/\R (Itz K ka kb a b) H1
theorem aET:BC "zip" = some (.type "zip"):=by kernel_rfl
theorem aEU(n:Nat):aHF (n+4) (n+2) (n+3) n (n+1) where
 TIz:=by simp
 TOz:=by simp
 i1z:=by simp
 i2z:=by simp
 TITO:=by simp
 TIi1:=by simp
 TIi2:=by simp
 TOi1:=by simp
 TOi2:=by simp
 i12:=by simp
theorem aKs{X:Cx}{a b:A6}{ta:TA}{p pos:Du}{G:List A6}{tk:Nat}{tp:Du}(hg:Gl X "zip")(hm:X.mg "zip" = none)(ha:PA X [a,b] ta)(hs:AA [a,b] X.env=[(false,Ch a X.env),(false,Ch b X.env)])(M:AA [b] X.env=[(false,Ch b X.env)]) :
 PI X (.Tuple G tk tp) (.Call (.Name "zip" p) [a,b] [] pos) (aQa X.K ta):=by
 intro pins s σ H R I h;refine KR (dY I hg hm aET (Bv (thn (ha pos pins s σ H _ I h) λus s1 ⟨vs,H1,B,r1,q1⟩=>?_) (by rw[hs,M]) (by rw[M];rfl)));obtain⟨ka,kb,a1,b1,xs,ys,e,q1,q2,q⟩:=q1;subst e;cases r1 with
 | cons r rr=>
  cases rr with
  | cons r' rr=>
   cases rr;cases r;cases r';obtain⟨as,ra,pa,_⟩:=B.sq q1;obtain⟨bs,rb,pb,_⟩:=B.sq q2;refine aDo pa pb λh' hz U Z h1 h2 q3 hk=>HQ (s:={ s1 with heap:=h' }) hz ?_;refine⟨s1.heap.objs.size+4,_,_,_,H1,rfl,B.kept (t':=s1.toks) hk,aES (aEU _),⟨hz,U,⟨_,_,Z⟩,h1,h2⟩,λc hc=>?_,q⟩;have q0:c=s1.heap.objs.size+4\/c=s1.heap.objs.size+2\/c=s1.heap.objs.size+3\/c=s1.heap.objs.size\/c=s1.heap.objs.size+1:=by simpa using hc
   have L:s1.heap.objs.size<=c:=by rcases q0 with rfl|rfl|rfl|rfl|rfl <;> omega
   exact B.fpOk L (B.hok.fresh L)
noncomputable def Its(x:Str):It:=⟨λi _=>i<x.cps.size,λi H v H'=>H'=H/\∃c,x.cps[i]? = some c/\v=.str ⟨#[c]⟩,λi _=>x.cps.size<=i⟩
theorem yF{P:A2}{w:AL}{K:Ap}{tg:A6}{it:Addr}{x:Str}{t:Tok}{ty:String}(hn:["enumerate", "zip", "dict_itemiterator", "dict_reverseitemiterator", "odict_iterator", "itertools.zip_longest", "itertools.pairwise"].contains ty=false)
 (W:∀A':AT,A'.handled=none->Walks P w A' it [it] [it] x.cps.size (SignAt x) (λi h=>h.IsStrIter it ty x t i))
 (S:∀(A:AT) (i:Nat) (s:Ad) (Q:Value->Ad->Prop) (E:Value->Ad->Prop),s.heap.IsStrIter it ty x t i->Q (.ref it) s->As (A5 P w) A (H9 (.ref it)) Q E s):xC P w K tg (Its x) [it] it (λi h=>i<=x.cps.size/\h.IsStrIter it ty x t i) where
 mem:=by simp
 obj:=λi h st b B=>by
  have e:b=it:=by simpa using B
  subst e;obtain⟨_,o,e,c,d⟩:=st;exact⟨o,e,λv z=>by rw[d] at z;cases z⟩
 keep:=λi h h' st k=>by obtain⟨hi,o,e,c,d⟩:=st;exact⟨hi,o,k it (by simp) o e,c,d⟩
 item:=by intro X Z hw U hc i pins s σ H E I L st M;subst Z hw U;obtain⟨f0,f1,f2,f3,f4,f5⟩:=L it (by simp);refine(W X.A (I.ok.hd hc)).item i s _ _ M st.2 λv h' tk hv G kk=>?_;obtain⟨c,u,q0,rfl⟩:=hv;obtain⟨o,e,oc,od⟩:=id G;exact⟨_,rfl,oY e oc od hn ⟨.str ⟨#[c]⟩,H,(I.turned (λb o B e=>kk b o (by simpa using B) e) f0 f1 f3 f4 f5),⟨u,rfl⟩,⟨rfl,c,q0,rfl⟩,⟨M,G⟩,λb B=>(L b B).1⟩⟩
 done:=by intro X Z hw U hc i pins s σ H E I L st M;subst Z hw U;obtain⟨f0,f1,f2,f3,f4,f5⟩:=L it (by simp);have e:=Ip st.1 M;subst e;exact(W X.A (I.ok.hd hc)).done s _ _ st.2 λh' tk eb=>⟨rfl,I.turned (λb o B e=>eb b o (by simpa using B) e) f0 f1 f3 f4 f5⟩
 self:=λA i s Q E st h=>S A i s Q E st.2 h
theorem aKt{X:Cx}{tg l:A6}{tl:TE}(hl:PE X l tl):PI X tg l (λσ H R=>tl σ H λx H1=>(∃a,x=.ref a/\(((∃xs,SqL X.K H1 a xs)/\R (Itl X.K a) H1)\/((∃xs,SqT X.K H1 a xs)/\R (Itt X.K a) H1)))\/∃z,x=.str z/\R (Its z) H1):=by
 intro pins s σ H R I h;refine thn (hl pins s σ H _ I h) λv s1 ⟨x,H1,B,r1,q1⟩=>?_;rcases q1 with⟨a,e,q⟩|⟨z,e,q⟩
 subst e;cases r1;rcases q with⟨⟨xs,M⟩,q⟩|⟨⟨xs,M⟩,q⟩
 obtain⟨U,rv,p,hz⟩:=B.list M;refine CY p.isList ?_;refine⟨s1.heap.objs.size,[s1.heap.objs.size],_,_,H1,rfl,B.kept λb o e=>Ab _ e,sK a _,⟨_,Al _ rfl,rfl,rfl⟩,λb G=>?_,q⟩;have e:b=s1.heap.objs.size:=by simpa using G
 subst e;exact B.fpOk (An _) (B.hok.fresh (An _));obtain⟨U,rv,p,hz⟩:=B.tuple M;refine G2 (p) ?_;refine⟨s1.heap.objs.size,[s1.heap.objs.size],_,_,H1,rfl,B.kept λb o e=>Ab _ e,zX a _,⟨_,Al _ rfl,rfl,rfl⟩,λb G=>?_,q⟩;have e:b=s1.heap.objs.size:=by simpa using G
 subst e;exact B.fpOk (An _) (B.hok.fresh (An _));subst e;obtain⟨t,rfl⟩:=r1;cases Z:z.cps.all (·<128) with
 | false=>
  refine wpAny_pyIter_wide Z ⟨s1.heap.objs.size,[s1.heap.objs.size],_,_,H1,rfl,B.kept λb o e=>Ab _ e,yF (by decide) (λA' L=>Walks.strWide L _ z t) (λA i s Q E st h=>wpAny_pyIter_striter_wide st h),⟨A9 _,_,Al _ rfl,rfl,rfl⟩,λb G=>?_,q⟩;have e:b=s1.heap.objs.size:=by simpa using G
  subst e;exact B.fpOk (An _) (B.hok.fresh (An _))
 | true=>
  refine wpAny_pyIter_ascii Z ⟨s1.heap.objs.size,[s1.heap.objs.size],_,_,H1,rfl,B.kept λb o e=>Ab _ e,yF (by decide) (λA' L=>Walks.strAscii L _ z t) (λA i s Q E st h=>wpAny_pyIter_striter_ascii st h),⟨A9 _,_,Al _ rfl,rfl,rfl⟩,λb G=>?_,q⟩;have e:b=s1.heap.objs.size:=by simpa using G
  subst e;exact B.fpOk (An _) (B.hok.fresh (An _))
section
variable {prog:A2} {w:AL} {A:AT} {E:Value->Ad->Prop} {s:Ad}
theorem aEV{k:Bool}{e it l:Addr}{i:Nat}{xs:Array Value}{x J:Value}{Q:Value->Ad->Prop}(he:IZ s.heap e it i J)(q0:dE k s.heap it l i)(hl:eR k s.heap l xs)(hx:xs[i]? = some x)(B:e≠it)
 (hQ:∀h',IsEnumOut h' e it ((i:Int)+1) x s.heap.objs.size->dE k h' it l (i+1)->h'.get? s.heap.objs.size=some { cls:=.type "tuple",data:=.seq #[.int i s.toks,x] }->h'.objs.size=s.heap.objs.size+1 ->
  (∀b o,b≠e->b≠it->s.heap.get? b=some o->h'.get? b=some o)->Q (.ref s.heap.objs.size) { s with heap:=h',toks:=s.toks+1 }) :
 As (A5 prog w) A (BI.«enumerate.__next__» ⟨[.ref e],[]⟩) (λZ s'=>∃v,Z=.done (.ret v)/\Q v s') E s:=by
 obtain⟨hp,g,d,tk,os⟩:=s;refine Aa (m:=Hg (.ref e) 2) (Bc he rfl rfl (Aa (fK q0 hl hx λh1 i1 s1=>?_)));have U:=(s1.2 e B).trans he;refine Aa (Bc U rfl rfl (Aa (Bc U rfl rfl (Aa (wpAny_mkInt ?_)))));refine Aa (AS U (by simp) λh2 e2 s2=>?_);refine Aa (AS e2 (by simp) λh3 e3 s3=>?_);refine Aa (FV ?_);have L:IZ (h3.push { cls:=.type "tuple",data:=.seq #[.int i tk,x] }) e it ((i:Int)+1) J:=Ab _ e3;generalize M:h3.push { cls:=.type "tuple",data:=.seq #[.int i tk,x] }=h4 at L;have z3:h3.objs.size=hp.objs.size:=by rw[s3.1,s2.1,s1.1]
 have z4:h4.objs.size=hp.objs.size+1:=by rw[<-M,Bl,z3]
 have k4:∀b o,b≠e->b≠it->hp.get? b=some o->h4.get? b=some o:=λb o I n2 G=>by rw[<-M];exact Ab _ (s3.extBut b o I (s2.extBut b o I (s1.extBut b o n2 G)))
 rw[z3];refine Aa ?_;unfold Bn;refine Aa (Bc L rfl rfl (Ae ?_));simp only[if_true];refine Aa (D9 (Aa (Bc L rfl rfl (Aa (AS L (by simp) λh5 e5 s5=>?_)))));refine Aa ?_;unfold Cj;refine Aa (AS e5 (by simp) λh6 e6 s6=>?_);refine AS e6 (by simp) λh7 e7 s7=>?_;have up:∀b o,b≠e->h4.get? b=some o->h7.get? b=some o:=λb o n G=>s7.extBut _ _ n (s6.extBut _ _ n (s5.extBut _ _ n G));exact Aa (FU (Ae ⟨_,rfl,hQ h7 e7 ((i1.at λo ho=>by rw[<-M];exact Ab _ (s3.extBut _ _ B.symm (s2.extBut _ _ B.symm ho))).at λo ho=>up _ _ B.symm ho) (up _ _ (BS (Aq he)) (by rw[<-M,<-z3];exact Al _ rfl)) (by rw[s7.1,s6.1,s5.1,z4]) λb o I n2 G=>up b o I (k4 b o I n2 G)⟩))
theorem yG{k:Bool}{e it l:Addr}{i:Nat}{xs:Array Value}{x J:Value}{Q:Option Value->Ad->Prop}(B:IZ s.heap e it i J)(G:dE k s.heap it l i)(M:eR k s.heap l xs)(U:xs[i]? = some x)(I:e≠it)
 (L:∀h',IsEnumOut h' e it ((i:Int)+1) x s.heap.objs.size->dE k h' it l (i+1)->h'.get? s.heap.objs.size=some { cls:=.type "tuple",data:=.seq #[.int i s.toks,x] }->h'.objs.size=s.heap.objs.size+1 ->
  (∀b o,b≠e->b≠it->s.heap.get? b=some o->h'.get? b=some o)->Q (some (.ref s.heap.objs.size)) { s with heap:=h',toks:=s.toks+1 }):As (A5 prog w) A (Dp (.ref e)) Q E s:=by unfold Dp;exact Aa (Dz (AU (⟨_,B,rfl⟩) CV (AZ CV (⟨_,B,rfl⟩) F6 (aEV B G M U I λh' a b c d k=>Ae (L h' a b c d k)) (Fh _))))
theorem aAx{k:Bool}{e it l:Addr}{i:Nat}{xs:Array Value}{J:Value}{Q:Option Value->Ad->Prop}(M:A.handled=none)(G:IZ s.heap e it i J)(B:dE k s.heap it l i)(U:eR k s.heap l xs)(hx:xs[i]? = none)
 (I:∀h',FR it s.heap h'->Q none { s with heap:=h' }):As (A5 prog w) A (Dp (.ref e)) Q E s:=by
 have T:s.TypeIs (.ref e) "enumerate" := ⟨_,G,rfl⟩
 unfold Dp;refine Aa (Dz (AU T CV (AZ CV T F6 ?_ (Fh _))));exact Aa (m:=Hg (.ref e) 2) (Bc G rfl rfl (Aa (kM M B U hx λh' x g ⟨o,Z,L⟩=>(Aa (DV ⟨o,Z,L⟩ FW (Ae (I _ g)))))))
end
noncomputable def aEW(it:Addr):Obj:={ cls:=.type "enumerate",data:=.fields #[.none,.bool false,.ref it,Co 0,.none,.none] }
theorem aDp(k:Bool)(l:Addr)(xs:Array Value)(L:Obj):K7 (BI.«enumerate.__new__» ⟨[.type "enumerate",.ref l],[]⟩) (λ_ R s=>s.heap.get? l=some L/\eR k s.heap l xs /\
 R (.ok (.ret (.ref (s.heap.push (jU k l)).objs.size))) { s with heap:=(s.heap.push (jU k l)).push (aEW s.heap.objs.size) }):=
 .of_wp λprog w A R s h=>by
  obtain⟨M,g,d,tk,os⟩:=s;obtain⟨B,G,h⟩:=h;have I:=sub_enumerate
  wp_walk using CG B
  refine wpAny_stack_any λst=>Ae ?_;split;rename_i c _ _ _ _ _;cases(c==Fo "enumerate") <;> (wp_walk using CG B,jA G;exact⟨_,rfl,h⟩)
  . wp_walk using CG B,jA G
    exact⟨_,rfl,h⟩
theorem aEX{E:Value->Ad->Prop}{s:Ad}{Q:Value->Ad->Prop}(G:eR k s.heap l xs)
 (h:∀h',IZ h' (s.heap.objs.size+1) s.heap.objs.size 0 .none->dE k h' s.heap.objs.size l 0->(∀b o,s.heap.get? b=some o->h'.get? b=some o)->Q (.ref (s.heap.objs.size+1)) { s with heap:=h' }) :
 As (A5 prog w) A (call (.type "enumerate") [.ref l]) Q E s:=by
 obtain⟨I,L⟩:∃I,s.heap.get? l=some I:=by
  cases k with
  | true=>obtain⟨o,e,_⟩:=G;exact⟨o,e⟩|false=>obtain⟨o,e,_⟩:=G;exact⟨o,e⟩
 refine JE F.called_enumerate (by decide) (F.typeCall_enumerate_1 _) (F.newCall_enumerate_1 _) (λobj=>F.args_object_init_2 obj _) F.entry_enumerate_new (aDp k l xs I) ⟨L,G,?_⟩;have B:((s.heap.push (jU k l)).push (aEW s.heap.objs.size)).get? (s.heap.push (jU k l)).objs.size=some (aEW s.heap.objs.size):=Al _ rfl;rw[(Bl ..)] at B ⊢;exact⟨⟨_,B,rfl⟩,h _ B (pQ (Ab _ (Al _ (by cases k <;> rfl)))) λb o x=>Ab _ (Ab _ x)⟩
noncomputable def Ite(K:Ap)(k:Bool)(a:Addr):It:=
 ⟨λi H=>∃xs x,Sq k K H a xs/\xs[i]? = some x,
  λi H v H'=>∃p x,v=.ref p/\H p=none/\K.lookup p=none/\H'=upd H p (.tup [.int i,x])/\∀xs,Sq k K H a xs->xs[i]? = some x,
  λi H=>∃xs,Sq k K H a xs/\xs.length<=i⟩
theorem aHG{P:A2}{w:AL}{K:Ap}{k:Bool}{Z:List A6}{tk:Nat}{tp:Du}{e it a:Addr}(ne:e≠it) :
 xC P w K (.Tuple Z tk tp) (Ite K k a) [e,it] e (λi h=>(∃J,IZ h e it i J)/\dE k h it a i) where
 mem:=by simp
 obj:=λi h st c G=>by
  obtain⟨⟨J,L⟩,M⟩:=st;have B:c=e\/c=it:=by simpa using G
  rcases B with rfl|rfl;exact⟨_,L,λv z=>by cases(show Ia _=Ge v from z)⟩;exact M.obj
 keep:=λi h h' st kp=>by obtain⟨⟨J,L⟩,M⟩:=st;exact⟨⟨J,kp e (by simp) _ L⟩,M.at λo q=>kp it (by simp) o q⟩
 item:=by
  intro X hP hw hK G i pins s σ H E I hf st hg;subst hP hw hK;obtain⟨⟨J,L⟩,M⟩:=st;obtain⟨xs,x,ha,hx⟩:=hg;obtain⟨as,ra,pa,_⟩:=I.sq ha;obtain⟨ux,q3,rx⟩:=ra.get hx;refine yG L M pa (x:=ux) (by simpa using q3) ne λh' a1 a2 a3 a4 hk=>?_;refine⟨_,rfl,wpAny_letOwnedTupleGo_enum a1 λq0 e' U=>?_⟩;have q2:∀c o,c∉[e,it]->s.heap.get? c=some o->q0.get? c=some o:=λc o G q=>by
   have B:c≠e/\c≠it:=by simpa using G
   exact U.extBut _ _ B.1 (hk c o B.1 B.2 q)
  have t1:=a2.at λo q=>U.extBut _ _ ne.symm q;have I1:Inv X pins σ (upd H s.heap.objs.size (.tup [.int i,x])) { s with heap:=q0,toks:=s.toks+1 }:=by
   refine I.turnsNew hf q2 (λc G=>?_) (An _) ⟨by show 2<=sizeLine;rw[AY];decide,[.int i s.toks,ux],.cons ⟨_,rfl⟩ (.cons rx .nil),_,(U.extBut _ _ (BS (Aq L)) a3),rfl,_,rfl⟩;have B:c=e\/c=it:=by simpa using G
   rcases B with rfl|rfl;exact⟨_,e'⟩;obtain⟨o,q,_⟩:=t1.obj;exact⟨o,q⟩
  refine⟨.ref s.heap.objs.size,_,I1,rfl,⟨_,x,rfl,I.fresh,I.newK,rfl,λq5 q1=>?_⟩,⟨⟨_,e'⟩,t1⟩,λc G=>?_⟩;rw[I.sq_inj q1 ha];exact hx;rw[aJ (A4 ?_)];exact(hf c G).1;have B:c=e\/c=it:=by simpa using G
  rcases B with rfl|rfl;exact Aq L;obtain⟨o,q,_⟩:=M.obj;exact Aq q
 done:=by
  intro X hP hw hK G i pins s σ H E I hf st hg;subst hP hw hK;obtain⟨⟨J,L⟩,M⟩:=st;obtain⟨xs,ha,q4⟩:=hg;obtain⟨as,ra,pa,_⟩:=I.sq ha;have la:=ra.length;refine aAx (I.ok.hd G) L M pa (by simp;omega) λh' hk=>⟨rfl,I.turns hf λc o G q=>hk c o ?_ q⟩
  grind
 self:=λ_ _ _ _ _ st h=>let ⟨_,q⟩:=st.1;Hk q h
noncomputable def iEn(K:Ap)(ta:TA):TI:=λσ H R=>ta σ H λvs H1=>∃(k:Bool) (a:Addr) (xs:List V),vs=[.ref a]/\Sq k K H1 a xs/\R (Ite K k a) H1
theorem aDq:BC "enumerate" = some (.type "enumerate"):=by kernel_rfl
theorem aHH{X:Cx}{a:A6}{ta:TA}{p pos:Du}{B:List A6}{tk:Nat}{tp:Du}(hg:Gl X "enumerate")(hm:X.mg "enumerate" = none)(ha:PA X [a] ta)(hs:AA [a] X.env=[(false,Ch a X.env)]) :
 PI X (.Tuple B tk tp) (.Call (.Name "enumerate" p) [a] [] pos) (iEn X.K ta):=by
 intro pins s σ H R I h;refine KR (dY I hg hm aDq (Bv (thn (ha pos pins s σ H _ I h) λus s1 ⟨vs,H1,L,r1,U⟩=>?_) (by rw[hs];rfl) rfl));obtain⟨k,a1,xs,e,U,q⟩:=U;subst e;cases r1 with
 | cons r rr=>
  cases rr;cases r;obtain⟨as,ra,pa,_⟩:=L.sq U;refine aEX pa λh' Z h1 hk=>Hk (s:={ s1 with heap:=h' }) Z ?_;refine⟨s1.heap.objs.size+1,_,_,_,H1,rfl,L.kept (t':=s1.toks) hk,aHG (Nat.succ_ne_self _),⟨⟨_,Z⟩,h1⟩,λc hc=>?_,q⟩;have M:c=s1.heap.objs.size+1\/c=s1.heap.objs.size:=by simpa using hc
  have G:s1.heap.objs.size<=c:=by rcases M with rfl|rfl <;> omega
  exact L.fpOk G (L.hok.fresh G)
end L2
namespace Hp
open PySem PySem.Spec PyProof.Rows L2
theorem Kp.refl(R:Addr->Prop)(H:Hp):Kp R H H:=λ_ _ h _=>h
theorem Kp.same{R:Addr->Prop}(s:aL H H'):Kp R H H':=λa o h _=>s a o h
section
variable {K:Fg} {RT Y J R:Addr->Prop} {σ:Sg} {σV:L2.St} {H H':Hp}
theorem Kp.seqL(k:Kp R H H')(n:¬ R a)(h:SqL K H a xs):SqL K H' a xs:=by rcases h with(h|⟨o,h⟩)|h;exact .inl (.inl (k _ _ h n));exact .inl (.inr ⟨o,k _ _ h n⟩);exact .inr h
theorem Kp.seqT(k:Kp R H H')(I:∀a,R a->RtO H a)(h:SqT K H a xs):SqT K H' a xs:=by
 have no:∀{o:HO},H a=some o->(∀B,o≠.lst B)->(∀φ,o≠.ext φ)->¬ R a:=λ{o} e L M z=>by
  rcases I a z with⟨B,G⟩|⟨B,G⟩
  rw[e] at G;grind;grind
 rcases h with(h|⟨o,h⟩)|h;exact .inl (.inl (k _ _ h (no h (λ_ z=>by cases z) λ_ z=>by cases z)));exact .inl (.inr ⟨o,k _ _ h (no h (λ_ z=>by cases z) λ_ z=>by cases z)⟩);exact .inr h
theorem Reps.kp{ex:Addr->Prop}(r:Reps K H ex ds xs)(k:Kp R H H')(G:∀a,R a->RtO H a)(L:∀a,R a->ex a):Reps K H' ex ds xs:=
 r.keep λa o e I=>k a o e λz=>by
  rcases G a z with⟨M,B⟩|⟨M,B⟩
  rw[e] at B;grind;rw[e] at B;cases B;exact I (.inr (.inl ⟨_,rfl⟩)) (L a z)
noncomputable def rtF(RT:Addr->Prop)(σ:Sg)(σV:L2.St)(al:List Nat)(a:Addr):Prop:=RT a/\¬ alR σ σV al a
theorem eD:∀(al:List Nat) (σ:Sg) (i:Nat),(freeze σ al)[i]? = (σ[i]?).map λs=>if i∈al then s.freeze else s
 | [],σ,i=>by cases q:σ[i]? <;> simp[freeze,q]|j::al,σ,i=>by
  rw[freeze,eD al];cases G:σ[j]? with
  | none=>grind|some I=>simp only;by_cases B:i=j;subst B;rw[Ay ((Ai.mp G).1),G];simp only[ Ax,true_or];split;cases I <;> rfl;rfl;rw[Af (Dj B)];simp[B]
theorem pR:∀(al:List Nat) (σ:Sg),(freeze σ al).length=σ.length
 | [],σ=>rfl|j::al,σ=>by rw[freeze,pR al];split;rw[A1];rfl
theorem freeze_sh(h:(freeze σ al)[i]? = some (.sh pa d)):σ[i]? = some (.sh pa d)\/∃ds,i∈al/\σ[i]? = some (.own pa ds)/\d=.lst ds:=by
 rw[eD] at h;cases q:σ[i]? with
 | none=>rw[q] at h;cases h|some s=>
  rw[q] at h;have h:(if i∈al then s.freeze else s)=.sh pa d:=Ao h;split at h;rename_i hi;cases s with
  | dead=>cases h|sh pa' d'=>cases h;exact .inl rfl|own pa' ds'=>cases h;exact .inr ⟨ds',hi,rfl,rfl⟩|dct _=>cases h|own2 _=>cases h
  exact .inl (by rw[h])
theorem eE(h:(freeze σ al)[i]? = some (.own pa ds)):σ[i]? = some (.own pa ds)/\i∉al:=by
 rw[eD] at h;cases q:σ[i]? with
 | none=>rw[q] at h;cases h|some s=>rw[q] at h;have h:(if i∈al then s.freeze else s)=.own pa ds:=Ao h;split at h;cases s <;> cases h;rename_i hi;exact⟨by rw[h],hi⟩
theorem aDr{al:List Nat}{i:Nat}{dss:List (List D)}(h:(freeze σ al)[i]? = some (.own2 dss)):σ[i]? = some (.own2 dss):=by
 rw[eD] at h;cases q:σ[i]? with
 | none=>rw[q] at h;cases h|some s=>
  rw[q] at h;have h:(if i∈al then s.freeze else s)=.own2 dss:=Ao h;split at h;cases s with
  | own2 d=>exact congrArg some h|_=>cases h
  rw[h]
theorem aAy{al:List Nat}{i:Nat}{ds:List (NK×D)}(h:(freeze σ al)[i]? = some (.dct ds)):σ[i]? = some (.dct ds):=by
 rw[eD] at h;cases q:σ[i]? with
 | none=>rw[q] at h;cases h|some s=>
  rw[q] at h;have h:(if i∈al then s.freeze else s)=.dct ds:=Ao h;split at h;cases s with
  | dct d=>exact congrArg some h|_=>cases h
  rw[h]
theorem Sx.frz(S:Sx K RT Y J σ σV H)(al:List Nat):Sx K (rtF RT σ σV al) Y J (freeze σ al) σV H where
 sh:=λi pa d h=>by
  rcases freeze_sh h with h|⟨ds,hi,Z,e⟩
  obtain⟨v,B,G⟩:=S.sh i pa d h;exact⟨v,B,G.weak λa z=>z.elim (λz=>.inl z.1) .inr⟩;subst e;obtain⟨a,xs,B,G,L,I,U⟩:=S.own i pa ds Z;refine⟨.ref a,B,a,xs,rfl,SqL.of G,?_,U.weak λa z=>z.elim (λz=>.inl z.1) .inr⟩;rintro (z|z|⟨_,z⟩);exact z.2 ⟨i,hi,⟨pa,ds,Z⟩,B⟩;exact I (S.yo a z);exact I z
 own:=λi pa ds h=>by obtain⟨h,hi⟩:=eE h;obtain⟨a,xs,B,G,L,I,U⟩:=S.own i pa ds h;refine⟨a,xs,B,G,⟨L,?_⟩,I,U.weak λa z=>z.elim (λz=>.inl z.1) .inr⟩;rintro ⟨j,hj,⟨pa',ds',q⟩,M⟩;have:=S.inj i j pa pa' ds ds' a h q B M;grind
 trk:=λa z=>S.trk a (z.elim (λz=>.inl z.1) .inr)
 yo:=S.yo
 tk:=S.tk
 rt:=λa z=>S.rt a z.1
 inj:=λi j pa pa' ds ds' a B G L I=>S.inj i j pa pa' ds ds' a (eE B).1 (eE G).1 L I
 len:=by rw[pR];exact S.len
 dx:=S.dx.imp id (λ_ _ e=>⟨aAy e,rfl⟩) (λ_ _ _ _ _ _ e=>e) (λa xs e z o=>⟨e,z,λ⟨j,_,⟨pa,ds,q⟩,M⟩=>by
  obtain⟨b,ys,B,G,L,I,U⟩:=S.own j pa ds q;rw[M] at B;grind⟩) (λ_ _ r=>r) (λ_ _ e=>⟨aDr e,rfl⟩) (λ_ _ _ _ _ _ e=>e) λp xs e z=>⟨e,⟨z.1,λ⟨j,_,⟨pa,ds,q⟩,M⟩=>z.2.2 j pa ds q M⟩,z.2.1,λk pa ds q=>z.2.2 k pa ds (eE q).1⟩
theorem Tk.new(t:Tk K H)(h:K.lookup p=none):Tk K (upd H p o):=λb B=>by by_cases e:b=p;rw[e];exact h;rw[aJ e] at B;exact t b B
noncomputable def Nw(K:Fg)(H:Hp)(a:Addr):Prop:=H a=none/\K.lookup a=none
theorem aHI(q:SqL K H a xs):¬ Nw K H a:=by
 rintro ⟨n,k⟩;rcases q with(q|⟨o,q⟩)|⟨o,B,m,q,_⟩
 rw[n] at q;cases q;rw[n] at q;cases q;grind
theorem Reps.outN{ex:Addr->Prop}(h:Reps K H ex d v):Reps K H (λb=>ex b\/Nw K H b) d v:=
 Reps.imp (λ_ _ q=>q) (λb xs B q=>⟨λz=>z.elim B (aHI q),q⟩) (λ_ _ q=>q) (λb o _ B q=>⟨λz=>z.elim B λz=>(by rw[z.1] at q;cases q),q⟩) d v h
theorem RvN.sub{ex:Addr->Prop}{v:Vl}(h:Rep K H' (λa=>exV RT Y J σ σV v.pa v.al a\/ex a) d x):Rep K H' (λa=>exV RT Y J σ σV (v.sub d).pa (v.sub d).al a\/ex a) (v.sub d).d x:=by unfold Vl.sub;by_cases B:noL d=true;rw[if_pos B];exact Rep.free d x B h;rw[if_neg B];exact h
structure aAz (K:Fg) (RT Y J:Addr->Prop) (σ:Sg) (σV:L2.St) (H1:Hp) (J'':L2.It) (xs:List Vl) (al:List Nat):Prop where
 sub:∀v∈xs,∀j∈v.al,j∈al
 nofr:∀v∈xs,v.fr=false
 ok:∀(R:Addr->Prop),(∀b,R b->rtF RT σ σV al b)->∀(i:Nat) (H:Hp),Kp R H1 H->(i<xs.length->J''.go i H)/\(xs.length<=i->J''.stop i H)/\∀x H',J''.yld i H x H'->∀v,xs[i]? = some v->aL H H'/\(Tk K H->Tk K H')/\Rep K H' (λa=>exV RT Y J σ σV v.pa v.al a\/Nw K H1 a) v.d x
theorem vE{v:Vl}:∀j∈(v.sub d).al,j∈v.al:=by unfold Vl.sub Vl.cl;grind
theorem pS{v:Vl}:(v.sub d).fr=false:=by unfold Vl.sub Vl.cl;split <;> rfl
theorem jB{x:Vl}{ds:List D}{i:Nat}{v:Vl}(h:(items x ds)[i]? = some v):∃d,ds[i]? = some d/\v=x.sub d:=by
 unfold items at h;rw[Ar] at h;cases q:ds[i]? with
 | none=>rw[q] at h;cases h|some d=>rw[q] at h;exact⟨d,rfl,(Ao h).symm⟩
theorem iJ(h:rtF RT σ σV al b):exV RT Y J σ σV pa al b:=.inl h
theorem nS:∀(as bs:List D),(kE as bs).length=min as.length bs.length
 | [],_=>by simp[kE]|_::_,[]=>by simp[kE]|_::as,_::bs=>by rw[kE,lC,nS as bs,lC,lC];omega
theorem yH:∀{as bs:List D} {i:Nat} {a b:D},as[i]? = some a->bs[i]? = some b->(kE as bs)[i]? = some (.tup [a,b])
 | [],_,_,_,_,h,_=>by simp at h|_::_,[],_,_,_,_,h=>by simp at h|_::_,_::_,0,_,_,h,h'=>by simp at h h';subst h h';rfl|_::as,_::bs,i+1,a,b,h,h'=>by have:=yH (bs:=bs) (b:=b) (by simpa using h) (by simpa using h');simpa[kE] using this
theorem aHJ(S:Sx K RT Y J σ σV H){x:Vl}{ds:List D}{a:Addr}{xs:List V}(q:SqL K H a xs)(n:¬ exV RT Y J σ σV x.pa x.al a)(r:Reps K H (exV RT Y J σ σV x.pa x.al) ds xs) :
 aAz K RT Y J σ σV H (Itl K a) (items x ds) x.al where
 sub:=λv B j U=>by obtain⟨d,_,e⟩:=AE.mp B;subst e;exact vE j U
 nofr:=λv B=>by obtain⟨d,_,e⟩:=AE.mp B;subst e;exact pS
 ok:=λR I i H1 k=>by
  have M:=k.seqL (λz=>n (iJ (I a z))) q;have hl:(items x ds).length=xs.length:=by unfold items;rw[lM,r.length]
  refine⟨λhi=>⟨xs,xs[i]'(by omega),M,Ac (by omega)⟩,λhi=>⟨xs,M,by omega⟩,λy H' L v B=>?_⟩;obtain⟨e,L⟩:=L;subst e;obtain⟨d,hd,e⟩:=jB B;subst e;obtain⟨y',G,Z⟩:=(r.outN.kp k (λb z=>S.rt b (I b z).1) λb z=>.inl (iJ (I b z))).get hd;rw[L xs M] at G;cases G;exact⟨aL.refl _,id,RvN.sub Z⟩
theorem aKu(S:Sx K RT Y J σ σV H){x:Vl}{ds:List D}{a:Addr}{xs:List V}(q:SqT K H a xs)(r:Reps K H (exV RT Y J σ σV x.pa x.al) ds xs) :
 aAz K RT Y J σ σV H (Itt K a) (items x ds) x.al where
 sub:=λv B j U=>by obtain⟨d,_,e⟩:=AE.mp B;subst e;exact vE j U
 nofr:=λv B=>by obtain⟨d,_,e⟩:=AE.mp B;subst e;exact pS
 ok:=λR I i H1 k=>by
  have M:=k.seqT (λb z=>S.rt b (I b z).1) q;have hl:(items x ds).length=xs.length:=by unfold items;rw[lM,r.length]
  refine⟨λhi=>⟨xs,xs[i]'(by omega),M,Ac (by omega)⟩,λhi=>⟨xs,M,by omega⟩,λy H' L v B=>?_⟩;obtain⟨e,L⟩:=L;subst e;obtain⟨d,hd,e⟩:=jB B;subst e;obtain⟨y',G,Z⟩:=(r.outN.kp k (λb z=>S.rt b (I b z).1) λb z=>.inl (iJ (I b z))).get hd;rw[L xs M] at G;cases G;exact⟨aL.refl _,id,RvN.sub Z⟩
theorem aEY{lo:Int}{m:Nat}{xs:List Vl}(G:xs=((Au m).map λ(k:Nat)=>Vl.cl (.int (lo+(k:Int))))):aAz K RT Y J σ σV H (Itr lo m) xs [] where
 sub:=λv B j L=>by subst G;obtain⟨d,_,e⟩:=AE.mp B;subst e;exact L
 nofr:=λv B=>by subst G;obtain⟨d,_,e⟩:=AE.mp B;subst e;rfl
 ok:=λR M i H1 k=>by
  have U:xs.length=m:=by rw[G,lM,AK]
  refine⟨λhi=>(show i<m by omega),λhi=>(show m<=i by omega),λy H' I v B=>?_⟩;obtain⟨e,I⟩:=I;subst e I;subst G;rw[Ar] at B;have hi:i<m:=by have:=(Ai.mp (show((Au m).map λ(k:Nat)=>Vl.cl (.int (lo+(k:Int))))[i]? = some v by rw[Ar];exact B)).1;simpa using this
  rw[Dq hi] at B;cases B;exact⟨aL.refl _,id,rfl⟩
theorem aKv{z:Str}(G:xs=(z.cps.toList.map λn=>Vl.cl (.str ⟨#[n]⟩))):aAz K RT Y J σ σV H (Its z) xs [] where
 sub:=λv B j M=>by subst G;obtain⟨d,_,e⟩:=AE.mp B;subst e;exact M
 nofr:=λv B=>by subst G;obtain⟨d,_,e⟩:=AE.mp B;subst e;rfl
 ok:=λR U i H1 k=>by
  have Z:xs.length=z.cps.size:=by rw[G,lM,AH]
  refine⟨λhi=>(show i<z.cps.size by omega),λhi=>(show z.cps.size<=i by omega),λy H' I v B=>?_⟩;obtain⟨e,c,L,I⟩:=I;subst e I;subst G;rw[Ar,Bu,L] at B;cases B;exact⟨aL.refl _,id,rfl⟩
theorem aKw(S:Sx K RT Y J σ σV H){ka kb:Bool}{as bs:List D}{a b:Addr}{xs I:List V}{pa:Bool}{al:List Nat}(qa:Sq ka K H a xs)(qb:Sq kb K H b I)(na:ka=true->¬ exV RT Y J σ σV pa al a)(nb:kb=true->¬ exV RT Y J σ σV pa al b)
 (ra:Reps K H (exV RT Y J σ σV pa al) as xs) (rb:Reps K H (exV RT Y J σ σV pa al) bs I):aAz K RT Y J σ σV H (Itz K ka kb a b) (items ⟨.non,false,pa,al⟩ (kE as bs)) al where
 sub:=λv M j hj=>by obtain⟨d,_,e⟩:=AE.mp M;subst e;exact vE j hj
 nofr:=λv M=>by obtain⟨d,_,e⟩:=AE.mp M;subst e;exact pS
 ok:=λR L i H1 k=>by
  have keep:∀{U:Bool} {c:Addr} {zs:List V},(U=true->¬ exV RT Y J σ σV pa al c)->Sq U K H c zs->Sq U K H1 c zs:=by
   intro U c zs nn q;cases U with
   | true=>exact k.seqL (λz=>nn rfl (iJ (L c z))) q|false=>exact k.seqT (λb z=>S.rt b (L b z).1) q
  have B:=keep na qa;have G:=keep nb qb;have hl:(items ⟨.non,false,pa,al⟩ (kE as bs)).length=min xs.length I.length:=by unfold items;rw[lM,nS,ra.length,rb.length]
  refine⟨λhi=>?_,λhi=>⟨xs,I,B,G,by omega⟩,λy H' hy v M=>?_⟩;have h1:i<xs.length:=by omega
  exact⟨xs,I,xs[i],I[i],B,G,Ac h1,Ac (by omega)⟩;obtain⟨p,x,y',rfl,hp,hk,rfl,hh⟩:=hy;obtain⟨hx,hy⟩:=hh xs I B G;obtain⟨d,hd,e⟩:=jB M;subst e;obtain⟨d1,Z,q1⟩:=(ra.outN.kp k (λb z=>S.rt b (L b z).1) λb z=>.inl (iJ (L b z))).get' hx;obtain⟨d2,q0,q2⟩:=(rb.outN.kp k (λb z=>S.rt b (L b z).1) λb z=>.inl (iJ (L b z))).get' hy;rw[yH Z q0] at hd;cases hd;exact⟨(aL.new hp),λtk=>tk.new hk,RvN.sub (⟨p,[x,y'],rfl,SqT.of aP,.cons (q1.grow (aL.new hp)) (.cons (q2.grow (aL.new hp)) .nil)⟩)⟩
theorem lV:∀(as:List D) (j:Int),(fA j as).length=as.length
 | [],_=>rfl|_::as,j=>by rw[fA,lC,lV as,lC]
theorem sZ:∀{as:List D} {i:Nat} {j:Int} {a:D},as[i]? = some a->(fA j as)[i]? = some (.tup [.int (j+(i:Int)),a])
 | [],_,_,_,h=>by simp at h|_::_,0,j,_,h=>by simp at h;subst h;simp[fA]|_::as,i+1,j,a,h=>by
  have:=sZ (j:=j+1) (by simpa using h);rw[fA,gS,this];have e:j+1+(i:Int)=j+((i+1:Nat):Int):=by omega
  rw[e]
theorem aHK(S:Sx K RT Y J σ σV H){k:Bool}{as:List D}{a:Addr}{xs:List V}{x:Vl}(Z:Sq k K H a xs)(na:k=true->¬ exV RT Y J σ σV x.pa x.al a)(ra:Reps K H (exV RT Y J σ σV x.pa x.al) as xs) :
 aAz K RT Y J σ σV H (Ite K k a) (items x (fA 0 as)) x.al where
 sub:=λv G j hj=>by obtain⟨d,_,e⟩:=AE.mp G;subst e;exact vE j hj
 nofr:=λv G=>by obtain⟨d,_,e⟩:=AE.mp G;subst e;exact pS
 ok:=λR I i H1 kp=>by
  have B:Sq k K H1 a xs:=by
   cases k with
   | true=>exact kp.seqL (λz=>na rfl (iJ (I a z))) Z|false=>exact kp.seqT (λb z=>S.rt b (I b z).1) Z
  have hl:(items x (fA 0 as)).length=xs.length:=by unfold items;rw[lM,lV,ra.length]
  refine⟨λhi=>⟨xs,xs[i]'(by omega),B,Ac (by omega)⟩,λhi=>⟨xs,B,by omega⟩,λy H' hy v G=>?_⟩;obtain⟨p,z,rfl,U,hk,rfl,hh⟩:=hy;obtain⟨d,hd,e⟩:=jB G;subst e;obtain⟨d1,L,M⟩:=(ra.outN.kp kp (λb z=>S.rt b (I b z).1) λb z=>.inl (iJ (I b z))).get' (hh xs B);rw[sZ L,Int.zero_add] at hd;cases hd;exact⟨(aL.new U),λtk=>tk.new hk,RvN.sub (⟨p,[.int i,z],rfl,SqT.of aP,.cons rfl (.cons (M.grow (aL.new U)) .nil)⟩)⟩
end
section
variable {X:Cx} {P:Pg} {Γ:Ct} {n:Nat} {RT Y J:Addr->Prop} {σ:Sg} {tg:A6}
noncomputable def wI(X:Cx)(P:Pg)(n:Nat)(RT Y J:Addr->Prop)(σ:Sg)(it:Hp.It):TI:=λσV H R=>Sx X.K RT Y J σ σV H/\RE (walk P (call P n) σ it) λxs=>∀J'' H1,Tk X.K H1->aL H H1->aAz X.K RT Y J σ σV H1 J'' xs.1 xs.2->R J'' H1
theorem pT(h:PI X tg iter t)(f:∀σV H R,Tk X.K H->t' σV H R->t σV H λJ'' H'=>Tk X.K H'->R J'' H'):PI X tg iter t':=λpins s σV H R I M=>thn (h pins s σV H _ I (f σV H R I.tk M)) λv s1 L=>thn L λU s2 ⟨it,fp,tn,J'',H',e,B,T,st,G,q⟩=>⟨it,fp,tn,J'',H',e,B,T,st,G,q B.tk⟩
theorem aNw(M:PE X e (WE X P n RT Y J σ c)):PI X tg e (wI X P n RT Y J σ (.seq c)):=by refine pT (aKt M) λσV H Z t ⟨S,h⟩=>?_;refine wE.one S (RE.bind' (h)) λx u H1 B t1 L I=>?_;have rv:=I.rv S;split at B;rename_i ds G;obtain⟨a,xs,e,q,U,r⟩:=rv.lst G;exact .inl ⟨a,e,.inl ⟨⟨xs,q⟩,λt'=>B _ _ t' I.1 (aHJ L q U r)⟩⟩;rename_i ds G;obtain⟨a,xs,e,q,r⟩:=rv.tup G;exact .inl ⟨a,e,.inr ⟨⟨xs,q⟩,λt'=>B _ _ t' I.1 (aKu L q r)⟩⟩;rename_i z G;obtain⟨c,B⟩:=B.iff;exact .inr ⟨z,rv.str G,λt'=>B _ _ t' I.1 (aKv rfl)⟩;exact B.elim
theorem pU(i j:Int):(jZ i j).map Vl.cl=(Au (j-i).toNat).map λ(k:Nat)=>Vl.cl (.int (i+(k:Int))):=by unfold jZ;rw[A7];rfl
theorem eX(h:bE k=true):-(2 ^ 62)<=k/\k<2 ^ 62:=by unfold bE at h;simp only[bA,AJ] at h;exact h
theorem aKx(M:Mc X P Γ n)(hf:f=("range" : Str))(hg:dD Γ f=true)(Z:PE X e (WE X P n RT Y J σ b))(I:aQ e=true):PI X tg (.Call (.Name f p) [e] [] pos) (wI X P n RT Y J σ (.rng (.c (.int 0)) b)):=by
 subst hf;refine pT (aCQ (M.gl hg) (M.md.blt _ (by decide +kernel)) (kJ Z yC I) (aC I)) λσV H RR t ⟨S,h⟩=>?_;have h:RE (ev P (call P n) σ b) λy=>RE (match (D.int 0),y.d with|.int i,.int j=>R.iff (bE i&&bE j) (R.ok ((jZ i j).map Vl.cl,[]))|_,_=>.bad) _:=
  RE.bind' (h)
 refine⟨S,?_⟩;show RE (ev P (call P n) σ b >>= λx=>evs P (call P n) σ .nil >>= λxs=>R.ok (x::xs)) _;rw[RE.bind];refine h.mono λy B=>?_;split at B;rename_i i j L U;cases L;obtain⟨c,B⟩:=B.iff;rw[bA] at c;intro us H1 t1 s1 r1;obtain⟨u,r',G,ru,hr⟩:=r1;rw[show r'=[] from hr] at G;subst G;refine⟨j,by rw[ru.int U],(eX c.2).1,(eX c.2).2,λt'=>B _ _ t' s1 (aEY ?_)⟩;rw[pU];simp;exact B.elim
theorem aKy(M:Mc X P Γ n)(hf:f=("range" : Str))(hg:dD Γ f=true)(ha:PE X ea (WE X P n RT Y J σ a))(hb:PE X eb (WE X P n RT Y J σ b))(I:aQ ea=true)(B:aQ eb=true) :
 PI X tg (.Call (.Name f p) [ea,eb] [] pos) (wI X P n RT Y J σ (.rng a b)):=by subst hf;refine pT (aCR (M.gl hg) (M.md.blt _ (by decide +kernel)) (kJ ha (kJ hb yC B) I) (by rw[aC I,aC B];rfl) (aC B)) λσV H RR t ⟨S,h⟩=>?_;refine⟨S,?_⟩;show RE (ev P (call P n) σ a >>= λx=>evs P (call P n) σ (.cons b .nil) >>= λxs=>R.ok (x::xs)) _;rw[RE.bind];refine(RE.bind' (h)).mono λx hx=>?_;rw[RE.bind];show RE (ev P (call P n) σ b >>= λx=>evs P (call P n) σ .nil >>= λxs=>R.ok (x::xs)) _;rw[RE.bind];refine(RE.bind' hx).mono λy L=>?_;split at L;rename_i i j Z e2;obtain⟨c,L⟩:=L.iff;rw[bA] at c;intro us H1 t1 s1 r1;obtain⟨u,r',eu,ru,u2,r2,G,U,hr⟩:=r1;rw[show r2=[] from hr] at G;subst G;subst eu;refine⟨i,j,by rw[ru.int Z,U.int e2],⟨(eX c.1).1,(eX c.1).2,(eX c.2).1,(eX c.2).2⟩,λt'=>L _ _ t' s1 (aEY ?_)⟩;rw[pU];exact L.elim
theorem aAA{x:Vl}(G:Rv X.K RT Y J σ σV H x u)(h:xS x.d=some ds):∃(k:Bool) (a:Addr) (xs:List V),u=.ref a/\Sq k X.K H a xs/\(k=true->¬ exV RT Y J σ σV x.pa x.al a)/\Reps X.K H (exV RT Y J σ σV x.pa x.al) ds xs:=by unfold xS at h;split at h;rename_i ds' B;cases h;obtain⟨a,xs,e,q,I,r⟩:=G.lst B;exact⟨true,a,xs,e,q,λ_=>I,r⟩;rename_i ds' B;cases h;obtain⟨a,xs,e,q,r⟩:=G.tup B;exact⟨false,a,xs,e,q,(λz=>absurd z bN),r⟩;cases h
theorem aNx(M:Mc X P Γ n)(hf:f=("zip" : Str))(hg:dD Γ f=true)(ha:PE X ea (WE X P n RT Y J σ a))(hb:PE X eb (WE X P n RT Y J σ b))(I:aQ ea=true)(B:aQ eb=true) :
 PI X (.Tuple elts tk tp) (.Call (.Name f p) [ea,eb] [] pos) (wI X P n RT Y J σ (.zip a b)):=by subst hf;refine pT (aKs (M.gl hg) (M.md.blt _ (by decide +kernel)) (kJ ha (kJ hb yC B) I) (by rw[aC I,aC B];rfl) (aC B)) λσV H RR t ⟨S,h⟩=>?_;refine⟨S,?_⟩;show RE (ev P (call P n) σ a >>= λx=>evs P (call P n) σ (.cons b .nil) >>= λxs=>R.ok (x::xs)) _;rw[RE.bind];refine(RE.bind' (h)).mono λx hx=>?_;rw[RE.bind];show RE (ev P (call P n) σ b >>= λx=>evs P (call P n) σ .nil >>= λxs=>R.ok (x::xs)) _;rw[RE.bind];refine(RE.bind' hx).mono λy hy=>?_;split at hy;rename_i as bs e1 e2;intro us H1 t1 s1 r1;obtain⟨u,r',eu,ru,u2,r2,G,q0,hr⟩:=r1;rw[show r2=[] from hr] at G;subst G;subst eu;obtain⟨ka,a1,xs,rfl,qa,na,ra⟩:=aAA ru e1;obtain⟨kb,b1,ys,rfl,qb,nb,rb⟩:=aAA q0 e2;have w1:∀c,exV RT Y J σ σV (x.pa||y.pa) (x.al++y.al) c->exV RT Y J σ σV x.pa x.al c:=λc z=>z.mono (λZ=>by rw[Z];rfl) λj L=>Bo _ L;have w2:∀c,exV RT Y J σ σV (x.pa||y.pa) (x.al++y.al) c->exV RT Y J σ σV y.pa y.al c:=λc z=>z.mono (λZ=>by rw[Z,Ha]) λj L=>AD _ L;exact⟨ka,kb,a1,b1,xs,ys,rfl,qa,qb,λt'=>hy _ _ t' s1 (aKw (S.grow s1 t1) qa qb (λU z=>na U (w1 _ z)) (λU z=>nb U (w2 _ z)) (ra.weak w1) (rb.weak w2))⟩;exact hy.elim
theorem aKz(M:Mc X P Γ n)(hf:f=("enumerate" : Str))(hg:dD Γ f=true)(ha:PE X ea (WE X P n RT Y J σ a))(B:aQ ea=true) :
 PI X (.Tuple elts tk tp) (.Call (.Name f p) [ea] [] pos) (wI X P n RT Y J σ (.enum a)):=by subst hf;refine pT (aHH (M.gl hg) (M.md.blt _ (by decide +kernel)) (kJ ha yC B) (aC B)) λσV H RR t ⟨S,h⟩=>?_;refine⟨S,?_⟩;show RE (ev P (call P n) σ a >>= λx=>evs P (call P n) σ .nil >>= λxs=>R.ok (x::xs)) _;rw[RE.bind];refine(RE.bind' (h)).mono λx G=>?_;split at G;rename_i as Z;intro us H1 t1 s1 r1;obtain⟨u,r',I,ru,hr⟩:=r1;rw[show r'=[] from hr] at I;subst I;obtain⟨k,U,xs,rfl,L,na,ra⟩:=aAA ru Z;exact⟨k,U,xs,rfl,L,λt'=>G _ _ t' s1 (aHK (S.grow s1 t1) L na ra)⟩;exact G.elim
end
noncomputable def gs:List Nat->TGs
 | []=>aMy|i::is=>aIP (xA i) (gs is)
noncomputable def gT(K:Fg):T->TG
 | .n i=>xA i|.t is=>aMz K is.length (gs is)
section
variable {K:Fg} {RT Y J:Addr->Prop} {σ:Sg} {σV:L2.St} {H H':Hp}
theorem set_some{α:Type}{l:List α}{i j:Nat}{x y:α}(e:(l.set i x)[j]? = some y):(i=j/\x=y/\i<l.length)\/(i≠j/\l[j]? = some y):=by by_cases B:i=j;subst B;have G:i<(l.set i x).length:=(Ai.mp e).1;rw[A1] at G;rw[Ay G] at e;cases e;exact .inl ⟨rfl,rfl,G⟩;rw[Af B] at e;exact .inr ⟨B,e⟩
theorem Sx.setSh(S:Sx K RT Y J σ σV H)(h:Rep K H (λa=>RT a\/exB Y J pa a) d u):Sx K RT Y J (σ.set i (.sh pa d)) (σV.set i (some u)) H where
 sh:=λj pa' d' e=>by
  rcases set_some e with⟨rfl,e,hl⟩|⟨B,e⟩
  cases e;exact⟨u,Ay (by rw[<-S.len];exact hl),h⟩;obtain⟨v,M,U⟩:=S.sh j pa' d' e;exact⟨v,by rw[Af B];exact M,U⟩
 own:=λj pa' ds e=>by
  rcases set_some e with⟨rfl,e,hl⟩|⟨B,e⟩
  cases e;obtain⟨a,xs,M,U⟩:=S.own j pa' ds e;exact⟨a,xs,by rw[Af B];exact M,U⟩
 trk:=S.trk
 yo:=S.yo
 tk:=S.tk
 rt:=S.rt
 inj:=λj j' pa' G ds ds' a I L Z e4=>by
  rcases set_some I with⟨_,e,_⟩|⟨n1,I⟩
  cases e;rcases set_some L with⟨_,e,_⟩|⟨n2,L⟩
  cases e;rw[Af n1] at Z;rw[Af n2] at e4;exact S.inj j j' pa' G ds ds' a I L Z e4
 len:=by rw[A1,A1];exact S.len
 dx:=S.dx.imp id (λj ds e=>by
  rcases set_some e with⟨_,z,_⟩|⟨B,e⟩
  cases z;exact⟨e,Af B⟩) (λ_ _ _ _ _ _ e=>e) (λ_ _ e z _=>⟨e,z⟩) (λ_ _ r=>r) (λj dss e=>by
  rcases set_some e with⟨_,z,_⟩|⟨B,e⟩
  cases z;exact⟨e,Af B⟩) (λ_ _ _ _ _ _ e=>e) λp xs e z=>⟨e,z.1,z.2.1,λk pa' ds q=>by
  rcases set_some q with⟨_,w,_⟩|⟨B,q⟩
  cases w;rw[Af B];exact z.2.2 k pa' ds q⟩
theorem Rep.out{ex:Addr->Prop}(h:Rep K H ex d v)(n:H a=none)(k:K.lookup a=none):Rep K H (λb=>b=a\/ex b) d v:=
 Rep.imp (λ_ _ q=>q) (λb xs B q=>⟨λz=>z.elim (λz=>by
  subst z;rcases q with(q|⟨o,q⟩)|⟨o,G,m,q,_⟩
  rw[n] at q;cases q;rw[n] at q;cases q;grind) B,q⟩) (λ_ _ q=>q) (λb o _ B q=>⟨λz=>z.elim (λz=>by rw[z,n] at q;cases q) B,q⟩) d v h
theorem Reps.out{ex:Addr->Prop}(h:Reps K H ex d v)(n:H a=none)(k:K.lookup a=none):Reps K H (λb=>b=a\/ex b) d v:=
 Reps.imp (λ_ _ q=>q) (λb xs B q=>⟨λz=>z.elim (λz=>by
  subst z;rcases q with(q|⟨o,q⟩)|⟨o,G,m,q,_⟩
  rw[n] at q;cases q;rw[n] at q;cases q;grind) B,q⟩) (λ_ _ q=>q) (λb o _ B q=>⟨λz=>z.elim (λz=>by rw[z,n] at q;cases q) B,q⟩) d v h
theorem Sx.storeOwn(S:Sx K RT Y J σ σV H)(s:aL H H')(t:Tk K H')(hn:H a=none)(Z:H' a=some (.lst xs))(r:Reps K H' (λb=>(RT b\/b=a)\/exB Y J pa b) ds xs) :
 Sx K (λb=>RT b\/b=a) Y J (σ.set i (.own pa ds)) (σV.set i (some (.ref a))) H' where
 sh:=λj pa' d' e=>by
  rcases set_some e with⟨rfl,e,G⟩|⟨B,e⟩
  cases e;obtain⟨v,U,h2⟩:=S.sh j pa' d' e;refine⟨v,by rw[Af B];exact U,((h2.out hn (t a (by rw[Z];simp))).grow s).weak λb z=>?_⟩;grind
 own:=λj pa' ds' e=>by
  rcases set_some e with⟨rfl,e,G⟩|⟨B,e⟩
  cases e;exact⟨a,xs,Ay (by rw[<-S.len];exact G),Z,.inr rfl,λz=>S.trk a (.inr (.inr z)) hn,r⟩;obtain⟨a',q1,U,h2,h3,h4,h5⟩:=S.own j pa' ds' e;refine⟨a',q1,by rw[Af B];exact U,s _ _ h2,.inl h3,h4,((h5.out hn (t a (by rw[Z];simp))).grow s).weak λb z=>?_⟩;grind
 trk:=λb z q=>by rcases z with(z|z)|z;exact S.trk b (.inl z) (s.free q);rw[z,Z] at q;cases q;exact S.trk b (.inr z) (s.free q)
 yo:=S.yo
 tk:=t
 rt:=λb z=>by rcases z with z|z;exact(S.rt b z).grow s;rw[z];exact .inl ⟨xs,Z⟩
 inj:=λj j' pa' q0 q2 q3 c e1 I M L=>by
  have fr:∀{j:Nat} {pa:Bool} {ds:List D},σ[j]? = some (.own pa ds)->σV[j]? = some (some (.ref a))->False:=λ{j pa ds} e q=>by obtain⟨a',q1,U,h2,_⟩:=S.own j pa ds e;rw[q] at U;grind
  rcases set_some e1 with⟨rfl,e,G⟩|⟨n1,e1⟩
  rcases set_some I with⟨rfl,_,_⟩|⟨n2,I⟩
  rfl;rw[Ay (by rw[<-S.len];exact G)] at M;cases M;rw[Af n2] at L;exact(fr I L).elim;rw[Af n1] at M;rcases set_some I with⟨rfl,e,G⟩|⟨n2,I⟩
  rw[Ay (by rw[<-S.len];exact G)] at L;cases L;exact(fr e1 M).elim;rw[Af n2] at L;exact S.inj j j' pa' q0 q2 q3 c e1 I M L
 len:=by rw[A1,A1];exact S.len
 dx:=S.dx.imp id (λj ds e=>by
  rcases set_some e with⟨_,z,_⟩|⟨B,e⟩
  cases z;exact⟨e,Af B⟩) (λ_ _ _ _ _ _ e=>e) (λb ys e z _=>⟨s _ _ e,.inl z⟩) (λ_ _ r=>aL.seqT s r) (λj dss e=>by
  rcases set_some e with⟨_,z,_⟩|⟨B,e⟩
  cases z;exact⟨e,Af B⟩) (λ_ _ _ _ _ _ e=>e) λp ys e z=>⟨s _ _ e,.inl z.1,z.2.1,λk pa' ds q w=>by
  rcases set_some q with⟨rfl,_,G⟩|⟨B,q⟩
  rw[Ay (by rw[<-S.len];exact G)] at w;grind;rw[Af B] at w;exact z.2.2 k pa' ds q w⟩
theorem jC{v:Vl}(h:v.fr=false):v.slot=.sh v.pa v.d:=by unfold Vl.slot;rw[h]
theorem aHL{v:Vl}(h:v.fr=true)(hd:v.d=.lst ds):v.slot=.own v.pa ds:=by unfold Vl.slot;rw[h,hd]
theorem Sx.store(S:Sx K RT Y J σ σV H){v:Vl}(I:Ro K RT Y J σ σV H H' v u)(t:Tk K H')(i:Nat) :
 ∃B,Sx K B Y J ((freeze σ v.al).set i v.slot) (σV.set i (some u)) H'/\∀b,B b->RT b\/H b=none:=by by_cases G:v.fr=true;obtain⟨s,h⟩:=I;rw[if_pos G] at h;obtain⟨a,xs,ds,M,U,L,Z,r⟩:=h;subst M;rw[aHL G U];refine⟨_,(S.frz v.al).storeOwn s t L Z (r.weak λb z=>?_),λb z=>z.elim (λz=>.inl z.1) λz=>.inr (by rw[z];exact L)⟩;rcases z with(z|z)|z;exact .inr (.inl z);exact .inl z;exact .inr (.inr z);rw[jC (by simpa using G)];exact⟨_,((S.grow I.1 t).frz v.al).setSh (I.rv S),λb z=>.inl z.1⟩
theorem aJe:∀{is:List Nat} {us:List V} {σV:L2.St} {H:Hp} {Q:L2.St->Hp->Prop},is.length=us.length->Q ((is.zip us).foldl (λs p=>s.set p.1 (some p.2)) σV) H->gs is us σV H Q
 | [],[],_,_,_,_,h=>⟨rfl,h⟩
 | [],_::_,_,_,_,e,_=>by simp at e|_::_,[],_,_,_,e,_=>by simp at e|i::is,u::us,σV,H,Q,e,h=>⟨u,us,rfl,aJe (by simpa using e) h⟩
theorem yI{v:Vl}:(v.sub d).slot=.sh (!noL d&&v.pa) d:=by rw[jC pS];unfold Vl.sub Vl.cl;grind
theorem Sx.setAll{v:Vl}:∀{is:List Nat} {ds:List D} {us:List V} {σ:Sg} {σV:L2.St},Sx K RT Y J σ σV H->Reps K H (λa=>RT a\/exB Y J v.pa a) ds us ->
 Sx K RT Y J ((is.zip ds).foldl (λσ p=>σ.set p.1 (v.sub p.2).slot) σ) ((is.zip us).foldl (λs p=>s.set p.1 (some p.2)) σV) H
 | [],_,_,_,_,S,_=>S|_::_,[],us,_,_,S,r=>by rw[show us=[] from r];exact S|i::is,d::ds,us,σ,σV,S,r=>by
  obtain⟨x,L,e,B,G⟩:=r;subst e;refine Sx.setAll (is:=is) ?_ G;show Sx K RT Y J (σ.set i (v.sub d).slot) (σV.set i (some x)) H;rw[yI];refine S.setSh ?_;cases I:noL d with
  | true=>exact Rep.free d x I B|false=>exact B
theorem mZ{α:Type}{B:Type}(f:B->α):∀{is:List Nat} {bs:List B} {l:List α} {j:Nat},j∉is->((is.zip bs).foldl (λs p=>s.set p.1 (f p.2)) l)[j]? = l[j]?
 | [],_,_,_,_=>rfl|_::_,[],_,_,_=>rfl|i::is,b::bs,l,j,h=>by
  have h':i≠j/\j∉is:=by grind
  rw[Ba,BD,mZ f h'.2,Af h'.1]
theorem yJ{α:Type}{B:Type}(f:B->α):∀{is:List Nat} {bs:List B} {l:List α},((is.zip bs).foldl (λs p=>s.set p.1 (f p.2)) l).length=l.length
 | [],_,_=>rfl|_::_,[],_=>rfl|i::is,b::bs,l=>by rw[Ba,BD,yJ f,A1]
theorem fold_mem{α:Type}{B:Type}(f:B->α):∀{is:List Nat} {bs:List B} {l:List α} {j:Nat} {x:α},((is.zip bs).foldl (λs p=>s.set p.1 (f p.2)) l)[j]? = some x->l[j]? = some x\/∃b,x=f b
 | [],_,_,_,_,h=>.inl h|_::_,[],_,_,_,h=>.inl h|i::is,b::bs,l,j,x,h=>by
  rw[Ba,BD] at h;rcases fold_mem f h with q|q;rcases set_some q with⟨_,e,_⟩|⟨_,e⟩
  exact .inr ⟨b,e.symm⟩;exact .inl e;exact .inr q
theorem pV{v:Vl}{is:List Nat}(e:bP σ v (.t is)=.ok σ2):∃ds,v.d=.tup ds/\ds.length=is.length/\σ2=(is.zip ds).foldl (λσ p=>σ.set p.1 (v.sub p.2).slot) σ:=by unfold bP at e;simp only at e;split at e;rename_i ds hd;split at e;rename_i B;cases e;exact⟨ds,hd,B,rfl⟩;cases e;cases e
theorem pW{v:Vl}(e:bP σ v (.n i)=.ok σ2):σ2=σ.set i v.slot:=by cases(e);rfl
theorem aEZ{B:Sg}(e:bP σ v t=.ok B)(h:j∉tIx t):B[j]? = σ[j]? := by
 cases t with
 | n i=>rw[pW e];exact Af λz=>h (by simp[tIx,z])|t is=>obtain⟨ds,_,_,e⟩:=pV e;rw[e];exact mZ (λd=>(v.sub d).slot) h
theorem aFa{B:Sg}(e:bP σ v t=.ok B):B.length=σ.length:=by
 cases t with
 | n i=>rw[pW e,A1]|t is=>obtain⟨ds,_,_,e⟩:=pV e;rw[e];exact yJ (λd=>(v.sub d).slot)
theorem aFb{v:Vl}{t:T}{B:Sg}{j:Nat}{pa:Bool}{ds:List D}(G:v.fr=false)(e:bP σ v t=.ok B)(h:B[j]? = some (.own pa ds)):σ[j]? = some (.own pa ds):=by
 cases t with
 | n i=>
  rw[pW e,jC G] at h;rcases set_some h with⟨_,e,_⟩|⟨_,e⟩
  cases e;exact e
 | t is=>
  obtain⟨ds',_,_,e⟩:=pV e;rw[e] at h;rcases fold_mem (λd=>(v.sub d).slot) h with q|⟨b,q⟩
  exact q;rw[yI] at q;cases q
theorem aFc(S:Sx K RT Y J σ σV H){v:Vl}{Q:L2.St->Hp->Prop}(G:v.fr=false)(h:Rep K H (λa=>RT a\/exB Y J v.pa a) v.d u)(e:bP σ v t=.ok σ2)
 (q:∀B,Sx K RT Y J σ2 B H->(∀j,j∉tIx t->B[j]? = σV[j]?)->Q B H):gT K t u σV H Q:=by
 cases t with
 | n i=>rw[pW e,jC G] at q;exact q _ (S.setSh h) λj I=>Af λz=>I (by simp[tIx,z])|t is=>obtain⟨ds,hd,M,e⟩:=pV e;rw[hd] at h;obtain⟨a,xs,rfl,L,r⟩:=h;have U:=r.length;refine⟨a,xs,rfl,L,by omega,aJe (by omega) (q _ ?_ λj I=>?_)⟩;rw[e];exact S.setAll r;exact mZ (λd=>some d) I
end
section
variable {X:Cx} {P:Pg} {Γ:Ct} {n:Nat} {RT Y J:Addr->Prop} {σ:Sg} {tg:A6} {pos:Du}
theorem yK(M:Mc X P Γ n):∀{is:List Nat} {es:List A6},is.length=es.length->((is.zip es).all λp=>match p.2 with|.Name x _=>bR Γ p.1 x|_=>false)=true ->
 PGs X es (gs is)/\(CK es X.env).length=is.length/\(CK es X.env).findIdx? (·.1)=none
 | [],[],_,_=>⟨aGY,rfl,rfl⟩
 | [],_::_,e,_=>by simp at e|_::_,[],e,_=>by simp at e|i::is,e::es,hl,h=>by
  rw[Ba,Ea,bA] at h;obtain⟨G,I,L⟩:=yK M (by simpa using hl) h.2;cases e with
  | Name x p=>have hs:=h.1;unfold bR at hs;simp only[bA,beq_iff_eq] at hs;have B:CK (.Name x p::es) X.env=(false,IF (.Name x p) X.env)::CK es X.env:=rfl;refine⟨aEc (aBp M.nd (by rw[M.N];exact hs.1.1) (M.loc hs.1.2) (M.st x hs.1.2)) G (by rw[B];rfl),?_,?_⟩;rw[B,lC,lC,I];rw[B,List.findIdx?_cons];simp[L]|_=>cases h.1
theorem aDs(M:Mc X P Γ n)(h:pG Γ t tg=true):PG X tg (gT X.K t):=by
 cases t with
 | n i=>
  cases tg with
  | Name x p=>have hs:bR Γ i x=true:=h;unfold bR at hs;simp only[bA,beq_iff_eq] at hs;exact aBp M.nd (by rw[M.N];exact hs.1.1) (M.loc hs.1.2) (M.st x hs.1.2)|_=>cases h
 | t is=>
  cases tg with
  | Tuple es k p=>have h:(is.length==es.length&&(is.zip es).all λp=>match p.2 with|.Name x _=>bR Γ p.1 x|_=>false)=true:=h;rw[bA,beq_iff_eq] at h;obtain⟨B,G,I⟩:=yK M h.1 h.2;exact aJF M.calm B G I|_=>cases h
noncomputable def ch0(k:Nat)(caps:List Nat)(σ:Sg):Sg:=Aj k .dead++caps.map λi=>(σ[i]?).getD .dead
theorem ch0_get{caps:List Nat}{σ:Sg}(h:(ch0 k caps σ)[j]? = some s):s=.dead\/∃G i,j=k+G/\caps[G]? = some i/\σ[i]? = some s:=by
 unfold ch0 at h;by_cases B:j<k;rw[A0 (by simpa using B),BF,if_pos B] at h;cases h;exact .inl rfl;rw[A3 (by simpa using B),AQ,Ar] at h;cases e:caps[j-k]? with
 | none=>rw[e] at h;cases h|some i=>
  rw[e] at h;have h':(σ[i]?).getD .dead=s:=Ao h;cases q:σ[i]? with
  | none=>rw[q] at h';exact .inl h'.symm|some z=>rw[q] at h';exact .inr ⟨j-k,i,by omega,e,by rw[q];exact congrArg some h'⟩
theorem aFd(B:j<k)(h:(ch0 k caps σ)[j]? = some s):s=.dead:=by unfold ch0 at h;rw[A0 (by simpa using B),BF,if_pos B] at h;cases h;rfl
theorem oM{caps:List Nat}{σV:L2.St}(e:caps[j]? = some i)(h:σV[i]? = some (some v)):(kI k caps σV)[k+j]? = some (some v):=by unfold kI;rw[A3 (by simp),AQ,Ar,AN,e];show some ((σV[i]?).getD none)=_;rw[h];rfl
theorem oN{caps:List Nat}{σV:L2.St}(e:caps[j]? = some i)(h:(kI k caps σV)[k+j]? = some (some v)):σV[i]? = some (some v):=by
 unfold kI at h;rw[A3 (by simp),AQ,Ar,AN,e] at h;have h':(σV[i]?).getD none=some v:=Ao h;cases q:σV[i]? with
 | none=>rw[q] at h';cases h'|some z=>rw[q] at h';exact congrArg some h'
theorem jD{α:Type}:∀{l:List α},l.Nodup->∀{i j:Nat} {x:α},l[i]? = some x->l[j]? = some x->i=j
 | [],_,_,_,_,h,_=>by simp at h|a::l,hn,0,0,_,_,_=>rfl|a::l,hn,0,j+1,x,h1,h2=>by
  have e:a=x:=by simpa using h1
  have:x∈l:=mG (by simpa using h2);subst e;exact absurd this (Az.mp hn).1
 | a::l,hn,i+1,0,x,h1,h2=>by
  have e:a=x:=by simpa using h2
  have:x∈l:=mG (by simpa using h1);subst e;exact absurd this (Az.mp hn).1
 | a::l,hn,i+1,j+1,x,h1,h2=>congrArg (·+1) (jD (Az.mp hn).2 (x:=x) (by simpa using h1) (by simpa using h2))
theorem Sx.child{K:Fg}{σV:L2.St}{H:Hp}(S:Sx K RT Y J σ σV H){k:Nat}{caps:List Nat}(nd:caps.Nodup):Sx K RT Y J (ch0 k caps σ) (kI k caps σV) H where
 sh:=λj pa d e=>by
  rcases ch0_get e with z|⟨j',i,rfl,I,hs⟩
  cases z;obtain⟨v,L,h2⟩:=S.sh i pa d hs;exact⟨v,oM I L,h2⟩
 own:=λj pa ds e=>by
  rcases ch0_get e with z|⟨j',i,rfl,I,hs⟩
  cases z;obtain⟨a,xs,L,h2⟩:=S.own i pa ds hs;exact⟨a,xs,oM I L,h2⟩
 trk:=S.trk
 yo:=S.yo
 tk:=S.tk
 rt:=S.rt
 inj:=λj1 j2 pa pa' ds ds' a M U e3 e4=>by
  rcases ch0_get M with z|⟨Z,i1,rfl,B,q1⟩
  cases z;rcases ch0_get U with z|⟨q0,i2,rfl,G,q2⟩
  cases z;have:=S.inj i1 i2 pa pa' ds ds' a q1 q2 (oN B e3) (oN G e4);subst this;rw[jD nd B G]
 len:=by unfold ch0 kI;rw[lA,lA,lM,lM,AQ,AQ]
 dx:=S.dx.imp (λj=>(caps[j-k]?).getD 0) (λj ds e=>by
  rcases ch0_get e with z|⟨j',i,rfl,I,hs⟩
  cases z;rw[AN,I];refine⟨hs,?_⟩;obtain⟨a,xs,L,_⟩:=S.dx.at' i ds hs;rw[oM I L];exact L.symm) (λj1 j2 ds ds' M U q=>by
  rcases ch0_get M with z|⟨Z,i1,rfl,B,_⟩
  cases z;rcases ch0_get U with z|⟨q0,i2,rfl,G,_⟩
  cases z;rw[AN,AN,B,G] at q;have q:=q;subst q;rw[jD nd B G]) (λ_ _ e z _=>⟨e,z⟩) (λ_ _ r=>r) (λj dss e=>by
  rcases ch0_get e with z|⟨j',i,rfl,I,hs⟩
  cases z;rw[AN,I];refine⟨hs,?_⟩;obtain⟨a,_,L,_⟩:=S.dx.at2 i dss hs;rw[oM I L];exact L.symm) (λj1 j2 ds ds' M U q=>by
  rcases ch0_get M with z|⟨Z,i1,rfl,B,_⟩
  cases z;rcases ch0_get U with z|⟨q0,i2,rfl,G,_⟩
  cases z;rw[AN,AN,B,G] at q;subst q;rw[jD nd B G]) λp xs e z=>⟨e,z.1,z.2.1,λj pa ds q w=>by
  rcases ch0_get q with v|⟨j',i,rfl,I,hs⟩
  cases v;exact z.2.2 i pa ds hs (oN I w)⟩
theorem Sx.forget{K:Fg}{σ':Sg}{σV:L2.St}{H:Hp}(S:Sx K RT Y J σ σV H)(Z:σ'.length=σ.length)(h:∀(j:Nat) (s:Sl),σ'[j]? = some s->s=.dead\/σ[j]? = some s):Sx K RT Y J σ' σV H where
 sh:=λj pa d e=>by rcases h j _ e with z|z;cases z;exact S.sh j pa d z
 own:=λj pa d e=>by rcases h j _ e with z|z;cases z;exact S.own j pa d z
 trk:=S.trk
 yo:=S.yo
 tk:=S.tk
 rt:=S.rt
 inj:=λB G pa pa' ds ds' a I L M U=>by rcases h B _ I with z|z1;cases z;rcases h G _ L with z|z2;cases z;exact S.inj B G pa pa' ds ds' a z1 z2 M U
 len:=by rw[Z];exact S.len
 dx:=S.dx.imp id (λj ds e=>(h j _ e).elim (λz=>by cases z) λz=>⟨z,rfl⟩) (λ_ _ _ _ _ _ e=>e) (λ_ _ e z _=>⟨e,z⟩) (λ_ _ r=>r) (λj ds e=>(h j _ e).elim (λz=>by cases z) λz=>⟨z,rfl⟩) (λ_ _ _ _ _ _ e=>e) λp xs e z=>⟨e,z.1,z.2.1,λk pa ds q=>(h k _ q).elim (λw=>by cases w) λw=>z.2.2 k pa ds w⟩
noncomputable def wTs(X:Cx)(P:Pg)(n:Nat)(RT Y J:Addr->Prop)(σ:Sg)(cs:Es):TT:=λσV H Q=>Sx X.K RT Y J σ σV H/\RE (tsts P (call P n) σ cs) λk=>∀H',Tk X.K H'->aL H H'->Q k H'
theorem aKA:PTs X [] (wTs X P n RT Y J σ .nil):=λpins s σV H Q I ⟨S,h⟩=>aHB pins s σV H Q I ((h) H I.tk (aL.refl H))
theorem aKB(h:PT X e (WT X P n RT Y J σ c)):PTs X [e] (wTs X P n RT Y J σ (.cons c .nil)):=λpins s σV H Q I ⟨S,G⟩=>aHC h pins s σV H Q I ⟨S,by
 refine(RE.bind' (G)).mono λk B=>?_;cases k with
 | true=>exact B|false=>exact B⟩
theorem Rvs.append{K:Fg}{σV:L2.St}{H:Hp}:∀{vs ws:List Vl} {us B:List V},Rvs K RT Y J σ σV H vs us->Rvs K RT Y J σ σV H ws B->Rvs K RT Y J σ σV H (vs++ws) (us++B)
 | [],_,_,_,h,q=>by rw[show _=[] from h];exact q|v::vs,_,_,_,h,q=>by obtain⟨u,r,e,G,I⟩:=h;subst e;exact⟨u,_,rfl,G,Rvs.append I q⟩
noncomputable def lv(k:Nat)(caps al:List Nat)(v:Vl):Vl:=⟨v.d,false,v.pa,al++v.al.filterMap λj=>caps[j-k]?⟩
theorem yL{f:Vl->R (Option Vl)}(h:cN f (x::xs)=.ok rs):∃y B,f x=.ok y/\cN f xs=.ok B/\rs=(match y with|some y=>y::B|none=>B):=by
 have h:(f x >>= λy=>cN f xs >>= λB=>(match y with|some y=>R.ok (y::B)|none=>R.ok B))=R.ok rs:=h;cases G:f x with
 | ok y=>
  rw[G] at h;have h:=h;cases I:cN f xs with
  | ok B=>
   rw[I] at h;refine⟨y,B,rfl,rfl,?_⟩;cases y with
   | none=>cases(h);rfl|some y=>cases(h);rfl
  | exc z=>rw[I] at h;cases h|bad=>rw[I] at h;cases h
 | exc z=>rw[G] at h;cases h|bad=>rw[G] at h;cases h
theorem R.bind_ok{α B:Type}{x:R α}{f:α->R B}{b:B}(h:(x >>= f)=.ok b):∃a,x=.ok a/\f a=.ok b:=by
 cases x with
 | ok a=>exact⟨a,rfl,h⟩|exc z=>cases h|bad=>cases h
theorem aFe{k:Nat}{caps:List Nat}{t:T}{it:Hp.It}{cond:Es}{elt:E}(w8:caps.Nodup)(hk:∀i∈tIx t,i<k){σV:L2.St}{H:Hp}{Q:VK}(hw:WE X P n RT Y J σ (.comp k caps t it cond elt) σV H Q) :
 aEK k caps (wI X P n RT Y J σ it) (gT X.K t) (λσV H Q=>∃RT Y J B,wTs X P n RT Y J B cond σV H Q) (λσV H Q=>∃RT Y J B,WE X P n RT Y J B elt σV H Q) σV H λv H'=>Tk X.K H'->Q v H':=by
 obtain⟨S,h⟩:=hw
 let f:List Nat->Vl->R (Option Vl):=λal x=>bP (ch0 k caps (freeze σ al)) x t >>= λB=>tsts P (call P n) B cond >>= λb=>if b=true then (ev P (call P n) B elt >>= λy=>R.ok (some y)) else R.ok none
 refine⟨S,(RE.bind' (h)).mono λxs hx J'' H1 t1 s1 ok=>?_⟩;obtain⟨vs,evs,hv⟩:=(RE.bind' hx).eq;obtain⟨hl,hq⟩:=hv.iff;have hl:=of_decide_eq_true hl;refine⟨λi m ys U Hc=>m=xs.1.length-i/\i<=xs.1.length/\aL H1 Hc/\Tk X.K Hc/\Sx X.K (rtF RT σ σV xs.2) Y J (ch0 k caps (freeze σ xs.2)) U Hc/\(∀j,k<=j->U[j]? = (kI k caps σV)[j]?) /\
  ∃ws rs,vs=ws++rs/\cN (f xs.2) (xs.1.drop i)=.ok rs/\Rvs X.K RT Y J σ σV Hc (ws.map (lv k caps xs.2)) ys,⟨_,rfl,A9 _,aL.refl _,t1,((S.grow s1 t1).frz xs.2).child w8,λ_ _=>rfl,[],vs,rfl,evs,rfl⟩,?_⟩
 rintro i m ys U Hc ⟨hm,hi,sc,tc,Sc,w4,ws,rs,G,q0,q3⟩;have okc:=ok.ok (λ_=>False) (λ_ z=>z.elim) i Hc (Kp.same sc);have q7:=q3.length;rw[lM] at q7;have z3:ws.length<=vs.length:=by rw[G,lA];omega
 by_cases I:i<xs.1.length;refine .inr ⟨okc.1 I,by rw[<-q7,AY];have:lim=1000000:=rfl;omega,λx H' hy=>?_⟩;obtain⟨sm,w9,rv⟩:=okc.2.2 x H' hy xs.1[i] (Ac I);rw[EE I] at q0;obtain⟨yo,z0,ef,q5,w3⟩:=yL q0;obtain⟨B,q1,ef⟩:=R.bind_ok ef;obtain⟨b,eb,ef⟩:=R.bind_ok ef;have w5:=ok.nofr _ (AM I);have rep:Rep X.K H' (λa=>rtF RT σ σV xs.2 a\/exB Y J xs.1[i].pa a) xs.1[i].d x:=Rep.weak (Rep.weak rv λa z=>.inl z) λa z=>by rcases z with z|z;exact .inl ⟨z.1,λq=>z.2 (q.mono (ok.sub _ (AM I)))⟩;exact .inr z
 refine aFc (Sc.grow sm (w9 tc)) w5 rep q1 λZ S2 q6=>⟨_,_,_,B,S2,?_⟩
 rw[eb];intro H3 t3 s3;have L:∀j,k<=j->Z[j]? = (kI k caps σV)[j]? := λj M=>by rw[q6 j λz=>absurd (hk j z) (F3.mpr M),w4 j M]
 have q4:∀{H5:Hp},Sx X.K (rtF RT σ σV xs.2) Y J B Z H5->Sx X.K (rtF RT σ σV xs.2) Y J (ch0 k caps (freeze σ xs.2)) Z H5:=λ{H5} S5=>S5.forget (aFa q1).symm λj s hs=>by by_cases M:j∈tIx t;exact .inl (aFd (hk j M) hs);exact .inr (by rw[aEZ q1 M];exact hs)
 cases b with
 | false=>rw[if_neg bN] at ef ⊢;cases(ef);subst w3;exact⟨_,by omega,rfl,I,sc.trans (sm.trans s3),t3,q4 (S2.grow s3 t3),L,ws,rs,G,q5,q3.grow (sm.trans s3)⟩|true=>
  rw[if_pos rfl] at ef ⊢;obtain⟨y,ey,ef⟩:=R.bind_ok ef;cases(ef);subst w3;refine⟨_,_,_,B,S2.grow s3 t3,?_⟩;rw[ey];intro u H4 t4 q2;refine⟨_,by omega,rfl,I,sc.trans (sm.trans (s3.trans q2.1)),t4,q4 ((S2.grow s3 t3).grow q2.1 t4),L,ws++[y],z0,by rw[G];simp,q5,?_⟩;rw[B2];refine(q3.grow (sm.trans (s3.trans q2.1))).append ⟨u,[],rfl,?_,rfl⟩;refine(q2.rv (S2.grow s3 t3)).weak λc z=>?_;rcases z with⟨z1,z2⟩|z;refine .inl ⟨⟨z1,λq=>z2 (q.mono λj M=>Bo _ M)⟩,λq=>z2 ?_⟩;obtain⟨j,M,⟨pa,ds,ho⟩,hV⟩:=q;rcases ch0_get (aFb w5 q1 ho) with z|⟨j',i',rfl,hc,hs⟩
  cases z;rw[L _ (CF _ _)] at hV;refine⟨i',AD _ (B0.mpr ⟨k+j',M,by rw[AN];exact hc⟩),⟨pa,ds,(eE hs).1⟩,oN hc hV⟩;exact .inr z
 have w6:i=xs.1.length:=by omega
 subst w6;rw[HR] at q0;cases(q0);rw[Bd] at G;subst G;refine .inl ⟨okc.2.1 (An _),by rw[<-q7];exact eB hl,λp hp t'=>hq _ _ t' ?_⟩;have q8:=S.grow (s1.trans sc) tc;have q9:(vs.map (lv k caps xs.2)).map (·.d)=vs.map (·.d):=by rw[A7];rfl
 have rr:Reps X.K Hc (exV RT Y J σ σV (dN vs) (xs.2++(bQ vs).filterMap λj=>caps[j-k]?)) (vs.map (·.d)) ys:=by rw[<-q9];refine q3.reps λv hv=>?_;obtain⟨w,hw,e⟩:=AE.mp hv;subst e;refine⟨λz=>xY hw z,λj M=>?_⟩;rcases C1.mp M with z|z;exact Bo _ z;obtain⟨j',w7,e⟩:=B0.mp z;exact AD _ (B0.mpr ⟨j',nR hw j' w7,e⟩)
 unfold fB;split;rename_i hn;exact(Ro.fresh hp t' rfl rfl q8 (Reps.free _ _ hn rr)).from (s1.trans sc)
 exact(Ro.fresh hp t' rfl rfl q8 rr).from (s1.trans sc)
theorem aKC(M:Mc X P Γ n){k:Nat}{caps:List Nat}{t:T}{it:Hp.It}{cond:Es}{elt:E}{e G:A6}{U:List A6}{scope:De}{N':List Str}(CS:cS X scope k caps N')(q0:caps.Nodup)(hk:∀i∈tIx t,i<k)
 (hi:PI X tg G (wI X P n RT Y J σ it))
 (Z:∀C s₀ H₀ ex,PG (dB X scope N' C s₀ H₀ ex) tg (gT X.K t)/\(∀RT Y J B,PTs (dB X scope N' C s₀ H₀ ex) U (wTs X P n RT Y J B cond))/\∀RT Y J B,PE (dB X scope N' C s₀ H₀ ex) e (WE X P n RT Y J B elt))
 (hs:∀x,BJ G X.env x=pure x):PE X (.ListComp e [⟨tg,G,U,0⟩] scope pos) (WE X P n RT Y J σ (.comp k caps t it cond elt)):=by refine(aBG CS M.calm hi (λC s₀ H₀ ex=>?_) hs).imp λσV H Q t0 L=>aFe q0 hk L;obtain⟨h1,h2,h3⟩:=Z C s₀ H₀ ex;exact⟨h1,λpins s σV H Q I ⟨RT,Y,J,B,L⟩=>h2 RT Y J B pins s σV H Q I L,λpins s σV H Q I ⟨RT,Y,J,B,L⟩=>h3 RT Y J B pins s σV H Q I L⟩
end
end Hp
namespace L2
open PySem PySem.Spec PyProof.Rows SetTable
set_option maxRecDepth 100000
noncomputable def tm(m:Nat)(ps:List Nat)(mv:Nat)(led:Bool):SetTable:={ mask:=m,place:=ps.toArray,dummies:=#[],finger:=0,led:=led,moves:=mv,plain:=true }
abbrev lW(ps:List Nat):Prop:=ps.Pairwise (· < ·)
theorem lW.lt{ps:List Nat}(h:lW ps){i k v u:Nat}(B:i<k)(hi:ps[i]? = some v)(G:ps[k]? = some u):v<u:=by obtain⟨a,rfl⟩:=Ai.mp hi;obtain⟨b,rfl⟩:=Ai.mp G;exact EF.mp h i k a b B
theorem pX{ps:List Nat}{j:Nat}(L:lW ps):∀(B lo hi:Nat),lo<=hi->hi<=ps.length->hi-lo<=B->(∀i v,i<lo->ps[i]? = some v->v<j)->(∀i v,hi<=i->ps[i]? = some v->j<=v) ->
 ∃r,below.go ps.toArray j B lo hi=r/\r<=ps.length/\(∀i v,i<r->ps[i]? = some v->v<j)/\(∀i v,r<=i->ps[i]? = some v->j<=v)
 | 0,lo,hi,h1,h2,h3,a,b=>⟨lo,rfl,by omega,a,λi v q=>b i v (by omega)⟩
 | f+1,lo,hi,h1,h2,h3,a,b=>by
  rw[below.go];by_cases c:lo<hi;rw[if_pos c];have U:(lo+hi) / 2<ps.length:=by omega
  have e:ps.toArray.getD ((lo+hi) / 2) j=ps[(lo+hi) / 2]:=by simp_all
  have I:ps[(lo+hi) / 2]? = some ps[(lo+hi) / 2]:=Ac U;dsimp only;rw[e];by_cases d:ps[(lo+hi) / 2]<j;rw[if_pos d];refine pX L f _ _ (by omega) h2 (by omega) (λi v M G=>?_) b;rcases Bb i ((lo+hi) / 2) with q|q;exact DL (L.lt q G I) d;obtain rfl:i=(lo+hi) / 2:=by omega
  rw[I] at G;cases G;exact d;rw[if_neg d];refine pX L f _ _ (by omega) (by omega) (by omega) a λi v M G=>?_;rcases Bb ((lo+hi) / 2) i with q|q;exact DE (G3 (by omega) (L.lt q I G));obtain rfl:i=(lo+hi) / 2:=by omega
  rw[I] at G;cases G;omega;rw[if_neg c];exact⟨lo,rfl,by omega,a,λi v q=>b i v (by omega)⟩
theorem bel{ps:List Nat}(B:lW ps)(j:Nat):below ps.toArray j<=ps.length/\(∀i v,i<below ps.toArray j->ps[i]? = some v->v<j)/\(∀i v,below ps.toArray j<=i->ps[i]? = some v->j<=v):=by obtain⟨r,e,h⟩:=pX B ps.length 0 ps.length (A9 _) (An _) (by omega) (λi v h=>absurd h (C3 _)) (λi v h q=>by rw[AR h] at q;cases q);rw[show below ps.toArray j=r from by unfold below;rw[Ah];exact e];exact h
theorem aAB{ps:List Nat}(B:lW ps){i j:Nat}(h:ps[i]? = some j):below ps.toArray j=i:=by obtain⟨L,G,I⟩:=bel B j;rcases EN (below ps.toArray j) i with q|q|q;have M:=(Ai.mp h).1;have:=I _ _ (An _) (Ac (by omega));have:=B.lt q (Ac (by omega)) h;omega;exact q;exact absurd (G i j q h) (AX _)
section
variable {m mv:Nat} {ps:List Nat} {led:Bool} {h:Int}
theorem gA(B:lW ps)(h:ps[i]? = some j):(tm m ps mv led).slot j=.live i:=by unfold Jw;show(if ((ps.toArray)[below ps.toArray j]?==some j)=true then Slot.live (below ps.toArray j) else _)=_;rw[aAB B h,CW,h,if_pos (by simp)]
theorem aAC(h:j∉ps):(tm m ps mv led).slot j=.empty:=by unfold Jw;show(if ((ps.toArray)[below ps.toArray j]?==some j)=true then Slot.live (below ps.toArray j) else if has #[] j=true then Slot.dummy else Slot.empty)=_;rw[if_neg (λq=>h (mG (by rw[CW] at q;exact of_decide_eq_true (by simpa using q)))),if_neg (by simp[has])]
noncomputable def stp(m:Nat)(p:Probe):Probe:=(tm m [] 0 true).advance p
noncomputable def pth(m:Nat)(h:Int):Nat->Probe
 | 0=>(tm m [] 0 true).probeStart h|n+1=>stp m (pth m h n)
theorem aDt(p:Probe):(stp m p).dummy=p.dummy:=by unfold stp DW;split <;> rfl
theorem tD:∀n,(pth m h n).dummy=none
 | 0=>rfl|n+1=>(aDt _).trans (tD n)
theorem probe_go(hr:lW ps)(g:Nat->Int)(hN:(pth m h N).j∉ps)(hl:∀n,n<N->(pth m h n).j∈ps):∀I n,n<=N->N-n<I ->
 ((∀G,(∀i,i<ps.length->G i=g i)->probe.go (tm m ps mv led) G h I (pth m h n)=some (.empty (pth m h N).j none))/\∀n' i,n<=n'->n'<N->ps[i]? = some (pth m h n').j->g i≠h) \/
 ∃n' i,n<=n'/\n'<N/\ps[i]? = some (pth m h n').j/\g i=h/\(∀G,(∀i,i<ps.length->G i=g i)->probe.go (tm m ps mv led) G h I (pth m h n)=some (.candidate (pth m h n').j i (pth m h (n'+1))))/\∀B i,n<=B->B<n'->ps[i]? = some (pth m h B).j->g i≠h
 | 0,n,_,h2=>absurd h2 (C3 _)|f+1,n,h1,h2=>by
  rcases Bb n N with q|q;obtain⟨i,hi⟩:=BO.mp (hl n q);have Z:=(Ai.mp hi).1;by_cases c:g i=h;refine .inr ⟨n,i,An _,q,hi,c,λG M=>?_,λB i a b=>absurd a (by omega)⟩;rw[probe.go,gA hr hi];dsimp only;rw[if_pos (by rw[M i Z,c];simp)];rfl;have q0:∀U,ps[U]? = some (pth m h n).j->g U≠h:=λU L=>by have:=gA (m:=m) (mv:=mv) (led:=led) hr L;rw[gA hr hi] at this;grind
  have one:∀G,(∀i,i<ps.length->G i=g i)->probe.go (tm m ps mv led) G h (f+1) (pth m h n)=probe.go (tm m ps mv led) G h f (pth m h (n+1)):=λG M=>by rw[probe.go,gA hr hi];dsimp only;rw[if_neg (by rw[M i Z];simpa using c)];rfl
  have step:∀{n' B:Nat} {U:Nat},(∀B i,n+1<=B->B<n'->ps[i]? = some (pth m h B).j->g i≠h)->n<=B->B<n'->ps[U]? = some (pth m h B).j->g U≠h:=λH a b L=>by rcases Bb n _ with z|z;exact H _ _ z b L;have:_=n:=Ip z a;rw[this] at L;exact q0 _ L
  rcases probe_go hr g hN hl f (n+1) (by omega) (by omega) with⟨e,H⟩|⟨n',U,a1,a2,a3,a4,a5,a6⟩
  exact .inl ⟨λG M=>(one G M).trans (e G M),λn' U a b c=>step H a b c⟩;exact .inr ⟨n',U,by omega,a2,a3,a4,λG M=>(one G M).trans (a5 G M),λB q1 a b c=>step a6 a b c⟩;obtain rfl:n=N:=by omega
  refine .inl ⟨λG M=>?_,λn' i a b=>absurd a (by omega)⟩;rw[probe.go,aAC hN];dsimp only;rw[tD]
noncomputable def lps(m:Nat)(h:Int):Nat->Nat×Nat
 | 0=>(bits h % (m+1),bits h)
 | c+1=>leap m (lps m h c).1 (lps m h c).2
noncomputable def rn(m:Nat)(x:Nat×Nat)(k:Nat):Probe:={ j:=x.1+k,more:=runEnd m x.1-x.1-k,i:=x.1,perturb:=x.2,dummy:=none }
noncomputable def off(m:Nat)(h:Int):Nat->Nat
 | 0=>0|c+1=>off m h c+(runEnd m (lps m h c).1-(lps m h c).1)+1
theorem aFf(i:Nat):i<=runEnd m i/\runEnd m i<=i+9:=by unfold runEnd;split <;> omega
theorem oO:∀c,(∀k,k<=runEnd m (lps m h c).1-(lps m h c).1->pth m h (off m h c+k)=rn m (lps m h c) k):=by
 have more:∀{c},pth m h (off m h c)=rn m (lps m h c) 0->∀k,k<=runEnd m (lps m h c).1-(lps m h c).1->pth m h (off m h c+k)=rn m (lps m h c) k:=by
  intro c e k
  induction k with
  | zero=>intro _;exact e|succ k B=>intro G;show stp m (pth m h (off m h c+k))=_;rw[B (by omega)];unfold stp DW;rw[if_pos (show(rn m (lps m h c) k).more>0 by show runEnd m (lps m h c).1-(lps m h c).1-k>0;omega)];rfl
 intro c
 induction c with
 | zero=>exact more rfl|succ c B=>refine more ?_;show stp m (pth m h (off m h c+(runEnd m (lps m h c).1-(lps m h c).1)))=_;rw[B _ (An _)];unfold stp DW;rw[if_neg (show ¬ (rn m (lps m h c) _).more>0 by show ¬ (runEnd m (lps m h c).1-(lps m h c).1-(runEnd m (lps m h c).1-(lps m h c).1)>0);omega)];rfl
theorem aAD:∀c,off m h c<=10*c
 | 0=>An _|c+1=>by have:=aAD c;have:=aFf (m:=m) (lps m h c).1;show off m h c+(runEnd m (lps m h c).1-(lps m h c).1)+1<=_;omega
theorem aBJ:∀c,(lps m h c).2=bits h / 32 ^ c
 | 0=>by rw[Nat.pow_zero,Nat.div_one];rfl|c+1=>by show(lps m h c).2 / 32=_;rw[aBJ c,Nat.div_div_eq_div_mul,Nat.pow_succ]
theorem aHM:∀c,(lps m h c).1<m+1
 | 0=>DA _ (Ew _)|c+1=>DA _ (Ew _)
theorem aKD(n:Nat):(pth m h n).j<m+1:=by
 have run:∀i,i<m+1->i+(runEnd m i-i)<m+1:=λi hi=>by unfold runEnd;split <;> omega
 have:∀n,(pth m h n).j+(pth m h n).more<m+1:=by
  intro n
  induction n with
  | zero=>exact run _ (DA _ (Ew _))|succ n B=>show(stp m (pth m h n)).j+(stp m (pth m h n)).more<m+1;unfold stp DW;split;rename_i q;show(pth m h n).j+1+((pth m h n).more-1)<m+1;omega;exact run _ (DA _ (Ew _))
 exact G3 (CF _ _) (this n)
noncomputable def itr(m:Nat):Nat->Nat->Nat
 | 0,i=>i|d+1,i=>(itr m d i*5+1) % (m+1)
theorem aHN:∀d,lps m h (13+d)=(itr m d (lps m h 13).1,0):=by
 have z:(lps m h 13).2=0:=by
  rw[aBJ];refine Nat.div_eq_of_lt ?_;have:bits h<2 ^ 64:=by unfold bits;omega
  exact AC this (by decide)
 intro d
 induction d with
 | zero=>exact JX rfl z|succ d B=>show leap m (lps m h (13+d)).1 (lps m h (13+d)).2=_;rw[B];unfold leap;simp[itr]
theorem aQb:∀i,i<8->∀j,j<8->∃d,d<8/\itr 7 d i=j:=by
 have:∀i∈Au 8,∀j∈Au 8,∃d∈Au 8,itr 7 d i=j:=by decide +kernel
 simp_all
theorem aNy:∀i,i<32->∀j,j<32->∃d,d<32/\itr 31 d i=j:=by
 have:∀i∈Au 32,∀j∈Au 32,∃d∈Au 32,itr 31 d i=j:=by decide +kernel
 simp_all
abbrev M2(m:Nat):Prop:=m=7\/m=31
theorem aJf(I:M2 m)(B:j<m+1):∃c,c<m+14/\(lps m h c).1=j:=by
 have G:=aHM (m:=m) (h:=h) 13;have:∃d,d<m+1/\itr m d (lps m h 13).1=j:=by rcases I with rfl|rfl;exact aQb _ G _ B;exact aNy _ G _ B
 obtain⟨d,a,b⟩:=this;exact⟨13+d,by omega,by rw[aHN];exact b⟩
theorem tE(G:ps.length<=m):∃j,j<m+1/\j∉ps:=by refine Cy λq=>?_;have:=Fi.length_le_of_subset λj B=>Cy λz=>q ⟨j,AV.mp B,z⟩;rw[AK] at this;omega
theorem aKE{P:Nat->Prop}:∀n,P n->∃k,k<=n/\P k/\∀i,i<k->¬ P i:=by
 intro n
 induction n using Nat.strongRecOn with
 | _ n B=>intro h;by_cases q:∃i,i<n/\P i;obtain⟨i,a,b⟩:=q;obtain⟨k,c,d⟩:=B i a b;exact⟨k,by omega,d⟩;exact⟨n,An _,h,λi hi z=>q ⟨i,hi,z⟩⟩
theorem aAE(L:M2 m)(I:ps.length<=m)(h:Int):∃N,N<10*(m+15)/\(pth m h N).j∉ps/\∀n,n<N->(pth m h n).j∈ps:=by
 obtain⟨j,a,b⟩:=tE I;obtain⟨c,d,e⟩:=aJf L a;have z:(pth m h (off m h c)).j=j:=by have:=oO (m:=m) (h:=h) c 0 (A9 _);rw[Nat.add_zero] at this;rw[this];exact e
 obtain⟨N,U,B,G⟩:=aKE (P:=λn=>(pth m h n).j∉ps) (off m h c) (by rw[z];exact b);have:=aAD (m:=m) (h:=h) c;exact⟨N,by omega,B,λn M=>Cy λq=>G n M q⟩
end
noncomputable def Rod(m:Nat)(P:Nat->Prop)(h:Int)(j:Nat):Prop:=∃n,n<10*(m+15)/\(pth m h n).j=j/\∀n',n'<n->P (pth m h n').j
theorem Rod.mono{P B:Nat->Prop}(I:∀x,P x->B x):Rod m P h j->Rod m B h j:=λ⟨n,a,b,c⟩=>⟨n,a,b,λn' G=>I _ (c n' G)⟩
theorem aBK(ow:Array (Option Nat)):∀G c,(∃I,c<=I/\I<c+G/\ow.getD (lps m h I).1 (some 0)=none) ->
 ∃n j,layClean.free m ow G (lps m h c).1 (lps m h c).2=some j/\n<10*(c+G)/\(pth m h n).j=j/\ow.getD j (some 0)=none/\∀n',off m h c<=n'->n'<n->ow.getD (pth m h n').j (some 0)≠none
 | 0,c,⟨I,a,b,_⟩=>absurd b (by omega)|f+1,c,⟨I,a,b,e⟩=>by
  rw[layClean.free];have hr:=aFf (m:=m) (lps m h c).1;have ho:=aAD (m:=m) (h:=h) c;cases q:(Au (runEnd m (lps m h c).1+1-(lps m h c).1)).find? λk=>(ow.getD ((lps m h c).1+k) (some 0)).isNone with
  | some k=>
   obtain⟨k1,k2,k3⟩:=List.find?_range_eq_some.mp q;have q0:=AV.mp k2;have at_:∀B,B<=k->(pth m h (off m h c+B)).j=(lps m h c).1+B:=λB M=>by rw[oO c B (by omega)];rfl
   refine⟨off m h c+k,(lps m h c).1+k,rfl,by omega,at_ k (An _),by simpa using k1,λn' U L=>?_⟩;have:=at_ (n'-off m h c) (by omega);rw[show off m h c+(n'-off m h c)=n' by omega] at this;rw[this];have:=k3 (n'-off m h c) (by omega);intro z;rw[z] at this;simp at this
  | none=>
   have at_:∀B,B<=runEnd m (lps m h c).1-(lps m h c).1->ow.getD (pth m h (off m h c+B)).j (some 0)≠none:=λB M=>by rw[oO c B M];intro z;have:=(List.find?_range_eq_none.mp q) B (by omega);rw[show ow.getD ((lps m h c).1+B) (some 0)=none from z] at this;simp at this
   have Z:c≠I:=λz=>by subst z;have:=at_ 0 (A9 _);rw[oO c 0 (A9 _)] at this;exact this e
   obtain⟨n,j,r1,r2,r3,r4,r5⟩:=aBK ow f (c+1) ⟨I,by omega,by omega,e⟩;refine⟨n,j,r1,by omega,r3,r4,λn' U L=>?_⟩;rcases Bb n' (off m h (c+1)) with z|z;have z':n'<off m h c+(runEnd m (lps m h c).1-(lps m h c).1)+1:=z;have:=at_ (n'-off m h c) (by omega);rw[show off m h c+(n'-off m h c)=n' by omega] at this;exact this;exact r5 n' z L
structure Ow (hs:List Int) (ow:Array (Option Nat)) (ps:List Nat):Prop where
 sz:ow.size=32
 len:ps.length=hs.length
 at_:∀j x:Nat,ow[j]? = some (some x)↔ps[x]? = some j
 rod:∀(x:Nat) h j,hs[x]? = some h->ps[x]? = some j->Rod 31 (·∈ps) h j
theorem Ow.step{hs:List Int}{ow:Array (Option Nat)}(o:Ow hs ow ps)(hl:hs.length<=31)(h:Int):∃j,layClean.free 31 ow (turns 31) (bits h % 32) (bits h)=some j/\Ow (hs++[h]) (ow.setIfInBounds j (some hs.length)) (ps++[j]):=by
 have B:∀j,ow.getD j (some 0)≠none->j<32->j∈ps:=λj U q0=>by
  cases q:ow[j]? with
  | none=>rw[E6,o.sz] at q;omega|some y=>
   cases y with
   | none=>simp_all|some x=>exact mG ((o.at_ j x).mp q)
 obtain⟨j0,a,b⟩:=tE (m:=31) (ps:=ps) (by rw[o.len];exact hl);obtain⟨c,d,e⟩:=aJf (h:=h) (.inr rfl) a;obtain⟨n,j,r1,r2,r3,I,r5⟩:=aBK (m:=31) (h:=h) ow (31+15) 0 ⟨c,A9 _,by omega,by
  rw[e];exact Cy λq=>b (B j0 q a)⟩
 have U:ow[j]? = some none:=by
  rw[AF] at I;cases q:ow[j]? with
  | none=>rw[q] at I;cases I|some y=>rw[q] at I;exact congrArg some I
 have G:j<32:=by rw[<-o.sz];exact(Dh.mp U).1
 refine⟨j,r1,by rw[Array.size_setIfInBounds];exact o.sz,by rw[lA,lA,o.len];rfl,λZ x=>?_,λx h' Z L M=>?_⟩;rw[Array.getElem?_setIfInBounds];by_cases q:j=Z;subst q;rw[if_pos rfl,if_pos (by rw[o.sz];exact G)];constructor;intro z;cases z;rw[<-o.len];simp;intro z;rcases Bb x ps.length with k|k;rw[A0 k] at z;rw[(o.at_ j x).mpr z] at U;cases U;rw[A3 k] at z;have:x-ps.length=0:=by have:=(Ai.mp z).1;simp at this;omega
 rw[show x=hs.length by have:=o.len;omega];rw[if_neg q,o.at_ Z x];constructor;intro z;rw[A0 (Ai.mp z).1];exact z;intro z;rcases Bb x ps.length with k|k;rw[A0 k] at z;exact z;rw[A3 k] at z;have:=mG z;exact absurd (A8.mp this).symm q;rcases Bb x hs.length with k|k;rw[A0 k] at L;rw[A0 (by rw[o.len];exact k)] at M;exact(o.rod x h' Z L M).mono λy hy=>Bo _ hy;rw[A3 k] at L;rw[A3 (by rw[o.len];exact k)] at M;obtain rfl:=(A8.mp (mG L))
 obtain rfl:=(A8.mp (mG M))
 exact⟨n,by omega,r3,λn' hn=>Bo _ (B _ (r5 n' (A9 _) hn) (aKD n'))⟩
set_option maxRecDepth 100000
theorem Ow.nil:Ow [] (Eo 32 none) [] where
 sz:=by simp
 len:=rfl
 at_:=λj x=>by rw[Array.getElem?_replicate];grind
 rod:=λx h j B=>by simp at B
noncomputable def aKF(acc:Option (Array (Option Nat)×Nat))(h:Int):Option (Array (Option Nat)×Nat):=do
 let (owner,k)<-acc
 let j<-layClean.free 31 owner (turns 31) (bits h % (31+1)) (bits h)
 pure (owner.setIfInBounds j (some k),k+1)
theorem yM:∀(rest hs:List Int) (ow:Array (Option Nat)) (ps:List Nat),Ow hs ow ps->hs.length+rest.length<=31->∃B G,rest.foldl aKF (some (ow,hs.length))=some (B,(hs++rest).length)/\Ow (hs++rest) B G
 | [],hs,ow,ps,o,_=>⟨ow,ps,by rw[Bd];rfl,by rw[Bd];exact o⟩
 | h::rest,hs,ow,ps,o,hl=>by
  rw[lC] at hl;obtain⟨j,e,o'⟩:=o.step (by omega) h;have:=yM rest (hs++[h]) _ _ o' (by rw[lA];show hs.length+1+rest.length<=31;omega);rw[EL,lA] at this;have I:aKF (some (ow,hs.length)) h=some (ow.setIfInBounds j (some hs.length),hs.length+1):=by show(do let j<-layClean.free 31 ow (turns 31) (bits h % (31+1)) (bits h);pure (ow.setIfInBounds j (some hs.length),hs.length+1))=_;rw[e];rfl
  rw[BD,I];exact this
theorem aHO(hs:List Int)(hl:hs.length<=31)(f mv:Nat)(led pl:Bool):∃B:List (Nat×Nat),
 laid 31 f mv led pl hs.toArray=some ({ mask:=31,place:=(B.map (·.1)).toArray,dummies:=#[],finger:=f,led:=led,moves:=mv,plain:=pl },(B.map (·.2)).toArray) /\
 lW (B.map (·.1))/\(B.map (·.2)).Perm (Au hs.length)/\∀p∈B,∀h,hs[p.2]? = some h->Rod 31 (·∈B.map (·.1)) h p.1:=by
 obtain⟨ow,ps,e,o⟩:=yM hs [] _ _ Ow.nil (by simpa using hl);rw[C2] at e o;refine⟨(Au 32).filterMap λj=>(ow.getD j none).map (j,·),?_,?_,?_,?_⟩
 . unfold laid;have:layClean 31 hs.toArray=some ow:=by unfold layClean;rw[<-Array.foldl_toList];show(hs.foldl aKF (some (Eo 32 none,0))).map (·.1)=some ow;rw[show(some (Eo 32 none,0):Option (Array (Option Nat)×Nat))=some (Eo 32 none,([]:List Int).length) from rfl,e];rfl
   rw[this];rfl
 all_goals
  have mem:∀j x,(ow.getD j none).map (j,·)=some x->x.1=j/\ps[x.2]? = some j:=λj x G=>by
   rw[AF] at G;cases q:ow[j]? with
   | none=>rw[q] at G;cases G|some y=>
    rw[q] at G;cases y with
    | none=>cases G|some z=>cases G;exact⟨rfl,(o.at_ j z).mp q⟩
 . rw[lW,C5];exact Fj _ (λa a' h b M b' L=>by rw[(mem _ _ M).1,(mem _ _ L).1];exact h) F7
 all_goals
  have I:∀x j,ps[x]? = some j->(j,x)∈(Au 32).filterMap λj=>(ow.getD j none).map (j,·):=λx j G=>by have q:=(o.at_ j x).mpr G;refine B0.mpr ⟨j,AV.mpr (by rw[<-o.sz];exact(Dh.mp q).1),?_⟩;rw[AF,q];rfl
 refine(List.perm_ext_iff_of_nodup ?_ Fi).mpr λx=>?_;rw[Kx,C5];exact Fj _ (λa a' h b M b' L z=>by
  have h1:=(mem _ _ M).2;rw[z,((mem _ _ L).2)] at h1;cases h1;exact AX _ h) F7
 rw[AV,<-o.len];constructor;intro q;obtain⟨p,Z,rfl⟩:=AE.mp q;obtain⟨j,_,U⟩:=B0.mp Z;exact(Ai.mp (mem _ _ U).2).1;intro q;exact AE.mpr ⟨(ps[x],x),I _ _ (Ac q),rfl⟩;intro p Z h hh;obtain⟨j,_,U⟩:=B0.mp Z;obtain⟨e1,e2⟩:=mem _ _ U;rw[e1];refine(o.rod p.2 h j hh e2).mono λy hy=>?_;obtain⟨x,G⟩:=BO.mp hy;exact AE.mpr ⟨(y,x),I _ _ G,rfl⟩
end L2
namespace L2
open PySem PySem.Spec PyProof.Rows SetTable
open Hp (tupHs)
set_option maxRecDepth 100000
abbrev KA:=List Int×Addr
noncomputable def cQ(xs:List KA):Array (Int×Value):=(xs.map λx=>(tupHs x.1,AG x.2)).toArray
theorem bS(xs:List KA):(cQ xs).size=xs.length:=by unfold cQ;rw[Ah,lM]
theorem lX(xs:List KA)(i:Nat):(cQ xs)[i]? = (xs[i]?).map λx=>(tupHs x.1,AG x.2):=by unfold cQ;rw[CW,Ar]
structure Tb (xs:List KA) (m:Nat) (ps:List Nat):Prop where
 m2:M2 m
 rise:lW ps
 len:ps.length=xs.length
 nd:(xs.map (·.1)).Nodup
 few:xs.length<=18
 few7:m=7->xs.length<=4
 rod:∀(i:Nat) x j,xs[i]? = some x->ps[i]? = some j->Rod m (·∈ps) (tupHs x.1) j
theorem Tb.lt{ps:List Nat}(T:Tb xs m ps):ps.length<m:=by have B:=T.len;have G:=T.few;rcases T.m2 with rfl|rfl;have:=T.few7 rfl;omega;omega
noncomputable def eS(w:AL):Bool:=w.params.followText "set-order"
noncomputable def bP(w:AL)(xs:List KA)(ep m:Nat)(ps:List Nat)(mv:Nat):Obj:={ cls:=.type "set",dict:=none,data:=.set (cQ xs) ep (tm m ps mv (!eS w)),slots:=#[] }
theorem Tb.fits{xs:List KA}{m:Nat}{ps:List Nat}(T:Tb xs m ps){mv:Nat}{led:Bool}:(tm m ps mv led).fits (cQ xs).size=true:=by have B:=T.len;have G:=T.lt;unfold Jx Gp tm;rw[bS];simp;omega
section
variable {prog:A2} {w:AL} {A:AT} {E:Value->Ad->Prop} {s:Ad} {S a:Addr} {k:List Int} {xs:List KA} {m mv ep:Nat} {ps:List Nat}
abbrev IsK(prog:A2)(w:AL)(h:Heap)(x:KA):Prop:=IsTupleKey (DY prog w) h x.1 x.2
theorem aFg(n:Nat)(h:DP v=true):Dc n v=pure false:=by
 cases v with
 | ref a=>simp[DP] at h|_=>first|rfl|simp[Dc]|(unfold Dc;rfl)
theorem aBL{Q:Bool->Ad->Prop}(M:IsK prog w s.heap (k,a))(h:Q false s):As (A5 prog w) A (Dc 8 (.ref a)) Q E s:=by have U:=M.typeIs;obtain⟨o,items,n,Z,_,hd,hi⟩:=M;unfold Dc;refine Aa (DI U ?_);dsimp only;rw[if_pos (by grind)];refine Aa (Ae ?_);rw[if_neg (by decide)];refine Aa (B1 Z hd ?_);dsimp only;rw[<-G4];refine Aa (Fk _ (λrest r L=>r.1=none/\L=s/\∀v∈rest,DP v=true) _ ?_ ?_ _ _ ⟨rfl,rfl,hi.byValue⟩);rintro v rest r L ⟨G,rfl,B⟩;rw[aFg _ (B v Am)];refine Aa (Ae ?_);rw[if_neg (by decide)];exact Ae ⟨rfl,rfl,λu I=>B u (Ag _ I)⟩;rintro ⟨r1,r2⟩ L ⟨G,rfl,_⟩;simp only at G;subst G;exact Ae h
theorem aBM{k:Int}{v:Value}(h:(DY prog w).is k v=true):∃t,v=.int k t:=by change HZ k v=true at h;cases v <;> simp[HZ] at h;exact⟨_,by rw[h]⟩
theorem aNz{Q:Bool->Ad->Prop}(L:IsK prog w s.heap (k,a))(h:Q true s):As (A5 prog w) A (FX 8 (.ref a)) Q E s:=by
 have Z:=L.typeIs;obtain⟨o,items,n,ho,_,hd,hi⟩:=L;unfold FX;refine Aa (Iq Z PySem.F.slot_tuple_hash.lookup ?_);dsimp only;refine Aa (B1 ho hd ?_);dsimp only[Option.getD_some];rw[<-G4];refine Aa (Fk _ (λrest r I=>r.1=none/\I=s/\∃ks,ItemsAre (DY prog w) ks rest) _ ?_ ?_ _ _ ⟨rfl,rfl,_,hi⟩);rintro v rest r I ⟨G,rfl,ks,B⟩;cases B with
 | cons M U=>obtain⟨tk,rfl⟩:=aBM M;rw[show FX 7 (.int _ tk)=pure true by unfold FX;rfl];refine Aa (Ae ?_);rw[if_neg (by decide)];exact Ae ⟨rfl,rfl,_,U⟩
 rintro ⟨r1,r2⟩ I ⟨G,rfl,_⟩;simp only at G;subst G;exact Ae h
theorem aKG{Q:Bool->Ad->Prop}(Z:IsK prog w s.heap (k,a)):∀(L:List KA),(∀y∈L,IsK prog w s.heap y)->Q false s->As (A5 prog w) A (Hl (.ref a) (L.map λy=>AG y.2)) Q E s:=by
 intro L I h;unfold Hl;refine Aa (Fk _ (λrest r U=>r.1=none/\U=s/\∃G:List KA,rest=G.map (λy=>AG y.2)/\∀y∈G,IsK prog w s.heap y) _ ?_ ?_ _ _ ⟨rfl,rfl,L,rfl,I⟩);rintro v rest r U ⟨M,rfl,G,hz,B⟩;cases G with
 | nil=>cases hz|cons z G=>cases hz;dsimp only;by_cases c:((a==z.2)||(DP (.ref a)&&DP (.ref z.2)))=true;rw[if_pos c];exact Ae ⟨rfl,rfl,G,rfl,(λy I=>B y (Ag _ I))⟩;rw[if_neg c];refine Aa (FF Z ?_);rw[if_neg (by decide)];refine Aa (FF (B z Am) ?_);rw[if_neg (by decide)];refine Aa (aBL Z ?_);rw[if_neg (by decide)];refine Aa (aBL (B z Am) ?_);rw[if_neg (by decide)];exact Ae ⟨rfl,rfl,G,rfl,(λy I=>B y (Ag _ I))⟩
 rintro ⟨r1,r2⟩ U ⟨M,rfl,_⟩;simp only at M;subst M;exact Ae h
theorem aQc(T:Tb xs m ps){led:Bool}:(tm m ps mv led).gaveWay=false:=by rcases T.m2 with rfl|rfl <;> simp[KM,tm]
theorem prb{led:Bool}{h:Int}{p:Probe}{met:Met}(e:∀B,(∀i,i<ps.length->B i=((xs[i]?).map λx=>tupHs x.1).getD 0)->probe.go (tm m ps mv led) B h (10*turns m) p=some met)(B:Nat->Int)(G:∀i,B i=(((cQ xs)[i]?).map (·.1)).getD 0):(tm m ps mv led).probe B h p=some met:=
 e B λi _=>by rw[G,lX,Option.map_map];rfl
theorem aDu(k:List Int):((cQ xs).filter λx=>x.1==tupHs k).toList.map (·.2)=(xs.filter λx=>tupHs x.1==tupHs k).map λy=>AG y.2:=by unfold cQ;rw[Array.toList_filter,List.filter_map,A7];rfl
theorem tF(hu:A.units<cLine)(T:Tb xs m ps)(ho:s.heap.get? S=some (bP w xs ep m ps mv))(hk:∀x∈xs,IsK prog w s.heap x)(ha:IsK prog w s.heap (k,a)){N:Nat}(hN:(pth m (tupHs k) N).j∉ps)(hl:∀n,n<N->(pth m (tupHs k) n).j∈ps)(hb:N<10*(m+15)){Q:SetFound->Ad->Prop}
 (h1:k∈xs.map (·.1)->Q (.there none) s) (h2:k∉xs.map (·.1)->Q (.free (pth m (tupHs k) N).j false) s):∀I n B,n<=N->N-n<I->(∀n' (i:Nat) x,n'<n->ps[i]? = some (pth m (tupHs k) n').j->xs[i]? = some x->x.1≠k)->B.getD (pth m (tupHs k) 0)=pth m (tupHs k) n ->
 As (A5 prog w) A (Gq S (.ref a) (tupHs k) true I B) Q E s
 | 0,n,_,_,hf,_,_=>absurd hf (C3 _)|f+1,n,B,hn,hf,hno,hst=>by
  rw[Gq];refine Aa (BL ho rfl T.fits ?_);dsimp only;rw[if_neg (by rw[aQc T];decide)];rw[show(tm m ps mv (!eS w)).probeStart (tupHs k)=pth m (tupHs k) 0 from rfl,hst];have q7:=T.len;rcases probe_go T.rise (λi=>((xs[i]?).map λx=>tupHs x.1).getD 0) hN hl (10*turns m) n hn (by unfold turns;omega) with⟨e,H⟩|⟨n',i,a1,a2,a3,a4,e,H⟩
  all_goals (rw[prb e];rotate_left;exact λ_=>rfl)
  dsimp only;refine Ae (h2 λhm=>?_);obtain⟨x,M,rfl⟩:=AE.mp hm;obtain⟨i,hi⟩:=BO.mp M;have q4:=(Ai.mp hi).1;obtain⟨L,b1,b2,b3⟩:=T.rod i x _ hi (Ac (by omega));have b4:ps[i]? = some (pth m (tupHs x.1) L).j:=by rw[b2];exact Ac _
  have q5:L<N:=by rcases EN L N with z|z|z;exact z;exact absurd (mG b4) (by rw[z];exact hN);exact absurd (b3 N z) hN
  rcases Bb L n with z|z;exact hno L i x z b4 hi rfl;exact H L i z q5 b4 (by rw[hi];rfl)
  . have q4:=(Ai.mp a3).1;obtain⟨x,M⟩:∃x,xs[i]? = some x:=⟨_,Ac (by omega)⟩
    have U:=mG M;have q0:x.1≠k->As (A5 prog w) A (Gq S (.ref a) (tupHs k) true f (some (pth m (tupHs k) (n'+1)))) Q E s:=λc=>
     tF hu T ho hk ha hN hl hb h1 h2 f (n'+1) _ (by omega) (by omega) (λG Z q6 q1 q2 q3=>by
      rcases Bb G n with z|z;exact hno G Z q6 z q2 q3;rcases Bb G n' with z'|z';intro z3;exact H G Z z z' q2 (by rw[q3];exact congrArg tupHs z3);obtain rfl:G=n':=by omega
      have:=(aAB T.rise a3).symm.trans (aAB T.rise q2);grind) rfl
    dsimp only;split
    case' isTrue=>refine Aa ?_;rw[aDu];refine aKG ha _ (λy hy=>hk y (Ef.mp hy).1) ?_;rw[if_neg (by decide)]
    all_goals
     rw[lX,M];dsimp only[Ep];refine Aa (Br (wpAny_eqBool_tuple hu (hk x U) ha ?_));refine Aa (BL ho rfl T.fits ?_);dsimp only;by_cases c:x.1=k;rw[if_pos (by simp[c])];exact Ae (h1 (AE.mpr ⟨x,U,c⟩));rw[if_neg (by simp[c]),show(tm m ps mv (!eS w)).sameMemory (tm m ps mv (!eS w)).moves (tm m ps mv (!eS w)).mask=some true by unfold Kn;rw[if_pos (beq_self_eq_true _)]];dsimp only;rw[if_pos rfl,gA T.rise a3];dsimp only;rw[lX,M];dsimp only[Ep];refine Aa ?_;unfold isSame;dsimp only;rw[if_pos (beq_self_eq_true _)];refine Ae (Aa (Ae ?_));rw[if_pos rfl];dsimp only;rw[if_neg (by simp[c])];exact q0 c
end
set_option maxRecDepth 100000
noncomputable def eF{α:Type}(l:List α)(p:Nat)(x:α):List α:=l.take p++x::l.drop p
theorem lY{α:Type}(l:List α)(p:Nat)(x:α):Hm l.toArray p x=(eF l p x).toArray:=by unfold Hm eF;grind
theorem iK{α:Type}{l:List α}{p:Nat}{x:α}:(eF l p x).length=l.length+1:=by unfold eF;rw[lA,lC,Be,DT];omega
theorem nA{α:Type}{l:List α}{p:Nat}{x:α}:(eF l p x).Perm (x::l):=by unfold eF;refine List.perm_middle.trans ?_;rw[List.take_append_drop]
theorem aBN{α:Type}{l:List α}{p:Nat}{x:α}(G:p<=l.length)(i:Nat):(eF l p x)[i]? = if i<p then l[i]? else if i=p then some x else l[i-1]? := by unfold eF;by_cases h:i<p;rw[if_pos h,A0 (by rw[Be];omega),CM,if_pos h];rw[if_neg h,A3 (by rw[Be];omega),Be,Nat.min_eq_left G];by_cases B:i=p;rw[if_pos B,B,Nat.sub_self];rfl;rw[if_neg B,show i-p=(i-1-p)+1 by omega,gS,E7,show p+(i-1-p)=i-1 by omega]
theorem yN{α B:Type}(f:α->B)(l:List α)(p:Nat)(x:α):(eF l p x).map f=eF (l.map f) p (f x):=by unfold eF;rw[B2,mC,List.map_take,List.map_drop]
theorem aFh{ps:List Nat}(I:lW ps)(hj:j∉ps):lW (eF ps (below ps.toArray j) j):=by
 obtain⟨h1,U,Z⟩:=bel I j;have up:∀i v,below ps.toArray j<=i->ps[i]? = some v->j<v:=λi v a b=>by have:=Z i v a b;have:j≠v:=λz=>hj (z▸mG b);omega
 unfold eF lW;rw[FY];refine⟨I.sublist (GN _ _),Cs.mpr ⟨λv M=>?_,I.sublist (List.drop_sublist _ _)⟩,λv M u L=>?_⟩;obtain⟨i,hi⟩:=BO.mp M;rw[E7] at hi;exact up _ _ (CF _ _) hi;obtain⟨i,hi⟩:=BO.mp M;rw[CM] at hi;split at hi;have G:=U i v ‹_› hi;rcases Ax.mp L with rfl|L;exact G;obtain⟨i',B⟩:=BO.mp L;rw[E7] at B;exact DL G (up _ _ (CF _ _) B);cases hi
theorem aKH{xs:List KA}(T:Tb xs m ps){a:Addr}(L:k∉xs.map (·.1))(I:N<10*(m+15))(hN:(pth m (tupHs k) N).j∉ps)(M:∀n,n<N->(pth m (tupHs k) n).j∈ps) :
 let p:=below ps.toArray (pth m (tupHs k) N).j
 (∀(i:Nat) x j,(eF xs p (k,a))[i]? = some x->(eF ps p (pth m (tupHs k) N).j)[i]? = some j->Rod m (·∈eF ps p (pth m (tupHs k) N).j) (tupHs x.1) j)/\((eF xs p (k,a)).map (·.1)).Nodup:=by intro p;have sub:∀y,y∈ps->y∈eF ps p (pth m (tupHs k) N).j:=λy Z=>nA.mem_iff.mpr (Ag _ Z);refine⟨λi x j G B=>?_,?_⟩;rw[aBN (by rw[<-T.len];exact((bel T.rise _).1))] at G;rw[aBN ((bel T.rise _).1)] at B;split at G;rw[if_pos ‹_›] at B;exact(T.rod i x j G B).mono sub;rw[if_neg ‹_›] at B;split at G;rw[if_pos ‹_›] at B;cases G;cases B;exact⟨N,I,rfl,λn U=>sub _ (M n U)⟩;rw[if_neg ‹_›] at B;exact(T.rod _ x j G B).mono sub;rw[yN];exact(nA.nodup_iff).mpr (Az.mpr ⟨L,T.nd⟩)
theorem aBO{α:Type}{xs:List α}:∀(l:List Nat),(∀x∈l,x<xs.length)->(l.filterMap λi=>xs[i]?).length=l.length/\∀i:Nat,(l.filterMap λi=>xs[i]?)[i]? = (l[i]?).bind λi=>xs[i]?
 | [],_=>⟨rfl,λi=>by simp⟩
 | y::l,h=>by
  obtain⟨G,I⟩:=aBO (xs:=xs) l λx L=>h x (Ag _ L);have B:=h y Am;rw[B5,Ac B];dsimp only;refine⟨by rw[lC,lC,G],λi=>?_⟩;cases i with
  | zero=>simp[B]|succ i=>rw[gS,gS,I]
section
variable {prog:A2} {w:AL} {A:AT} {E:Value->Ad->Prop} {s:Ad} {S a:Addr} {k:List Int} {xs:List KA} {m mv ep:Nat} {ps:List Nat}
theorem yO{h:Heap}(M:h.get? S=some (bP w xs ep m ps mv))(I:List KA)(L:Nat)(G:List Nat)(B:Nat):(h.update S (Ky (cQ I) (tm L G B (!eS w)))).get? S=some (bP w I (ep+1) L G B):=by have:=CU (Ky (cQ I) (tm L G B (!eS w))) M rfl;exact this
theorem aNA{led:Bool}{j:Nat}:(tm m ps mv led).put j=(tm m (eF ps (below ps.toArray j) j) mv led,below ps.toArray j):=by unfold SetTable.put tm;dsimp only;rw[lY,if_neg (by simp[has])]
theorem aFi(p:Nat):insertAt (cQ xs) p (tupHs k,AG a)=cQ (eF xs p (k,a)):=by unfold cQ;rw[lY,yN]
theorem aHP(ho:s.heap.get? S=some (bP w xs ep 7 ps mv))(hf:(tm 7 ps mv (!eS w)).fits (cQ xs).size=true)(hl:xs.length=5)(q5:(xs.map (·.1)).Nodup){Q:Unit->Ad->Prop}
 (h:∀h' L q0 I q3,BR S s.heap h'->Tb L 31 q0->h'.get? S=some (bP w L q3 31 q0 I)->L.Perm xs->Q () { s with heap:=h' }):As (A5 prog w) A (setRelay S 20) Q E s:=by
 unfold setRelay;refine Aa (BL ho rfl hf ?_);dsimp only;rw[if_neg (by decide +kernel)];obtain⟨B,e,h1,M,h3⟩:=aHO (xs.map λx=>tupHs x.1) (by rw[lM];omega) 0 ((tm 7 ps mv (!eS w)).movedTo 31) (!eS w) true;have Z:(tm 7 ps mv (!eS w)).relaid ((cQ xs).map (·.1)) 20=some (tm 31 (B.map (·.1)) ((tm 7 ps mv (!eS w)).movedTo 31) (!eS w),(B.map (·.2)).toArray):=by
  have:(cQ xs).map (·.1)=(xs.map λx=>tupHs x.1).toArray:=by unfold cQ;rw[List.map_toArray,A7];rfl
  rw[this];exact e
 rw[Z];generalize (tm 7 ps mv (!eS w)).movedTo 31=I;rw[lM] at M;obtain⟨q1,q2⟩:=aBO (B.map (·.2)) (λx hx=>AV.mp (M.mem_iff.mp hx));have G:(B.map (·.2)).length=xs.length:=by rw[M.length_eq,AK]
 have q4:((B.map (·.2)).toArray.filterMap λi=>(cQ xs)[i]?)=cQ ((B.map (·.2)).filterMap λi=>xs[i]?):=by apply HS.mp;rw[Array.toList_filterMap];unfold cQ;grind
 refine Aa ?_;show As _ _ (if (((B.map (·.2)).toArray.filterMap λi=>(cQ xs)[i]?).size != (cQ xs).size)=true then _ else _) _ _ _;rw[q4,if_neg (by rw[bS,bS,q1,G];simp)];refine Ae ?_;refine Hn ho rfl ?_ (by rw[bS,q1,G,hl];decide);refine h _ ((B.map (·.2)).filterMap λi=>xs[i]?) (B.map (·.1)) I (ep+1) (B8 s.heap S _) ?_ ?_ ?_;have pm:((B.map (·.2)).filterMap λi=>xs[i]?).Perm xs:=by have:=M.filterMap λi=>xs[i]?;rw[Dr] at this;exact this
 refine⟨.inr rfl,h1,by rw[q1,lM,lM],((pm.map _).nodup_iff).mpr q5,by rw[q1,G];omega,λz=>absurd z (by decide),λi x j hx U=>?_⟩;rw[q2,Ar] at hx;rw[Ar] at U;cases hp:B[i]? with
 | none=>rw[hp] at U;cases U|some p=>rw[hp] at hx U;cases U;refine h3 p (mG hp) _ ?_;rw[Ar,show xs[p.2]? = some x from hx];rfl
 exact yO ho _ _ _ _;have:=M.filterMap λi=>xs[i]?;rw[Dr] at this;exact this
theorem aNB(hu:A.units<cLine)(T:Tb xs m ps)(ho:s.heap.get? S=some (bP w xs ep m ps mv))(hk:∀x∈xs,IsK prog w s.heap x)(ha:IsK prog w s.heap (k,a))(q0:k∉xs.map (·.1)->xs.length<=17){Q:Bool->Ad->Prop}
 (h:∀h' b B m' I U L,BR S s.heap h'->Tb B m' I->h'.get? S=some (bP w B L m' I U)->(if k∈xs.map (·.1) then B=xs else B.Perm ((k,a)::xs))->Q b { s with heap:=h' }):As (A5 prog w) A (JF S (.ref a) (tupHs k)) Q E s:=by
 obtain⟨N,hb,hN,hl⟩:=aAE T.m2 (DE T.lt) (tupHs k);unfold JF setAddHashedIn;refine Br (Aa (BL ho rfl T.fits ?_));dsimp only;rw[if_neg (by unfold byScan;simp[Value.scannable])];unfold setSearch;have q3:m<=31:=by rcases T.m2 with rfl|rfl <;> omega
 refine Aa (tF hu T ho hk ha hN hl hb (λZ=>?_) (λZ=>?_) 100000 0 none (A9 _) (by omega) (λn' i x z=>absurd z (C3 _)) rfl);dsimp only;exact Ae (h s.heap false xs m ps mv ep (K8 S s.heap) T ho (by rw[if_pos Z]));dsimp only;refine Aa (BL ho rfl T.fits ?_);dsimp only;rw[aNA];dsimp only;rw[if_pos (show(tm m _ mv (!eS w)).plain=true from rfl)];refine Aa (aNz ha ?_);rw[if_pos rfl,aFi];obtain⟨g1,g2⟩:=aKH (a:=a) T Z hb hN hl;have g3:=aFh T.rise hN;generalize below ps.toArray (pth m (tupHs k) N).j=p at g1 g2 g3 ⊢;generalize hj:(pth m (tupHs k) N).j=j at g1 g3 ⊢;have q1:(eF ps p j).length=(eF xs p (k,a)).length:=by rw[iK,iK,T.len]
 have G:(eF xs p (k,a)).length=xs.length+1:=iK;have q4:=q0 Z;refine Aa (Hn ho rfl ?_ (by rw[bS,G];exact AW (show xs.length+1<=18 by omega) (by decide)));have q2:=yO ho (eF xs p (k,a)) m (eF ps p j) mv;have M:(tm m (eF ps p j) mv (!eS w)).tooFull=decide ((xs.length+1)*5 ≥ m*3):=by unfold KN Gp tm;simp[iK,T.len]
 have pm:(eF xs p (k,a)).Perm ((k,a)::xs):=nA;rw[M,bS];by_cases c:(xs.length+1)*5 ≥ m*3;have h7:m=7/\xs.length=4:=by rcases T.m2 with rfl|rfl;have:=T.few7 rfl;omega;omega
 obtain⟨rfl,h4⟩:=h7;rw[if_pos (by simpa using c),h4,show grown (4+1)=20 by decide];refine Aa (aHP q2 ?_ (by rw[G,h4]) g2 λh' B I U L b1 b2 b3 b4=>?_);unfold Jx Gp tm;rw[bS,G,h4];simp[iK,T.len,h4];exact Ae (h h' true B 31 I U L ((B8 s.heap S _).trans b1) b2 b3 (by rw[if_neg Z];exact b4.trans pm));rw[if_neg (by simpa using c)];refine Ae (h _ true _ m _ mv (ep+1) (B8 s.heap S _) ⟨T.m2,g3,q1,g2,by rw[G];omega,λz=>?_,g1⟩ q2 (by rw[if_neg Z];exact pm));subst z;rw[G];omega
end
set_option maxRecDepth 100000
noncomputable def jV(w:AL)(h:Heap)(S:Addr)(us:List KA):Prop:=∃xs m ps mv ep,Tb xs m ps/\h.get? S=some (bP w xs ep m ps mv)/\(∀x∈xs,x∈us)/\∀y∈us,y.1∈xs.map (·.1)
section
variable {prog:A2} {w:AL} {A:AT} {R:Fu->Ad->Prop} {I:Addr} {fp wr:List Addr} {G:Array FK->Array FK->Prop} {n:Nat} {P:Nat->Value->Prop} {St:Nat->Ad->Prop}
theorem jV.keep{h h':Heap}{S:Addr}{us:List KA}(x:jV w h S us)(e:∀o,h.get? S=some o->h'.get? S=some o):jV w h' S us:=by obtain⟨xs,m,ps,mv,ep,T,B,r⟩:=x;exact⟨xs,m,ps,mv,ep,T,e _ B,r⟩
theorem IsK.keep{h h':Heap}{x:KA}(q:IsK prog w h x)(e:∀o,h.get? x.2=some o->h'.get? x.2=some o):IsK prog w h' x:=by obtain⟨o,B,n,L,r⟩:=q;exact⟨o,B,n,e _ L,r⟩
theorem aDv(W:WalksS prog w A.in1 I fp wr G n P St)(hu:A.units+10<cLine)(S:Addr)(q2:S∉fp)(us:List KA)(q9:∀i v,P i v->∃x,us[i]? = some x/\v=AG x.2)(hn:us.length=n)(q7:∀x∈us,x.2∉S::wr)(ks:List (List Int))(z4:ks.length<=18)(q3:∀x∈us,x.1∈ks) :
 ∀(m i:Nat) (s:Ad),n-i=m->i<=n->St i s->jV w s.heap S (us.take i)->(∀x∈us,IsK prog w s.heap x) ->
  (∀B,Moved (S::wr) G s B->jV w B.heap S us->R (.ok (.ret .none)) B) ->
  D4 (A5 prog w) A (.builtin "set.update.loop" ⟨[.ref S,.ref I],[]⟩) R s:=by
 have nw:S∉wr:=λh=>q2 (W.sub _ h);have sb:∀b∈wr,b∈S::wr:=λb hb=>Ag _ hb;intro m
 induction m with
 | zero=>
  intro i s hk hi Z hS hK hR;obtain rfl:i=n:=by omega
  refine Cg Ds ?_;rw[BG Ck _];show As _ A.in1 (Dp (.ref I) >>= _) _ _ s;refine Aa (W.done s _ _ Z λB hm=>?_);show As _ A.in1 (ret Ca) _ _ B;rw[List.take_of_length_le (by omega)] at hS;exact Ae (hR B (hm.mono sb) (hS.keep λo e=>hm.heap S o nw e))
 | succ m ih=>
  intro i s hk hi Z hS hK hR;have q5:i<n:=by omega
  refine Cg Ds ?_;rw[BG Ck _];show As _ A.in1 (Dp (.ref I) >>= _) _ _ s;refine Aa (W.item i s _ _ q5 Z λv B hP q8 hm=>?_);obtain⟨x,q4,rfl⟩:=q9 i v hP;have q0:=mG q4;obtain⟨xs,m',ps,mv,ep,T,ho,r1,r2⟩:jV w B.heap S (us.take i):=hS.keep λo e=>hm.heap S o nw e;have L:∀x∈us,IsK prog w B.heap x:=λx hx=>(hK x hx).keep λo e=>hm.heap _ o (λz=>q7 x hx (Ag _ z)) e;have w8:us.take (i+1)=us.take i++[x]:=by rw[Ja,q4];rfl
  show As _ A.in1 (Ft [AG x.2] (setAdd S (AG x.2)) >>= _) _ _ B;refine Aa (Br ?_);unfold setAdd;refine Br ?_;refine Aa (wpAny_pyHash_tuple (ks:=x.1) (by show A.units+1<cLine;omega) (L x q0) ?_);refine aNB (k:=x.1) (s:={ B with toks:=B.toks+(x.1.length+1) }) (by show A.units+1<cLine;omega) T ho (λy M=>L y (FZ (r1 y M))) (L x q0) (λw6=>?_) λh' b z3 w9 z1 z0 w3 U T' w7 hp=>?_;have:=(Az.mpr ⟨w6,T.nd⟩).length_le_of_subset (l₂:=ks) λy M=>by rcases Ax.mp M with rfl|M;exact q3 x q0;obtain⟨z,hz,rfl⟩:=AE.mp M;exact q3 z (FZ (r1 z hz))
  rw[lC,lM] at this;omega;have w5:jV w h' S (us.take (i+1)):=by rw[w8];refine⟨z3,w9,z1,z0,w3,T',w7,?_,?_⟩;grind;grind
  have w4:∀y∈us,IsK prog w h' y:=λy M=>(L y M).keep λo e=>by rw[U.2 y.2 λz=>q7 y M (by rw[z];exact Am)];exact e
  refine Ae ⟨D1 Ck _,ih (i+1) _ (by omega) q5 (W.frame _ B _ _ q8 (by show B.toks<=B.toks+_;omega) λb hb o e=>?_) w5 w4 λz2 q6 q1=>?_⟩;rw[U.2 b λh:b=S=>q2 (by rw[<-h];exact hb)];exact e;refine hR z2 (Moved.trans W.gtrans ((hm.mono sb).then_heap (by show B.toks<=B.toks+_;omega) λb o hb e=>?_) q6) q1;rw[U.2 b λh:b=S=>hb (by rw[h];exact Am)];exact e
end
section
variable {prog:A2} {w:AL} {A:AT} {E:Value->Ad->Prop} {s:Ad}
theorem aFj(a:Value){Q₁:Value->Ad->Prop}(h:Q₁ (.ref s.heap.objs.size) { s with heap:=s.heap.push { cls:=.type "set",dict:=none,data:=.set #[] 0 (.fresh 0 0 (!eS w)) } }) :
 D4 (A5 prog w) A (.call (.builtin "set.__new__") ⟨[.type "set",a],[]⟩) (wants Q₁ E) s:=by
 refine Ir ?_;show As _ A.in1 (do checkBuiltinCall "set.__new__" ⟨[.type "set",a],[]⟩;again (.builtin "set.__new__" ⟨[.type "set",a],[]⟩)) _ _ s;refine Aa (Ig (F.newCall_set_1 a) (Ae ⟨D1 Iu _,Cg F.entry_set_new ?_⟩));rw[BG Iu _];unfold BI.«set.__new__» Jb;have B:=sub_set_self;obtain⟨G,g,d,tk,os⟩:=s;dsimp only
 wp_walk
 refine Dl (Ae ?_);dsimp only;simp only[newObj];refine Aa (wpAny_alloc (Ae ?_));exact Ae h
set_option maxHeartbeats 3200000 in
theorem aDw{l:Addr}{items:Array Value}{us:List KA}{Q:Value->Ad->Prop}(hh:A.handled=none)(hu:A.units+20<cLine)(hl:s.heap.IsList l items)(hi:items.toList=us.map λx=>AG x.2)(hK:∀x∈us,IsK prog w s.heap x)(ks:List (List Int))(w5:ks.length<=18)(w3:∀x∈us,x.1∈ks)
 (h:∀(h':Heap) (tk:Nat),jV w h' s.heap.objs.size us->(∀b o,b<s.heap.objs.size->s.heap.get? b=some o->h'.get? b=some o)->Q (.ref s.heap.objs.size) { s with heap:=h',toks:=tk }) :
 As (A5 prog w) A (call (.type "set") [.ref l]) Q E s:=by
 have hn:us.length=items.size:=by rw[<-AH,hi,lM]
 obtain⟨c,tl,z1⟩:=BE.mro;have w7:=BE.made;have z4:=BE.sub;refine II (Ir ?_);show As _ _ (callAny (.type "set") _) _ _ _;refine Ae ⟨Code.quiet_builtin _ (by decide +kernel),Cg F.entry_type_call ?_⟩;rw[Around.under_plain (weight_type_call_type "set" [.ref l] []) rfl];have h1:=BE.notType;have h2:=BE.canCreate;have z7:=PySem.F.typeCall_set_1 (.ref l)
 repeat (any_goals (first|assumption|wp_step))
 refine DG (aFj (.ref l) (E:=E) (Q₁:=λobj M=>obj=.ref s.heap.objs.size/\M={ s with heap:=s.heap.push { cls:=.type "set",dict:=none,data:=.set #[] 0 (.fresh 0 0 (!eS w)) } }) ⟨rfl,rfl⟩) λr M hr=>?_;cases r with
 | error e=>exact hr|ok fl=>
  cases fl with
  | ret obj=>
   obtain⟨rfl,rfl⟩:=hr;generalize q4:(!eS w)=led at *;have hS:(s.heap.push { cls:=.type "set",dict:=none,data:=.set #[] 0 (.fresh 0 0 led) }).get? s.heap.objs.size=some { cls:=.type "set",dict:=none,data:=.set #[] 0 (.fresh 0 0 led) }:=Al _ rfl;have hT:Shared.TypeIs { s with heap:=s.heap.push { cls:=.type "set",dict:=none,data:=.set #[] 0 (.fresh 0 0 led) } } (.ref s.heap.objs.size) "set" := ⟨_,hS,rfl⟩
   have z8:=BE.init.lookup;have z6:=BE.init.bind (.ref s.heap.objs.size)
   repeat (any_goals (first|assumption|wp_step))
   refine DG (codeAny_call_builtin (R:=wants (λr U=>r=.none/\∃h' tk,U={ s with heap:=h',toks:=tk }/\jV w h' s.heap.objs.size us /\
    (∀b o,b<s.heap.objs.size->s.heap.get? b=some o->h'.get? b=some o)) E) BE.init.plain F.entry_set_init (check_set_init_1 hT ?_)) λq7 U B=>?_
   . obtain⟨ol,q5,q2,nl,hdl⟩:=hl;obtain⟨z5,q1,w8,L⟩:=ol;simp only at q2 hdl;subst q2;subst hdl;have q6:(s.heap.push { cls:=.type "set",dict:=none,data:=.set #[] 0 (.fresh 0 0 led) }).get? l=some { cls:=.type "list",dict:=q1,data:=.seq items nl,slots:=L }:=Ab _ q5;have z3:=PySem.F.sub_list_set;have z2:=PySem.F.sub_list_frozenset;have z9:(Fo "list" == Fo "dict")=false:=by decide
     have q3:(s.heap.push { cls:=.type "set",dict:=none,data:=.set #[] 0 (.fresh 0 0 led) }).IsList l items:=⟨_,q6,rfl,nl,rfl⟩
     unfold BI.«set.__init__» noKeywords Iv;generalize q8:H9=PI
     wp_walk
     subst q8;refine CY q3 ?_;refine Aa (Jc ?_);have w6:l<s.heap.objs.size:=Aq q5;have q9:A.in1.in1.in1.handled=none:=by simp[hh]
     have I:(s.heap.push { cls:=.type "set",dict:=none,data:=.set #[] 0 (.fresh 0 0 led) }).objs.size=s.heap.objs.size+1:=Bl _ _;refine aDv ((Kv q9 _ l (by rw[I];exact A4 (Bz w6)) items).toS) (by show A.units+1+1+10<cLine;omega) s.heap.objs.size
      (by
       rw[I];grind) us
      (λi v hv=>by
       have G:items.toList[i]? = some v:=by rw[Bu];exact hv
       rw[hi,Ar] at G;cases q:us[i]? with
       | none=>rw[q] at G;cases G|some x=>rw[q] at G;cases G;exact⟨x,rfl,rfl⟩) hn
      (λx hx z=>by
       obtain⟨o,_,_,ho,_⟩:=hK x hx;have:=Aq ho;rw[I] at z;rcases Ax.mp z with q|q;exact absurd q (A4 this);exact absurd (A8.mp q) (A4 (Bz this))) ks w5 w3 (items.size-0) 0 _ (by omega) (A9 _)
      ⟨⟨_,Al _ rfl,rfl,rfl⟩,(q3.push _)⟩ ?hS0 ?hK0 ?hR
     case hS0=>refine⟨[],7,[],0,0,⟨.inl rfl,EM,rfl,DM,by decide,λ_=>by decide,λi x j hx=>by simp at hx⟩,?_,λx hx=>by simp at hx,λy hy=>by simp at hy⟩;unfold bP;rw[q4];exact Ab _ hS
     case hK0=>exact λx hx=>(hK x hx).keep λo e=>Ab _ (Ab _ e)
     case hR=>intro s' hm q0;obtain⟨h',g',d',z0,w9⟩:=s';have eg:g'=s.gens:=hm.gens;have ed:d'=s.drawn:=hm.drawn;have eo:w9=s.os:=hm.os;subst eg;subst ed;subst eo;show As _ _ _ _ _ _;refine Ae ?_;show As _ _ (ret Ca) _ _ _;refine Ae ⟨rfl,h',z0,rfl,q0,λb o hb e=>?_⟩;refine hm.heap b o ?_ (Ab _ (Ab _ e));rw[I];intro z;rcases Ax.mp z with q|q;exact absurd q (A4 hb);exact absurd (A8.mp q) (A4 (Bz hb))
   . cases q7 with
     | error e=>exact B|ok Z=>
      cases Z with
      | ret r=>
       obtain⟨rfl,h',tk,rfl,q0,w4⟩:=B
       repeat (any_goals (first|assumption|wp_step))
       exact h _ _ q0 w4
      | _=>exact B.elim
  | _=>exact hr.elim
end
end L2
namespace L2
open PySem PySem.Spec PyProof.Rows
open Hp (tupHs)
set_option maxRecDepth 100000
theorem cK:Slot "set_iterator" "__next__" "set_iterator.__next__" :=
 .of (owner:= "set_iterator") (n:= "__next__") (by rw[Iw,FG];kernel_rfl) (by decide +kernel) (by decide +kernel) (by decide +kernel)
  (by first|exact .inl (by decide +kernel)|exact .inr (by decide +kernel)) (by rw[Ga];kernel_rfl)
theorem hZ:Jd KU "set_iterator.__next__" = some BI.«set_iterator.__next__»:=HU (by kernel_rfl)
theorem iL(a:Value):Kz "set_iterator.__next__" ⟨[a],[]⟩:=by unfold Kz;kernel_rfl
theorem pY:Jd KU "set.__iter__" = some BI.«frozenset.__iter__»:=
 Je (id':= "frozenset.__iter__") (by kernel_rfl) rfl (by decide +kernel) (by kernel_rfl)
theorem iM:Slot "set_iterator" "__iter__" "set_iterator.__iter__" :=
 .of (owner:= "set_iterator") (n:= "__iter__") (by rw[Iw,FG];kernel_rfl) (by decide +kernel) (by decide +kernel) (by decide +kernel)
  (by first|exact .inl (by decide +kernel)|exact .inr (by decide +kernel)) (by rw[Ga];kernel_rfl)
theorem oG:Jd KU "set_iterator.__iter__" = some BI.«dict_keyiterator.__iter__»:=
 Je (id':= "dict_keyiterator.__iter__") (by kernel_rfl) rfl (by decide +kernel) (by kernel_rfl)
theorem pZ(a:Value):Kz "set_iterator.__iter__" ⟨[a],[]⟩:=by unfold Kz;kernel_rfl
theorem qB{α:Type}:∀(l:List α) (j:Nat) (h:j<l.length),(l[j]::l.eraseIdx j).Perm l
 | [],_,h=>absurd h (C3 _)|a::l,0,_=>E8 _|a::l,j+1,h=>(KW a (l[j]'(by simpa using h)) _).trans ((qB l j (by simpa using h)).cons a)
theorem tG{α:Type}(next:Nat->Nat):∀(G k:Nat) (B:List α) (out:Array α),B.length=G->(Ho next G k B out).toList.Perm (out.toList++B)
 | 0,_,B,out,h=>by have:B=[]:=List.eq_nil_of_length_eq_zero h;subst this;rw[Ho,Bd]|G+1,k,B,out,h=>by rw[Ho,Ac (DA _ (by omega))];dsimp only;refine(tG next G (k+1) _ _ (by rw[List.length_eraseIdx_of_lt (DA _ (by omega))];omega)).trans ?_;rw[Array.toList_push,EL];exact JQ _ (qB _ _ (DA _ (by omega)))
noncomputable def vF(w:AL)(S:Addr)(ep:Nat)(es:Array (Int×Value)):Array (Int×Value):=if eS w then pickOrder (w.params.setOrder S ep) es else es
theorem yP(w:AL)(S:Addr)(ep:Nat)(es:Array (Int×Value)):(vF w S ep es).toList.Perm es.toList:=by unfold vF;split;unfold pickOrder;refine(tG _ _ _ _ _ (by rw[AH])).trans ?_;simp;exact E8 _
theorem iN(w:AL)(S:Addr)(ep:Nat)(es:Array (Int×Value)):(vF w S ep es).size=es.size:=by rw[<-AH,(yP w S ep es).length_eq,AH]
noncomputable def aAF(ps:List Nat):Nat->Nat
 | 0=>0|i+1=>ps.getD i 0+1
noncomputable def slotV(w:AL)(ps:List Nat)(i:Nat):Nat:=if eS w then 0 else aAF ps i
theorem aDx{ps:List Nat}(G:lW ps):∀i,i<=ps.length->Di ps.toArray (aAF ps i)=i
 | 0,_=>by obtain⟨M,B,I⟩:=bel G 0;rcases Nat.eq_zero_or_pos (Di ps.toArray 0) with z|z;exact z;exact absurd (B 0 _ z (Ac (by omega))) (C3 _)
 | i+1,hi=>by
  show Di ps.toArray (ps.getD i 0+1)=i+1;obtain⟨M,B,I⟩:=bel G (ps.getD i 0+1);have L:ps[i]? = some (ps.getD i 0):=by rw[Ak,Ac (by omega)];rfl
  rcases EN (Di ps.toArray (ps.getD i 0+1)) (i+1) with z|z|z;have:=I i _ (by omega) L;omega;exact z;have q:=Ac (l:=ps) (i:=i+1) (by omega);have:=B (i+1) _ z q;have:=G.lt (B3 i) L q;omega
section
variable {prog:A2} {w:AL} {A:AT} {E:Value->Ad->Prop} {s:Ad}
noncomputable def qC(w:AL)(S:Addr)(ep:Nat)(ps:List Nat)(i:Nat):Obj:={ cls:=.type "set_iterator",dict:=none,data:=.fields #[Co (slotV w ps i),Co i,.ref S,Co ps.length,Co ep],slots:=#[] }
variable {S I:Addr} {ep i m mv:Nat} {ps:List Nat} {xs:List KA}
theorem aJg{Q:Option (Value×Nat)->Ad->Prop}(T:Tb xs m ps)(M:s.heap.get? S=some (bP w xs ep m ps mv))(hi:i<=ps.length)
 (h:Q (((vF w S ep (cQ xs))[i]?).map λe=>(e.2,slotV w ps (i+1))) s):As (A5 prog w) A (JG S (slotV w ps i) i ep) Q E s:=by
 unfold JG;refine Aa (BL M rfl T.fits ?_);dsimp only;unfold Jf;refine Aa (Aa (Dl (Ae ?_)));show As _ _ (if eS w=true then _ else _) _ _ s;unfold vF slotV at h;unfold slotV;cases G:eS w with
 | true=>rw[G,if_pos rfl,if_pos rfl] at h;rw[if_pos rfl,if_pos rfl];rw[if_neg (by simp)];unfold setWalk;refine Aa (Aa (BL M rfl T.fits ?_));dsimp only;unfold Jf;refine Aa (Aa (Dl (Ae ?_)));show As _ _ (if eS w=true then _ else _) _ _ s;rw[G,if_pos rfl];refine Aa (Dl (Ae ?_));exact Ae h|false=>
  rw[G,if_neg bN,if_neg bN] at h;rw[if_neg bN,if_neg bN];show As _ _ (if (!true&&decide ((cQ xs).size>1))=true then _ else _) _ _ s;rw[if_neg (by simp)];refine Aa ?_;show As _ _ (if (!(!false)&&!(cQ xs).isEmpty)=true then _ else _) _ _ s;rw[if_neg (by simp)];refine Ae ?_;show As _ _ (pure (match (cQ xs)[Di ps.toArray (aAF ps i)]?,ps.toArray[Di ps.toArray (aAF ps i)]? with
   | some (_,x),some j=>some (x,j+1)|_,_=>none)) _ _ s
  rw[(aDx T.rise i hi)];refine Ae ?_;have e:(match (cQ xs)[i]?,ps.toArray[i]? with|some (_,x),some j=>some (x,j+1)|_,_=>none)=((cQ xs)[i]?).map λe=>(e.2,aAF ps (i+1)):=by
   by_cases B:i<ps.length;have L:i<xs.length:=by have:=T.len;omega
   rw[lX,Ac L,CW,Ac B];simp[aAF,B];have L:xs.length<=i:=by have:=T.len;omega
   rw[lX,AR L];rfl
  rw[e];exact h
theorem aNC{e:Int×Value}{Q:Option Value->Ad->Prop}(T:Tb xs m ps)(L:s.heap.get? S=some (bP w xs ep m ps mv))(B:s.heap.get? I=some (qC w S ep ps i))(q1:S≠I)(G:(vF w S ep (cQ xs))[i]? = some e)
 (hQ:∀h',h'.get? I=some (qC w S ep ps (i+1))->BR I s.heap h'->Q (some e.2) { s with heap:=h' }):As (A5 prog w) A (Dp (.ref I)) Q E s:=by
 have q0:i<ps.length:=by have:=(Dh.mp G).1;rw[iN,bS] at this;have:=T.len;omega
 unfold Dp;refine Aa (Dz (AU (⟨_,B,rfl⟩) cK (AZ cK (⟨_,B,rfl⟩) hZ ?_ (iL _))));unfold BI.«set_iterator.__next__» Ke;simp only[DX,D2,bF,↓reduceIte,bind_assoc,lN,bne_self_eq_false];refine Aa (Ae ?_)
 try dsimp only
 refine Aa (Jg B rfl ?_);show As _ _ (setEntries S >>= _) _ _ s;refine Aa (Eu L rfl T.fits ?_);rw[if_neg (by rw[bS,T.len];simp)];show As _ _ (JG S ((slotV w ps i:Int).toNat) ((i:Int).toNat) ((ep:Int).toNat) >>= _) _ _ s;rw[BK,BK,BK];refine Aa (aJg T L (by omega) ?_);rw[G];dsimp only[Ep];refine Aa (AS B (by simp) λh1 Z M=>?_);refine Aa (AS Z (by simp) λh2 g2 U=>?_);refine Ae ⟨e.2,rfl,Ae (hQ h2 ?_ (M.trans U))⟩;rw[g2];simp[qC,Co]
theorem aQd{Q:Option Value->Ad->Prop}(G:A.handled=none)(T:Tb xs m ps)(L:s.heap.get? S=some (bP w xs ep m ps mv))(B:s.heap.get? I=some (qC w S ep ps ps.length))
 (U:∀h',FR I s.heap h'->Q none { s with heap:=h' }):As (A5 prog w) A (Dp (.ref I)) Q E s:=by
 have Z:(vF w S ep (cQ xs))[ps.length]? = none:=by rw[E6,iN,bS,T.len];exact An _
 unfold Dp;refine Aa (Dz (AU (⟨_,B,rfl⟩) cK (AZ cK (⟨_,B,rfl⟩) hZ ?_ (iL _))));unfold BI.«set_iterator.__next__» Ke;simp only[DX,D2,bF,↓reduceIte,bind_assoc,lN,bne_self_eq_false];refine Aa (Ae ?_)
 try dsimp only
 refine Aa (Jg B rfl ?_);show As _ _ (setEntries S >>= _) _ _ s;refine Aa (Eu L rfl T.fits ?_);rw[if_neg (by rw[bS,T.len];simp)];show As _ _ (JG S ((slotV w ps ps.length:Int).toNat) ((ps.length:Int).toNat) ((ep:Int).toNat) >>= _) _ _ s;rw[BK,BK,BK];refine Aa (aJg T L (An _) ?_);rw[Z];dsimp only[Option.map_none];refine Aa (AS B (by simp) λh1 g1 M=>?_);show As _ _ (Kw (.type "StopIteration") [] >>= _) _ _ _;refine Aa ?_;simp only[Kw,newTuple];refine Aa (Bm ?_ (by size_fits));refine Aa (Ig (by first|rfl|(simp only[IY];rfl)) ?_);refine Bm ?_ (by size_fits);simp only[raiseNew];refine Aa (Jv ?_)
 first|rw[show A.in1.handled=none from G]|rw[G]
 refine Aa (Ae (Kd ?_));refine Aa (DV ⟨_,Al _ rfl,rfl⟩ FW ?_);exact Ae (U _ ((M.extBut.push _).push _))
theorem aKI(U:A.handled=none)(T:Tb xs m ps)(G:S≠I):Walks prog w A I [I,S] [I] ps.length (λi v=>∃e,(vF w S ep (cQ xs))[i]? = some e/\v=e.2) (λi h=>h.get? I=some (qC w S ep ps i)/\h.get? S=some (bP w xs ep m ps mv)) where
 sub:=λb M=>by rw[A8.mp M];exact Am
 frame:=λi h h' st k=>⟨k I Am _ st.1,k S (Ag _ (A8.mpr rfl)) _ st.2⟩
 item:=λi s Q E hi st B=>by refine aNC T st.2 st.1 G (Bp (by rw[iN,bS,<-T.len];exact hi)) λh' g b=>B _ h' s.toks ⟨_,Bp (by rw[iN,bS,<-T.len];exact hi),rfl⟩ ⟨g,?_⟩ λc o L e=>?_;rw[b.2 S G];exact st.2;rw[b.2 c λz=>L (by rw[z];exact A8.mpr rfl)];exact e
 done:=λs Q E st B=>aQd U T st.2 st.1 λh' b=>B h' s.toks λc o L e=>b c o (λz=>L (by rw[z];exact A8.mpr rfl)) e
 self:=λi s Q E st B=>by refine Hq (⟨_,st.1,rfl⟩) iM (AZ iM (⟨_,st.1,rfl⟩) oG ?_ (pZ _));show As _ _ (ret (.ref I)) _ _ s;exact Ae ⟨_,rfl, "set_iterator",_,(⟨_,st.1,rfl⟩),cK.lookup,B⟩
theorem aND{Q:Value->Ad->Prop}(T:Tb xs m ps)(B:s.heap.get? S=some (bP w xs ep m ps mv))(h:Q (.ref s.heap.objs.size) { s with heap:=s.heap.push (qC w S ep ps 0) }):As (A5 prog w) A (H9 (.ref S)) Q E s:=by
 refine Hq (⟨_,B,rfl⟩) FH (AZ FH (⟨_,B,rfl⟩) pY ?_ (PySem.F.args_set_iter_1 _));unfold BI.«frozenset.__iter__» J9 Ke;simp only[DX,D2,bF,↓reduceIte,bind_assoc,lN,bne_self_eq_false];unfold Jy Jz;refine Aa (Ae ?_)
 try dsimp only
 refine Aa (Ae ?_);refine Aa (Aa (Eu B rfl T.fits (Ae ?_)));unfold setDrawn Jf;refine Aa (Aa (BL B rfl T.fits ?_));dsimp only;refine Aa (Aa (Dl (Ae ?_)));refine Ae ?_;show As _ _ (if (!eS w&&(!true&&decide ((cQ xs).size>1)))=true then _ else _) _ _ s;rw[if_neg (by simp)];refine Aa (Ae ?_);refine Aa (wpAny_setEpoch_of B rfl T.fits ?_);refine Aa (Bm ?_);have e:(#[Co 0,Co 0,AG S,Co ((cQ xs).size:Int),Co (ep:Int)]:Array Value)=#[Co (slotV w ps 0),Co ((0:Nat):Int),.ref S,Co ps.length,Co ep]:=by
  rw[bS,T.len];have:slotV w ps 0=0:=by unfold slotV aAF;split <;> rfl
  rw[this];rfl
 refine Ae ⟨_,rfl, "set_iterator",_,⟨_,Al _ rfl,rfl⟩,cK.lookup,?_⟩;show Q (.ref s.heap.objs.size) { s with heap:=s.heap.push { cls:=.type "set_iterator",data:=.fields #[Co 0,Co 0,AG S,Co ((cQ xs).size:Int),Co (ep:Int)] } };rw[e];exact h
theorem aDy{P:Nat->Value->Prop}{B:Array Value}{od:List (Int×Value)}(L:∀i v,P i v->∃e,od[i]? = some e/\v=e.2)(h:ItemsOf P B m)(hm:od.length=m):B.toList=od.map (·.2):=by refine Dd λj=>?_;rw[Bu,Ar];by_cases G:j<B.size;obtain⟨e,M,U⟩:=L j B[j] (h.2 j _ (Bp G));rw[Bp G,M,U];rfl;have Z:=h.1;rw[Array.getElem?_eq_none (by omega),AR (by omega)];rfl
theorem aFk{Q:List Value->Ad->Prop}(hh:A.handled=none)(T:Tb xs m ps)(ho:s.heap.get? S=some (bP w xs ep m ps mv))
 (hQ:∀G U,(∀b o,s.heap.get? b=some o->G.heap.get? b=some o)->(s.heap.objs.size<G.heap.objs.size/\∃tk h',G={ s with heap:=h',toks:=tk })->U=(vF w S ep (cQ xs)).toList.map (·.2)->Q U G):As (A5 prog w) A (collect (.ref S)) Q E s:=by
 have hT:s.TypeIs (.ref S) "set" := ⟨_,ho,rfl⟩
 have L:S<s.heap.objs.size:=Aq ho;unfold collect;refine Aa (Jc (Cg F.entry_proto_collect ?_));rw[BG F.plain_proto_collect _];show As _ A.in1 (newList [] >>= λl=>again (.builtin "list.__iadd__" ⟨[l,.ref S],[]⟩)) _ _ s;refine Aa (Bm ?_);refine Ae ⟨D1 Hr _,Cg F.entry_list_iadd ?_⟩;rw[BG Hr _];have B:(s.heap.push { cls:=.type "list",data:=.seq ([]:List Value).toArray }).get? S=some (bP w xs ep m ps mv):=Ab _ ho;have h1:EW (.ref s.heap.objs.size) (.ref S)=false:=by simp only[EW,beq_eq_false_iff_ne];exact BS L
 show As _ A.in1 (Ex (.ref s.heap.objs.size) (.ref S) (.ref s.heap.objs.size)) _ _ _;unfold Ex;refine Aa (DI (⟨_,B,rfl⟩) ?_);rw[if_neg (by rw[h1];decide)];refine Aa (aND T B ?_);refine Aa (Br ?_);unfold IC;refine Aa (Iq (⟨_,(Ab _ B),rfl⟩) PySem.F.slot_set_len.lookup ?_);generalize q5:("set.__len__" : String)=id0
 wp_delta
 rw[show splitId id0=some ("set", "__len__") from by subst q5;decide +kernel];subst q5;refine Aa (DV (b:=true) (⟨_,(Ab _ B),rfl⟩) (by rw[Ga];kernel_rfl) ?_);rw[if_neg (by decide)];dsimp only;rw[if_pos (by decide +kernel)];refine Aa (DI (⟨_,(Ab _ B),rfl⟩) ?_);refine Ae ?_;rw[if_pos (by decide +kernel)];refine Aa (D9 ?_);unfold JH;have q1:((s.heap.push { cls:=.type "list",data:=.seq ([]:List Value).toArray }).push (qC w S ep ps 0)).get? s.heap.objs.size=some { cls:=.type "list",data:=.seq ([]:List Value).toArray }:=Ab _ (Al _ rfl);refine Aa (Aa (Eb q1 rfl ?_));have q2:=FC (n:=0) q1 (λx=>x.push Ca);refine Eb q2 rfl ?_;have q0:((s.heap.push { cls:=.type "list",data:=.seq ([]:List Value).toArray }).push (qC w S ep ps 0)).get? (s.heap.push { cls:=.type "list",data:=.seq ([]:List Value).toArray }).objs.size=some (qC w S ep ps 0):=Al _ rfl;rw[(G5 _ _)] at q0 ⊢;have keep:∀b o,b≠s.heap.objs.size->((s.heap.push { cls:=.type "list",data:=.seq ([]:List Value).toArray }).push (qC w S ep ps 0)).get? b=some o->((((s.heap.push { cls:=.type "list",data:=.seq ([]:List Value).toArray }).push (qC w S ep ps 0)).update s.heap.objs.size (Bt λx=>x.push Ca)).update s.heap.objs.size (Bt λx=>x.pop)).get? b=some o:=λb o M e=>by rw[Dt _ _ _ _ M,Dt _ _ _ _ M];exact e
 have q6:s.heap.objs.size∉[s.heap.objs.size+1,S]:=λhm=>by grind
 refine Ae ⟨D1 F.plain_extend_loop _,codeAny_extend_loopS (aKI (A:=A.in1) (ep:=ep) hh T (λz=>F3.mpr (Ec _) (z▸L))).toS (AW (by rw[T.len];exact T.few) (by decide)) _ q6 _ ps.length 0 _ #[] 2 (Hb _) (A9 _) ⟨keep _ _ (by omega) q0,keep _ _ (A4 L) (Ab _ B)⟩ (FC q2 (λx=>x.pop)) (ItemsOf.nil _) λG Z c' hm q3 q4=>?_⟩;show As _ A (load s.heap.objs.size >>= _) _ _ G;refine Aa (wpAny_load q3 ?_);refine Ae (hQ G Z.toList (λb o e=>?_) ?_ ?_);have M:b<s.heap.objs.size:=Aq e;refine hm.heap b o (λz=>?_) (keep b o (A4 M) (Ab _ (Ab _ e)));rcases Ax.mp z with z|z;exact A4 M z;exact F3.mpr (Ec _) (A8.mp z▸M);obtain⟨h',g',d',q8,q7⟩:=G;have eg:g'=s.gens:=hm.gens;have ed:d'=s.drawn:=hm.drawn;have eo:q7=s.os:=hm.os;subst eg;subst ed;subst eo;exact⟨Aq q3,q8,h',rfl⟩;exact aDy (λi v ⟨e,he,hv⟩=>⟨e,by rw[Bu];exact he,hv⟩) q4 (by rw[AH,iN,bS,T.len])
end
end L2
namespace L2
open PySem PySem.Spec PyProof.Rows PySem.W
set_option maxRecDepth 100000
noncomputable def okT{α:Type}(n:Nat)(o:Nat->Nat->Bool):KasT α->(α->Prop)->Prop
 | .ret a,P=>P a|.ask i j k,P=>i<n/\j<n/\okT n o (k (o i j)) P
section
variable {n:Nat} {o:Nat->Nat->Bool} {α β:Type}
theorem gB{f:α->KasT β}{P:β->Prop}:∀t:KasT α,okT n o t (λa=>okT n o (f a) P)->okT n o (t.bind f) P
 | .ret _,h=>h|.ask i j k,h=>⟨h.1,h.2.1,gB (k (o i j)) h.2.2⟩
theorem eL{P B:α->Prop}(G:∀a,P a->B a):∀t:KasT α,okT n o t P->okT n o t B
 | .ret a,h=>G a h|.ask i j k,h=>⟨h.1,h.2.1,eL G (k (o i j)) h.2.2⟩
theorem aFl{cmp:Nat->Nat->(Bool->Ad->Prop)->Ad->Prop}{Q:α->Ad->Prop}{P:α->Prop}(B:∀i j C,i<n->j<n->C (o i j) s->cmp i j C s)(G:∀a,P a->Q a s):∀t:KasT α,okT n o t P->t.kasWp cmp Q s
 | .ret a,h=>G a h|.ask i j k,h=>B i j _ h.1 h.2.1 (aFl B G (k (o i j)) h.2.2)
structure Lin (n:Nat) (o:Nat->Nat->Bool):Prop where
 tr:∀i j k,i<n->j<n->k<n->o i j=true->o j k=true->o i k=true
 tot:∀i j,i<n->j<n->i≠j->o i j=false->o j i=true
 as:∀i j,i<n->j<n->o i j=true->o j i=false
abbrev Pmo(n:Nat)(p:Array Nat):Prop:=p.toList.Perm (Au n)
noncomputable def rl(o:Nat->Nat->Bool)(p:Array Nat)(i j:Nat):Bool:=o (p.getD i 0) (p.getD j 0)
variable {p:Array Nat}
theorem Pmo.size(h:Pmo n p):p.size=n:=by rw[<-AH,h.length_eq,AK]
theorem Pmo.at(h:Pmo n p)(hi:i<n):p[i]? = some (p.getD i 0):=by have:=h.size;rw[AF,Bp (by omega)];rfl
theorem Pmo.lt(h:Pmo n p)(hi:i<n):p.getD i 0<n:=by have e:=h.at hi;rw[<-Bu] at e;exact AV.mp (h.mem_iff.mp (mG e))
theorem Pmo.ne(h:Pmo n p)(hi:i<n)(I:j<n)(B:i≠j):p.getD i 0≠p.getD j 0:=by have G:=h.at hi;intro z;rw[z,<-(h.at I),<-Bu,<-Bu] at G;have:=h.size;exact B ((Ht (by rw[AH];omega) (h.nodup_iff.mpr Fi)).mp G)
variable (L:Lin n o)
theorem aBP(L:Lin n o)(h:Pmo n p)(hi:i<n)(B:j<n)(G:k<n):rl o p i j=true->rl o p j k=true->rl o p i k=true:=L.tr _ _ _ (h.lt hi) (h.lt B) (h.lt G)
theorem aFm(L:Lin n o)(h:Pmo n p)(hi:i<n)(G:j<n)(B:i≠j):rl o p i j=false->rl o p j i=true:=L.tot _ _ (h.lt hi) (h.lt G) (h.ne hi G B)
noncomputable def Srt(o:Nat->Nat->Bool)(p:Array Nat)(b:Nat):Prop:=∀i j,i<j->j<b->rl o p i j=true
noncomputable def Dsc(o:Nat->Nat->Bool)(p:Array Nat)(b:Nat):Prop:=∀i j,i<j->j<b->rl o p j i=true
theorem Srt.succ(L:Lin n o)(h:Pmo n p)(I:1<=b)(G:b<n)(s:Srt o p b)(e:rl o p (b-1) b=true):Srt o p (b+1):=λi j B M=>by
 rcases Bb j b with z|z;exact s i j B z;obtain rfl:j=b:=by omega
 rcases Bb i (j-1) with y|y;exact aBP L h (by omega) (by omega) G (s i (j-1) y (by omega)) e;obtain rfl:i=j-1:=by omega
 exact e
theorem Dsc.succ(L:Lin n o)(h:Pmo n p)(I:1<=b)(G:b<n)(s:Dsc o p b)(e:rl o p b (b-1)=true):Dsc o p (b+1):=λi j B M=>by
 rcases Bb j b with z|z;exact s i j B z;obtain rfl:j=b:=by omega
 rcases Bb i (j-1) with y|y;exact aBP L h G (by omega) (by omega) e (s i (j-1) y (by omega));obtain rfl:i=j-1:=by omega
 exact e
theorem aAG(L:Lin n o)(h:Pmo n p):∀f m,1<=m->m+f<=n->Srt o p m->okT n o (kas_asc p f m) (λr=>m<=r/\r<=m+f/\Srt o p r/\(r<m+f->rl o p r (r-1)=true))
 | 0,m,_,_,s=>⟨An _,An _,s,λz=>absurd z (by omega)⟩
 | f+1,m,h1,h2,s=>by
  refine⟨h.lt (by omega),h.lt (by omega),?_⟩;cases c:o (p.getD m 0) (p.getD (m-1) 0) with
  | true=>exact⟨An _,by omega,s,λ_=>c⟩|false=>refine eL (λr B=>⟨by omega,by omega,B.2.2.1,λz=>B.2.2.2 (by omega)⟩) _ (aAG L h f (m+1) (by omega) (by omega) (s.succ L h h1 (by omega) (aFm L h (by omega) (by omega) (by omega) c)))
theorem aBQ(L:Lin n o)(h:Pmo n p):∀f m,1<=m->m+f<=n->Dsc o p m->okT n o (kas_desc f p m 0) (λr=>r.1=p/\r.2.2=0/\m<=r.2.1/\r.2.1<=m+f/\Dsc o p r.2.1)
 | 0,m,_,_,s=>⟨rfl,rfl,An _,An _,s⟩
 | f+1,m,h1,h2,s=>by
  refine⟨h.lt (by omega),h.lt (by omega),?_⟩;cases c:o (p.getD m 0) (p.getD (m-1) 0) with
  | true=>exact eL (λr B=>⟨B.1,B.2.1,by omega,by omega,B.2.2.2.2⟩) _ (aBQ L h f (m+1) (by omega) (by omega) (s.succ L h h1 (by omega) c))|false=>refine⟨h.lt (by omega),h.lt (by omega),?_⟩;rw[show o (p.getD (m-1) 0) (p.getD m 0)=true from aFm L h (by omega) (by omega) (by omega) c];exact⟨rfl,rfl,An _,CF _ _,s⟩
theorem aFn(h:Pmo n p)(i j:Nat):Pmo n (JI p i j):=(E9.mp (mirror_perm p i j _)).trans h
theorem aHQ(h:Pmo n p)(B:b<=n)(s:Dsc o p b):Srt o (JI p 0 b) b:=λi j G I=>by
 have at_:∀k,k<b->(JI p 0 b).getD k 0=p.getD (b-1-k) 0:=λk M=>by rw[AF,AF];unfold JI;rw[getElem?_mirror_all (by rw[h.size];exact B),if_pos ⟨A9 _,M⟩,DQ]
 unfold rl;rw[at_ i (by omega),at_ j I];exact s (b-1-j) (b-1-i) (by omega) (by omega)
abbrev Got(n:Nat)(o:Nat->Nat->Bool)(r:Nat×Array Nat):Prop:=1<=r.1/\r.1<=n/\Pmo n r.2/\Srt o r.2 r.1
theorem aHR(L:Lin n o)(h:Pmo n p)(B:1<=m)(G:m<=n)(s:Dsc o p m):okT n o (kas_tail3 m n p) (Got n o):=
 gB _ (eL (λr I=>⟨by omega,by omega,aFn h _ _,I.2.2.1⟩) _ (aAG L (aFn h 0 m) (n-m) m B (by omega) (aHQ h G s)))
theorem aFo(L:Lin n o)(h:Pmo n p)(hn:1<=n):okT n o (kas_count n p) (Got n o):=by
 unfold kas_count;refine gB _ (eL (λr G=>?_) _ (aAG L h (n-1) 1 (An _) (by omega) λi j a b=>absurd b (by omega)));obtain⟨I,h2,B,M⟩:=G;by_cases c:(r==n)=true;rw[if_pos c];exact⟨I,by omega,h,B⟩;rw[if_neg c];have U:r≠n:=λz=>c (by simp[z]);have e:=M (by omega);by_cases d:r>1;rw[if_pos d];refine⟨h.lt (by omega),h.lt (by omega),?_⟩;rw[show o (p.getD 0 0) (p.getD (r-1) 0)=true from B 0 (r-1) (by omega) (by omega)];exact⟨I,by omega,h,B⟩;rw[if_neg d];obtain rfl:r=1:=by omega
 refine gB _ (eL (λr G=>?_) _ (aBQ L h (n-2) 2 (by omega) (by omega) λi j a b=>?_));obtain⟨Z,q2,q3,q4,q5⟩:=G;rw[if_neg (by omega),Z];exact aHR L h (by omega) (by omega) q5;obtain⟨rfl,rfl⟩:i=0/\j=1:=by omega
 exact e
theorem qD(L:Lin n o)(h:Pmo n p)(B:k<n)(s:Srt o p k):∀f l r,l<=r->r<=k->r-l<=f->(∀i,i<l->rl o p i k=true)->(∀i,r<=i->i<k->rl o p k i=true) ->
 okT n o (kas_place p k f l r) (λx=>x<=k/\(∀i,i<x->rl o p i k=true)/\∀i,x<=i->i<k->rl o p k i=true)
 | 0,l,r,h1,h2,h3,a,b=>⟨by omega,a,λi hi=>b i (by omega)⟩
 | f+1,l,r,h1,h2,h3,a,b=>by
  unfold kas_place;by_cases c:l ≥ r;rw[if_pos c];exact⟨by omega,a,λi hi=>b i (by omega)⟩;rw[if_neg c];refine⟨h.lt B,h.lt (by omega),?_⟩;cases d:o (p.getD k 0) (p.getD ((l+r) / 2) 0) with
  | true=>
   refine qD L h B s f _ _ (by omega) (by omega) (by omega) a λi hi G=>?_;rcases Bb ((l+r) / 2) i with z|z;exact aBP L h B (by omega) (by omega) d (s _ i z G);obtain rfl:i=(l+r) / 2:=by omega
   exact d
  | false=>
   have d':=aFm L h B (by omega) (by omega) d;refine qD L h B s f _ _ (by omega) (by omega) (by omega) (λi hi=>?_) b;rcases Bb i ((l+r) / 2) with z|z;exact aBP L h (by omega) (by omega) B (s i _ z (by omega)) d';obtain rfl:i=(l+r) / 2:=by omega
   exact d'
theorem aKJ(h:Pmo n p)(k d:Nat):Pmo n (bubble p k d):=(E9.mp (bubble_perm p k d)).trans h
theorem aHS(h:Pmo n p)(Z:k<n)(hl:l<=k)(s:Srt o p k)(a:∀i,i<l->rl o p i k=true)(b:∀i,l<=i->i<k->rl o p k i=true):Srt o (bubble p k (k-l)) (k+1):=λi j B hj=>by
 have at_:∀x,(bubble p k (k-l)).getD x 0=if x=l then p.getD k 0 else if l<x/\x<=k then p.getD (x-1) 0 else p.getD x 0:=λx=>by rw[AF,getElem?_bubble (by rw[h.size];exact Z) _ (by omega),show k-(k-l)=l by omega];split;rw[AF];split <;> rw[AF]
 unfold rl;rw[at_ i,at_ j];by_cases G:i=l;rw[if_pos G,if_neg (by omega),if_pos ⟨by omega,by omega⟩];exact b (j-1) (by omega) (by omega);rw[if_neg G];by_cases I:l<i/\i<=k;rw[if_pos I,if_neg (by omega),if_pos ⟨by omega,by omega⟩];exact s (i-1) (j-1) (by omega) (by omega);rw[if_neg I];by_cases M:j=l;rw[if_pos M];exact a i (by omega);rw[if_neg M];by_cases U:l<j/\j<=k;rw[if_pos U];rcases Bb i (j-1) with z|z;exact s i (j-1) z (by omega);omega;rw[if_neg U];exact s i j B (by omega)
theorem aFp(L:Lin n o):∀f p k,Pmo n p->k+f=n->Srt o p k->okT n o (kas_bin f p k) (λr=>Pmo n r/\Srt o r n)
 | 0,p,k,h,e,s=>⟨h,by rw[<-e];exact s⟩
 | f+1,p,k,h,e,s=>gB _ (eL (λl B=>aFp L f _ (k+1) (aKJ h _ _) (by omega) (aHS h (by omega) B.1 s B.2.1 B.2.2)) _ (qD L h (by omega) s k 0 k (A9 _) (An _) (by omega) (λi hi=>absurd hi (C3 _)) λi a b=>absurd a (by omega)))
theorem aHT(L:Lin n o)(M:1<=n):okT n o (kas_sort n) (λr=>Pmo n r/\Srt o r n):=by
 unfold kas_sort;refine gB _ (eL (λr U=>?_) _ (aFo L (E8 _) M));obtain⟨I,Z,B,G⟩:=U;by_cases c:r.1<n;rw[if_pos c,Nat.max_eq_left I];exact aFp L _ _ _ B (by omega) G;rw[if_neg c];obtain e:r.1=n:=by omega
 exact⟨B,by rw[<-e];exact G⟩
end
end L2
namespace L2
open PySem PySem.Spec PyProof.Rows PySem.W
open Hp (tupHs lexI)
set_option maxRecDepth 100000
theorem oP:∀{a b c:List Int},lexI a b=true->lexI b c=true->lexI a c=true
 | [],[],_,h,_=>by cases h|[],_::_,[],_,h=>by cases h|[],_::_,_::_,_,_=>rfl|_::_,[],_,h,_=>by cases h|_::_,_::_,[],_,h=>by cases h|a::as,b::bs,c::cs,h1,h2=>by unfold lexI at h1 h2 ⊢;split at h1;split at h2;rw[if_pos (by omega)];exact oP h1 h2;have:=of_decide_eq_true h2;rw[if_neg (by omega)];exact Av (by omega);have:=of_decide_eq_true h1;split at h2;rw[if_neg (by omega)];exact Av (by omega);have:=of_decide_eq_true h2;rw[if_neg (by omega)];exact Av (by omega)
theorem lexI_ir:∀a:List Int,lexI a a=false
 | []=>rfl|a::as=>by unfold lexI;rw[if_pos rfl];exact lexI_ir as
theorem qF:∀{a b:List Int},a≠b->lexI a b=false->lexI b a=true
 | [],[],h,_=>absurd rfl h|[],_::_,_,h=>by cases h|_::_,[],_,_=>rfl|a::as,b::bs,h,h1=>by unfold lexI at h1 ⊢;split at h1;rename_i e;subst e;rw[if_pos rfl];exact qF (λz=>h (by rw[z])) h1;have:=of_decide_eq_false h1;rw[if_neg (by omega)];exact Av (by omega)
theorem aBR(h:lexI a b=true):lexI b a=false:=by
 cases q:lexI b a with
 | false=>rfl|true=>rw[<-lexI_ir a,<-oP h q]
theorem tH:∀{as bs:List (List Int)},as.Pairwise (lexI · ·=true)->bs.Pairwise (lexI · ·=true)->(∀x,x∈as↔x∈bs)->as=bs
 | [],[],_,_,_=>rfl|[],b::bs,_,_,h=>absurd ((h b).mpr Am) (by simp)|a::as,[],_,_,h=>absurd ((h a).mp Am) (by simp)|a::as,b::bs,ha,hb,h=>by
  have G:=Cs.mp ha;have I:=Cs.mp hb;have e:a=b:=by rcases Ax.mp ((h a).mp Am) with q|q;exact q;rcases Ax.mp ((h b).mpr Am) with r|r;exact r.symm;have B:=I.1 a q;rw[aBR (G.1 b r)] at B;cases B
  subst e;rw[tH G.2 I.2 λx=>?_];constructor;intro q;rcases Ax.mp ((h x).mp (Ag _ q)) with rfl|r;have B:=G.1 _ q;rw[lexI_ir] at B;cases B;exact r;intro q;rcases Ax.mp ((h x).mpr (Ag _ q)) with rfl|r;have B:=I.1 _ q;rw[lexI_ir] at B;cases B;exact r
section
variable {prog:A2} {w:AL} {A:AT} {E:Value->Ad->Prop} {s:Ad}
theorem aKK{Q:Bool->Ad->Prop}{vs:List Value}(M:Jh (DY prog w) ks vs):∀{js:List Int} {us:List Value} (I:Jh (DY prog w) js us) (i:Nat) (B:Bool),B=decide (vs.length<us.length)->Q (lexI ks js) s->KatLex prog w A true B Q (vs.zip us) i s:=by
 induction M with
 | nil=>
  intro js us I i B L G;cases I with
  | nil=>rw[L];exact G|cons _ _=>rw[L];exact G
 | @cons k v ks vs h1 _ ih=>
  intro js us I i B L G;cases I with
  | nil=>rw[L];exact G|@cons j u js us h2 I=>
   obtain⟨U,rfl⟩:=aBM h1;obtain⟨Z,rfl⟩:=aBM h2;rw[Ba];refine kat_cons (Hx ?_);unfold lexI at G;by_cases c:k=j;rw[if_pos c] at G;rw[show(k==j)=true by simpa using c];exact kat_yes (ih I (i+1) B (by rw[L,lC,lC];simp) G);rw[if_neg c] at G;rw[show(k==j)=false by simpa using c];refine kat_no ?_;cases(true&&i==0) with
   | true=>exact oneLt_int G|false=>exact kat_one _ _ (lt_int G)
theorem aQe{x y:KA}{Q:Bool->Ad->Prop}(M:IsK prog w s.heap x)(U:IsK prog w s.heap y)(h:Q (lexI x.1 y.1) s):As (A5 prog w) A (keyLt' (K9 true) (.ref x.2) (.ref y.2)) Q E s:=by obtain⟨o,Z,n,L,_,hd,hi⟩:=M;obtain⟨o',its',n',I,_,B,G⟩:=U;exact kat_lt L hd I B (aKK hi G 0 _ (by rw[AH,AH]) h)
theorem aBS:∀{us:List KA},(∀x∈us,IsK prog w s.heap x)->(∀x∈us,x.1≠[])->∃fs:List Value,KatTups s.heap (us.map λx=>AG x.2) fs/\fs.length=us.length/\∀v∈fs,∃i t,v=Gc i t
 | [],_,_=>⟨[],KatTups.nil,rfl,λv hv=>by simp at hv⟩
 | x::us,h,hne=>by
  obtain⟨fs,M,U,h3⟩:=aBS (λy B=>h y (Ag _ B)) (λy B=>hne y (Ag _ B));obtain⟨o,G,n,ho,Z,hd,hi⟩:=h x Am;cases I:x.1 with
  | nil=>exact absurd I (hne x Am)|cons k ks=>
   rw[I] at hi;cases q:G.toList with
   | nil=>rw[q] at hi;cases hi|cons v vs=>
    rw[q] at hi;cases hi with
    | cons L g2=>obtain⟨t,rfl⟩:=aBM L;refine⟨.int k t::fs,KatTups.cons ho Z hd (by rw[<-Bu,q];rfl) M,by rw[lC,lC,U],λu hu=>?_⟩;grind
theorem aKL{us:List KA}(h:∀x∈us,IsK prog w s.heap x)(B:∀x∈us,x.1≠[])(Z:0<us.length){Q:SortKind->Ad->Prop}(L:Q (K9 true) s):As (A5 prog w) A (keyKind' (us.map λx=>AG x.2).toArray) Q E s:=by obtain⟨fs,G,U,I⟩:=aBS h B;refine kat_kind (T:=.type "int") G (by omega) (λv M=>?_) (by decide) L;obtain⟨i,t,rfl⟩:=I v M;exact .now
end
set_option maxRecDepth 100000
abbrev rfs(us:List KA):List Value:=us.map λx=>AG x.2
theorem aAH{α L:Type}{f:α->L}{l I:List L}(h:l.Perm I):∀{xs:List α},I=xs.map f->∃us:List α,us.Perm xs/\l=us.map f:=by
 induction h with
 | nil=>simp_all|@cons x l1 l2 _ ih=>
  intro xs e;cases xs with
  | nil=>cases e|cons y xs=>cases e;obtain⟨us,a,b⟩:=ih rfl;exact⟨y::us,a.cons y,by rw[b];rfl⟩
 | swap x y l=>
  intro xs e
  match xs,e with
  | a::b::xs,e=>cases e;exact⟨b::a::xs,.swap _ _ _,rfl⟩
 | trans _ _ B G=>intro xs e;obtain⟨us,a,b⟩:=G e;obtain⟨vs,c,d⟩:=B b;exact⟨vs,c.trans a,d⟩
theorem aKM{us:List KA}(nd:(us.map (·.1)).Nodup):Lin us.length λi j=>lexI (us.getD i ([],0)).1 (us.getD j ([],0)).1 where
 tr:=λi j k _ _ _ a b=>oP a b
 as:=λi j _ _ a=>aBR a
 tot:=λi j hi G B h=>qF (λz=>B (by
  have e:∀x,x<us.length->(us.map (·.1))[x]? = some (us.getD x ([],0)).1:=λx I=>by rw[Ar,Ak,Ac I];rfl
  exact(Ht (by rw[lM];exact hi) nd).mp (by rw[e i hi,e j G,z]))) h
theorem aFq{us:List KA}{p:Array Nat}(I:Pmo us.length p)(hs:Srt (λi j=>lexI (us.getD i ([],0)).1 (us.getD j ([],0)).1) p us.length) :
 (p.toList.map λi=>us.getD i ([],0)).Perm us/\(p.toList.map λi=>us.getD i ([],0)).Pairwise λx y=>lexI x.1 y.1=true:=by refine⟨(I.map _).trans (KP ?_),?_⟩;refine Dd λi=>?_;rw[Ar];rcases Bb i us.length with q|q;rw[Dq q,Ac q];show some (us.getD i ([],0))=_;rw[Ak,Ac q];rfl;rw[AR (by rw[AK];exact q),AR q];rfl;rw[C5];refine EF.mpr λi j hi G B=>?_;have L:=I.size;rw[AH] at hi G;have:=hs i j B (by omega);unfold rl at this;rw[AF,AF,Bp hi,Bp G] at this;simpa using this
section
variable {prog:A2} {w:AL} {A:AT} {E:Value->Ad->Prop} {s:Ad}
theorem nT{us:List KA}{P:PySem.Fin->Ad->Prop}(ho:s.heap.get? a=some (CN "list" (rfs us).toArray n))(hK:∀x∈us,IsK prog w s.heap x)(q5:∀x∈us,x.1≠[])(nd:(us.map (·.1)).Nodup)(q3:us.length<64)
 (h:∀B:List KA,B.Perm us->(B.Pairwise λx y=>lexI x.1 y.1=true)->P (.done (.ret .none)) { s with heap:=sortedHeap s.heap a (rfs us) (rfs B).toArray }) :
 As (A5 prog w) A (BI.«list.sort» ⟨[.ref a],[]⟩) P E s:=by
 rw[list_sort_plain];have ha:a<s.heap.objs.size:=Aq ho;have I:(rfs us).length=us.length:=by rw[lM]
 refine Aa (listItems_at ho rfl ?_);refine Aa (Eb ho rfl ?_ (by rw[Ah,AY];omega) (A9 _));obtain⟨e1,q1⟩:∃e1,(s.heap.update a (Bt λ_=>(#[]:Array Value))).get? a=some (CN "list" #[] e1):=⟨_,FC ho λ_=>#[]⟩
 refine Aa (Ih q1 rfl ?_);refine Aa (FV ?_ (by show(rfs us).length<=_;rw[AY];omega));refine Aa (Gr ?_ (A9 _));refine Br ?_;have keep:∀b o,b≠a->s.heap.get? b=some o->(((s.heap.update a (Bt λ_=>(#[]:Array Value))).push (CN "tuple" (rfs us).toArray 0)).push (CN "list" #[] 0)).get? b=some o:=λb o hb e=>Ab _ (Ab _ (by rw[Dt _ _ _ _ hb];exact e));have M:(((s.heap.update a (Bt λ_=>(#[]:Array Value))).push (CN "tuple" (rfs us).toArray 0)).push (CN "list" #[] 0)).get? a=some (CN "list" #[] e1):=Ab _ (Ab _ q1);show As (A5 prog w) A _ P E { s with heap:=((s.heap.update a (Bt λ_=>(#[]:Array Value))).push (CN "tuple" (rfs us).toArray 0)).push (CN "list" #[] 0) };dsimp only;have q0:∀B:List KA,B.Perm us->(B.Pairwise λx y=>lexI x.1 y.1=true)->∀out:Array Value,out=(rfs B).toArray->P (.done (.ret .none)) { s with heap:=sortedHeap s.heap a (rfs us) out }:=λB a b out e=>e▸h B a b;by_cases L:(rfs us).toArray.size<2;rw[if_pos L,if_pos L];refine Aa (Ae ?_);rw[StateT.run_pure];refine Aa (Ae ?_);dsimp only;refine Aa (Ih M rfl ?_);refine Aa (Eb M rfl ?_ (A9 _) (by rw[Array.size_map];show(pairsOf (rfs us)).size<=_;rw[pairsOf_size,AY];omega));simp only[bne_self_eq_false,bF,if_false];refine Ae (q0 us (E8 _) ?_ _ ?_)
 . rw[Ah,I] at L
   match us,L with
   | [],_=>exact .nil|[x],_=>exact DD _ _|_::_::_,L=>simp at L;omega
 apply HS.mp;show((pairsOf (rfs us)).map (·.2)).toList=_;rw[Array.toList_map,pairsOf_toList];exact List.map_snd_zip (An _);rw[if_neg L,if_neg L];have q2:2<=us.length:=by rw[Ah,I] at L;omega
 have Z:∀x∈us,IsK prog w (((s.heap.update a (Bt λ_=>(#[]:Array Value))).push (CN "tuple" (rfs us).toArray 0)).push (CN "list" #[] 0)) x:=λx hx=>by have q:=hK x hx;refine q.keep λo e=>keep x.2 o ?_ e;rintro rfl;obtain⟨o',_,_,g1,g2,_⟩:=q;rw[ho] at g1;grind
 refine Aa (aKL Z q5 (by omega) ?_);refine Aa (CJ (kat_run (vs:=rfs us) (ks:=rfs us) (prog:=prog) (w:=w) (A:=A) (κ:=K9 true) (s:={ s with heap:=((s.heap.update a (Bt λ_=>(#[]:Array Value))).push (CN "tuple" (rfs us).toArray 0)).push (CN "list" #[] 0) })
  (G:=λp s'=>s'={ s with heap:=((s.heap.update a (Bt λ_=>(#[]:Array Value))).push (CN "tuple" (rfs us).toArray 0)).push (CN "list" #[] 0) }/\Pmo us.length p/\Srt (λi j=>lexI (us.getD i ([],0)).1 (us.getD j ([],0)).1) p us.length)
  (Q:=λU s'=>s'={ s with heap:=((s.heap.update a (Bt λ_=>(#[]:Array Value))).push (CN "tuple" (rfs us).toArray 0)).push (CN "list" #[] 0) }/\failedOf U=none/\∃B:List KA,B.Perm us/\(B.Pairwise λx y=>lexI x.1 y.1=true)/\(arrOf U).map (·.2)=(rfs B).toArray)
  rfl (by rw[I];exact q2) (by rw[I];exact q3) (λp U s' a1 a2 a3 a4=>⟨a4.1,a3,_,(aFq a4.2.1 a4.2.2).1,(aFq a4.2.1 a4.2.2).2,?_⟩) ?_) ?_ λ_ _ e=>e)
 rw[kat_snds rfl a2];unfold rfs;rw[A7];refine congrArg List.toArray (B9 λi hi=>?_);have q4:i<us.length:=AV.mp (a4.2.1.mem_iff.mp hi);show(us.map λx=>AG x.2).getD i Ca=AG (us.getD i ([],0)).2;rw[Ak,Ak,Ar,Ac q4];rfl;rw[I];refine aFl (λi j C hi hj hC=>?_) (λp hp=>⟨rfl,hp⟩) _ (aHT (aKM nd) (by omega));unfold kas_ask;have e:∀x,x<us.length->(rfs us).getD x Ca=AG (us.getD x ([],0)).2/\us.getD x ([],0)∈us:=λx hx=>by rw[Ak,Ak,Ar,Ac hx];exact⟨rfl,AM hx⟩
 rw[(e i hi).1,(e j hj).1];exact aQe (Z _ (e i hi).2) (Z _ (e j hj).2) hC;rintro ⟨⟨⟩,U⟩ s' ⟨rfl,hf,B,g1,g2,g3⟩;dsimp only;refine Aa (Ih M rfl ?_);refine Aa (Eb M rfl ?_ (A9 _) (by rw[g3,Ah,lM,g1.length_eq,AY];omega));rw[hf];simp only[bne_self_eq_false,bF,if_false];exact Ae (q0 B g1 g2 _ g3)
theorem yQ{Q:Value->Ad->Prop}(hh:A.handled=none)(hS:jV w s.heap S us)(hK:∀x∈us,IsK prog w s.heap x)(q1:∀x∈us,x.1≠[])
 (h:∀(h':Heap) (tk:Nat) (L:Addr) (xs:List KA) (n:Nat),s.heap.objs.size<=L->(∀b o,s.heap.get? b=some o->h'.get? b=some o)->h'.get? L=some (CN "list" (rfs xs).toArray n)->(∀x∈xs,x∈us)->(∀y∈us,y.1∈xs.map (·.1))->(xs.Pairwise λx y=>lexI x.1 y.1=true)->Q (.ref L) { s with heap:=h',toks:=tk }) :
 As (A5 prog w) A (call (.builtin "sorted") [.ref S]) Q E s:=by
 obtain⟨xs,m,ps,mv,ep,T,ho,r1,r2⟩:=hS;refine EG Kf JJ JK (JL _) ?_;unfold BI.«sorted»;refine Aa (Ae ?_);refine Aa (aFk hh T ho λs' U hk q2 I=>?_);obtain⟨q0,tk,h1,rfl⟩:=q2;obtain⟨ys,M,y2⟩:=aAH (yP w S ep (cQ xs)) (by unfold cQ;rw[Gj]);have B:U=rfs ys:=by rw[I,y2,A7];rfl
 subst B;have hl:ys.length<=18:=by rw[M.length_eq];exact T.few
 refine Aa (Gr ?_ (by rw[lM,AY];omega));have Z:∀x∈ys,x∈us:=λx G=>r1 x (M.mem_iff.mp G);refine Aa (Br (AZ Ji ⟨_,(Al _ rfl),rfl⟩ Ix (nT (Al _ rfl) (λx G=>(hK x (Z x G)).keep λo e=>Ab _ (hk _ o e)) (λx G=>q1 x (Z x G)) ((M.map _).nodup_iff.mpr T.nd) (by omega) λzs z1 z2=>⟨_,rfl,?_⟩) (Jj _)));obtain⟨n,hL⟩:=J0 (Al _ rfl);refine Ae ⟨_,rfl,h _ _ h1.objs.size zs n (DE q0) (λb o q=>?_) hL (λx G=>Z x (z1.mem_iff.mp G)) (λy hy=>(z1.map _).mem_iff.mpr ((M.map _).mem_iff.mpr (r2 y hy))) z2⟩;have hb:=Aq (hk b o q);rw[Jk (A4 hb) (by rw[G5];exact Bz hb)];exact Ab _ (hk b o q)
end
end L2
namespace L2
open PySem PySem.Spec PyProof.Rows PySem.W
open Hp (tupHs lexI)
set_option maxHeartbeats 4000000
section
variable {X:Cx} {pins:List (Addr×Obj)} {σ:St} {H:Hp} {s:Ad}
theorem vG(I:Inv X pins σ H s){x:KA}(h:SqT X.K H x.2 (x.1.map V.int)):IsK X.prog X.w s.heap x:=by obtain⟨B,rv,⟨o,L,G,n,hd⟩,_⟩:=I.tuple h;exact⟨o,B.toArray,n,L,G,hd,by simpa using L2.intsT_are rv⟩
end
section
variable {prog:A2} {w:AL} {A:AT} {E:Value->Ad->Prop} {s:Ad}
theorem vH{us:List KA}{Q:Value->Ad->Prop}(ho:s.heap.IsList l (rfs us).toArray)(U:∀x∈us,IsK prog w s.heap x)(I:∀x∈us,x.1≠[])(nd:(us.map (·.1)).Nodup)(hz:us.length<64)
 (h:∀(h':Heap) (L:Addr) (xs:List KA) (n:Nat),s.heap.objs.size<=L->(∀b o,s.heap.get? b=some o->h'.get? b=some o)->h'.get? L=some (CN "list" (rfs xs).toArray n)->xs.Perm us->(xs.Pairwise λx y=>lexI x.1 y.1=true)->Q (.ref L) { s with heap:=h' }) :
 As (A5 prog w) A (call (.builtin "sorted") [.ref l]) Q E s:=by
 refine EG Kf JJ JK (JL _) ?_;unfold BI.«sorted»;refine Aa (Ae ?_);refine Aa (collect_list ho ?_);refine Aa (Gr ?_ (by rw[lM,AY];omega));generalize B:(s.heap.push (CN "list" #[] 0)).update s.heap.objs.size (Bt (·++(rfs us).toArray))=h1;have q0:h1.objs.size=s.heap.objs.size+1:=by rw[<-B,Heap.size_update,G5]
 have G:∀b o,s.heap.get? b=some o->h1.get? b=some o:=λb o e=>by rw[<-B,Dt _ _ _ _ (A4 (Aq e))];exact Ab _ e
 refine Aa (Br (AZ Ji ⟨_,(Al _ rfl),rfl⟩ Ix (nT (Al _ rfl) (λx hx=>(U x hx).keep λo e=>Ab _ (G _ o e)) I nd hz λzs z1 z2=>⟨_,rfl,?_⟩) (Jj _)));obtain⟨n',Z⟩:=J0 (Al _ rfl);refine Ae ⟨_,rfl,h _ h1.objs.size zs n' (by omega) (λb o q=>?_) Z z1 z2⟩;have M:=Aq (G b o q);rw[Jk (A4 M) (by rw[G5];exact Bz M)];exact Ab _ (G b o q)
end
end L2
namespace Hp
open PySem PySem.Spec PyProof.Rows L2
theorem aKN(h:(a&&b)=true):a=true/\b=true:=by simpa using h
section
variable {K:Fg} {H:Hp} {ex:Addr->Prop}
theorem tJ:∀{ds:List D} {is:List Int} {xs:List V},bG ds=some is->Reps K H ex ds xs->xs=is.map V.int
 | [],is,xs,e,r=>by cases e;exact r|d::ds,is,xs,e,r=>by
  obtain⟨x,I,rfl,B,G⟩:=r;cases d with
  | int i=>
   unfold bG at e;cases q:bG ds with
   | none=>rw[q] at e;cases e|some ns=>rw[q] at e;cases e;rw[tJ q G,show x=.int i from B];rfl
  | _=>cases e
theorem aDz{is:List Int}(e:aBA d=some is)(r:Rep K H ex d u):∃b,u=.ref b/\SqT K H b (is.map V.int):=by
 cases d with
 | tup ds=>obtain⟨b,xs,G,B,I⟩:=r;rw[tJ e I] at B;exact⟨b,G,B⟩|_=>cases e
theorem aAI(h:eU (d::ds)=some ks):∃k js,aBA d=some k/\eU ds=some js/\ks=k::js:=by unfold eU at h;split at h;rename_i k js B G;cases h;exact⟨k,js,B,G,rfl⟩;cases h
theorem kN:∀{ds:List D} {ks:List (List Int)} {xs:List V},eU ds=some ks->Reps K H ex ds xs->∃us:List KA,us.map (·.1)=ks/\xs=us.map (λx=>V.ref x.2)/\∀x∈us,SqT K H x.2 (x.1.map V.int)
 | [],ks,xs,e,r=>by cases e;exact⟨[],rfl,r,λx B=>by cases B⟩|d::ds,ks,xs,e,r=>by obtain⟨x,r',rfl,L,M⟩:=r;obtain⟨k,js,G,I,rfl⟩:=aAI e;obtain⟨b,rfl,U⟩:=aDz G L;obtain⟨us,Z,u2,u3⟩:=kN I M;refine⟨(k,b)::us,by rw[mC,Z],by rw[u2];rfl,λx B=>?_⟩;rcases Ax.mp B with rfl|B;exact U;exact u3 x B
theorem nB:∀{us:List KA},(∀x∈us,SqT K H x.2 (x.1.map V.int))->Reps K H ex ((us.map (·.1)).map uW) (us.map λx=>V.ref x.2)
 | [],_=>rfl|x::us,h=>⟨.ref x.2,_,rfl,⟨x.2,x.1.map V.int,rfl,h x Am,(by
     have:∀is:List Int,Reps K H ex (is.map D.int) (is.map V.int):=λis=>by
      induction is with
      | nil=>rfl|cons i is G=>exact⟨.int i,_,rfl,rfl,G⟩
     exact this x.1)⟩,nB λy B=>h y (Ag _ B)⟩
end
theorem insU_mem:∀{ks:List (List Int)},x∈xT k ks↔x=k\/x∈ks
 | []=>by simp[xT]|y::ys=>by unfold xT;split;simp;split;rename_i e;subst e;simp;rw[Ax,insU_mem,Ax];grind
theorem tK:∀{ks:List (List Int)},ks.Pairwise (lexI · ·=true)->(xT k ks).Pairwise (lexI · ·=true)
 | [],_=>DD _ _|y::ys,h=>by
  obtain⟨B,I⟩:=Cs.mp h;unfold xT;split;rename_i c;exact Cs.mpr ⟨λz hz=>by
   rcases Ax.mp hz with rfl|hz;exact c;exact oP c (B z hz),h⟩
  rename_i c;split;exact h;rename_i G;refine Cs.mpr ⟨λz hz=>?_,tK I⟩;rcases insU_mem.mp hz with rfl|hz;exact qF G (by simpa using c);exact B z hz
theorem oQ:∀{ks:List (List Int)},x∈ssT ks↔x∈ks
 | []=>by simp[ssT]|k::ks=>by show x∈xT k (ssT ks)↔_;rw[insU_mem,oQ,Ax]
theorem qG:∀ks:List (List Int),(ssT ks).Pairwise (lexI · ·=true)
 | []=>.nil|k::ks=>tK (qG ks)
theorem aAJ{ks js:List (List Int)}(B:js.Pairwise (lexI · ·=true))(G:∀x,x∈js↔x∈ks):js=ssT ks:=tH B (qG ks) λx=>by rw[G,oQ]
theorem nC:∀us:List KA,aX (us.map λx=>V.ref x.2) (us.map λx=>AG x.2)
 | []=>.nil|_::us=>.cons rfl (nC us)
theorem nD:∀{us:List KA} {vs:List Value},aX (us.map λx=>V.ref x.2) vs->vs=us.map λx=>AG x.2
 | [],vs,h=>by cases h;rfl|x::us,vs,h=>by
  cases h with
  | cons B G=>rw[nD G,show _=AG x.2 from B];rfl
section
variable {X:Cx} {P:Pg} {Γ:Ct} {n:Nat} {RT Y J:Addr->Prop} {σ:Sg} {pos:Du}
theorem aFr(h:neK ks=true):∀k∈ks,k≠[]:=λk B z=>by have:=AB.mp h k B;rw[z] at this;cases this
theorem aKO(M:Mc X P Γ n)(hf:f=("sorted" : Str))(hg:dD Γ f=true)(q2:g=("set" : Str))(q3:dD Γ g=true)(ha:PE X ea (WE X P n RT Y J σ a))(hp:aQ ea=true) :
 PE X (.Call (.Name f pf) [.Call (.Name g pg) [ea] [] p2] [] pos) (WE X P n RT Y J σ (.sset a)):=by
 subst hf q2;have hu:=M.units;intro pins s σV H Q I hw;obtain⟨S,h⟩:=hw;have h:=RE.bind' (show RE (ev P (call P n) σ a >>= λx=>(match x.d with
  | .lst ds=>(match eU ds with|some ks=>R.iff (neK ks&&decide ((ssT ks).length<=18)) (R.ok (⟨.lst ((ssT ks).map uW),true,false,[]⟩:Vl))|none=>.bad)
  | _=>.bad)) _ from h)
 obtain⟨x,ex,h⟩:=h.eq;cases hd:x.d with
 | lst ds=>
  rw[hd] at h;cases hk:eU ds with
  | none=>simp only[hk] at h;exact h.elim|some ks=>
   simp only[hk] at h;obtain⟨hc,h⟩:=h.iff;obtain⟨q5,B⟩:=aKN hc;have B:=of_decide_eq_true B;refine Bq (dY I (M.gl hg) (M.md.blt _ (by decide +kernel)) Kg ?_ (by decide +kernel) (by decide +kernel));refine B4 ?_ (aC (e:=.Call (.Name "set" pg) [ea] [] p2) (es:=[]) rfl) rfl;rw[aC (e:=.Call (.Name "set" pg) [ea] [] p2) (es:=[]) rfl];show As _ _ (IA ((false,Ch (.Call (.Name "set" pg) [ea] [] p2) X.env)::Cd pos (AA [] X.env))) _ _ s;refine Cq (Bq (dY I (M.gl q3) (M.md.blt _ (by decide +kernel)) (show BC "set" = some (.type "set") by kernel_rfl) ?_ (by decide +kernel) (by decide +kernel)));refine Bv (thn (cZ (es:=[]) ha eP (aC hp) p2 pins s σV H (λus H1=>∃u,us=[u]/\Tk X.K H1/\Ro X.K RT Y J σ σV H H1 x u) I ⟨S,?_⟩) λus s1 ⟨vs,H1,I1,r1,u,e1,t1,ro⟩=>?_) (aC hp) rfl;rw[ex];intro u H1 t1 ro;exact⟨u,rfl,t1,ro⟩;subst e1;obtain⟨u',rfl,ru⟩:=r1.one;obtain⟨b,xs,rfl,hS,_,rr⟩:=(ro.rv S).lst hd;cases ru;obtain⟨q9,r2,p,_⟩:=I1.list hS;obtain⟨us,u1,rfl,u3⟩:=kN hk rr;have hK:∀x∈us,IsK X.prog X.w s1.heap x:=λx U=>vG I1 (u3 x U);have q0:∀x∈us,x.1≠[]:=λx U=>aFr q5 x.1 (by rw[<-u1];exact AE.mpr ⟨x,U,rfl⟩);refine aDw (us:=us) (I1.ok.hd M.calm) (by omega) p.isList (by rw[Gj];exact nD r2) hK (ssT ks) B (λx U=>oQ.mpr (by rw[<-u1];exact AE.mpr ⟨x,U,rfl⟩)) λh' tk q1 G=>?_;have I2:L2.Inv X pins σV H1 { s1 with heap:=h',toks:=tk }:=I1.kept λb o e=>G b o (Aq e) e;refine DF ?_;refine yQ (s:={ s1 with heap:=h',toks:=tk }) (I2.ok.hd M.calm) q1 (λx U=>vG I2 (u3 x U)) q0 λh2 q7 L Z m hL q4 q6 y1 y2 y3=>?_;have hn:H1 L=none:=I2.hok.fresh hL;have e4:Z.map (·.1)=ssT ks:=aAJ (C5.mpr y3) λz=>by rw[<-u1];grind
   have q8:Z.length<=18:=by rw[<-lM (f:=λx:KA=>x.1),e4];exact B
   have I3:L2.Inv X pins σV (upd H1 L (.lst (Z.map λx=>V.ref x.2))) { s1 with heap:=h2,toks:=q7 }:=I2.laid q4 hL ⟨by rw[lM,AY];omega,rfs Z,m,nC Z,q6⟩;have s3:aL H1 (upd H1 L (.lst (Z.map λx=>V.ref x.2))):=aL.new hn;refine⟨.ref L,_,I3,rfl,?_⟩;rw[<-e4] at h;exact(show Wn X RT Y J σ σV H Q (⟨.lst ((Z.map (·.1)).map uW),true,false,[]⟩:Vl) from h) _ _ I3.tk ⟨ro.1.trans s3,by rw[if_pos rfl];exact⟨L,_,_,rfl,rfl,ro.1.free hn,aP,nB λy hy=>aL.seqT s3 (u3 y (y1 y hy))⟩⟩
 | _=>rw[hd] at h;exact h.elim
theorem aNE(M:Mc X P Γ n)(hf:f=("sorted" : Str))(hg:dD Γ f=true)(ha:PE X ea (WE X P n RT Y J σ a))(hp:aQ ea=true):PE X (.Call (.Name f pf) [ea] [] pos) (WE X P n RT Y J σ (.srt a)):=by
 subst hf;intro pins s σV H Q I hw;obtain⟨S,h⟩:=hw;have h:=RE.bind' (h);obtain⟨x,ex,h⟩:=h.eq;cases hd:x.d with
 | lst ds=>
  rw[hd] at h;cases hk:eU ds with
  | none=>simp only[hk] at h;exact h.elim|some ks=>
   simp only[hk] at h;obtain⟨hc,h⟩:=h.iff;obtain⟨hc,q0⟩:=aKN hc;obtain⟨q4,q3⟩:=aKN hc;refine Bq (dY I (M.gl hg) (M.md.blt _ (by decide +kernel)) Kg ?_ (by decide +kernel) (by decide +kernel));refine B4 (thn (cZ ha eP (aC hp) pos pins s σV H (λus H1=>∃u,us=[u]/\Tk X.K H1/\Ro X.K RT Y J σ σV H H1 x u) I ⟨S,?_⟩) λus s1 ⟨vs,H1,B,r1,u,e1,t1,G⟩=>?_) (aC hp) rfl;rw[ex];intro u H1 t1 G;exact⟨u,rfl,t1,G⟩;subst e1;obtain⟨u',rfl,ru⟩:=r1.one;obtain⟨b,xs,rfl,hS,_,rr⟩:=(G.rv S).lst hd;cases ru;obtain⟨q7,r2,p,_⟩:=B.list hS;obtain⟨us,u1,rfl,u3⟩:=kN hk rr;have q2:us.length<=60:=by rw[<-lM,u1];exact(of_decide_eq_true q0)
   refine vH (by have:=p.isList;rw[nD r2] at this;exact this) (λx hx=>vG B (u3 x hx)) (λx hx=>aFr q4 x.1 (by rw[<-u1];exact AE.mpr ⟨x,hx,rfl⟩)) (by rw[u1];exact(of_decide_eq_true q3)) (by omega) λh2 L U m Z q1 q5 y1 y3=>?_;have e4:U.map (·.1)=ssT ks:=aAJ (C5.mpr y3) λz=>by rw[<-u1];exact(y1.map _).mem_iff
   have q6:U.length<=60:=by rw[y1.length_eq];exact q2
   have I3:L2.Inv X pins σV (upd H1 L (.lst (U.map λx=>V.ref x.2))) { s1 with heap:=h2 }:=B.laid q1 Z ⟨by rw[lM,AY];omega,rfs U,m,nC U,q5⟩;refine⟨.ref L,_,I3,rfl,?_⟩;rw[<-e4] at h;exact(h) _ _ I3.tk ⟨G.1.trans (aL.new (B.hok.fresh Z)),by rw[if_pos rfl];exact⟨L,_,_,rfl,rfl,G.1.free (B.hok.fresh Z),aP,nB λy hy=>aL.seqT (aL.new (B.hok.fresh Z)) (u3 y (y1.mem_iff.mp hy))⟩⟩
 | _=>rw[hd] at h;exact h.elim
end
end Hp
noncomputable section
set_option maxHeartbeats 4000000
namespace Hp
open PySem PySem.Spec PyProof.Rows L2
section
variable {K:Fg} {H H':Hp}
theorem Rws.get:∀{dss:List (List D)} {bs:List Addr},Rws K H dss bs->dss.length=bs.length/\∀(k:Nat) (ds:List D) (c:Addr),dss[k]? = some ds->bs[k]? = some c->∃xs,H c=some (.lst xs)/\noLs ds=true/\Reps K H (λ_=>False) ds xs
 | [],_,h=>by rw[show _=[] from h];exact⟨rfl,λk ds c e=>by simp at e⟩|ds::dss,_,h=>by
  obtain⟨b,r,xs,rfl,M,U,Z,h4⟩:=h;obtain⟨I,L⟩:=Rws.get h4;refine⟨by rw[lC,lC,I],λk ds' c B G=>?_⟩;cases k with
  | zero=>cases B;cases G;exact⟨xs,M,U,Z⟩|succ k=>exact L k ds' c B G
theorem Rws.of:∀{dss:List (List D)} {bs:List Addr},dss.length=bs.length->(∀(k:Nat) (ds:List D) (c:Addr),dss[k]? = some ds->bs[k]? = some c->∃xs,H c=some (.lst xs)/\noLs ds=true/\Reps K H (λ_=>False) ds xs)->Rws K H dss bs
 | [],bs,h,_=>by
  cases bs with
  | nil=>rfl|cons _ _=>cases h
 | ds::dss,bs,h,g=>by
  cases bs with
  | nil=>cases h|cons b r=>obtain⟨xs,I,L,M⟩:=g 0 ds b rfl rfl;exact⟨b,r,xs,rfl,I,L,M,Rws.of (by simpa using h) λk ds' c B G=>g (k+1) ds' c B G⟩
theorem Rws.reps{ex:Addr->Prop}:∀{dss:List (List D)} {bs:List Addr},Rws K H dss bs->(∀b∈bs,¬ ex b)->Reps K H ex (dss.map D.lst) (bs.map V.ref)
 | [],_,h,_=>by rw[show _=[] from h];rfl|ds::dss,_,h,f=>by obtain⟨b,r,xs,rfl,B,G,I,L⟩:=h;exact⟨.ref b,r.map V.ref,rfl,⟨b,xs,rfl,SqL.of B,f b Am,Reps.free _ _ G I⟩,Rws.reps L λc M=>f c (Ag _ M)⟩
theorem vI(h:ixN n k=some q):q<n:=by unfold ixN at h;split at h;split at h;cases h;omega;cases h;split at h;cases h;omega;cases h
end
section
variable {X:Cx} {P:Pg} {Γ:Ct} {n:Nat} {RT Y J:Addr->Prop} {σ:Sg} {pos:Du}
theorem aFs(M:Mc X P Γ n)(B:bK Γ i x=true):PE X (.Name x p) (aCO i):=by unfold bK at B;simp only[bA] at B;obtain⟨⟨I,L⟩,G⟩:=B;exact uL (by rw[M.N];exact eq_of_beq I) (M.vis L) (aY G) (iY G)
theorem vJ{σV:L2.St}{H:Hp}{j q:Nat}{k:Int}{dss:List (List D)}(S:Sx X.K RT Y J σ σV H)(e:σ[j]? = some (.own2 dss))(I:ixN dss.length k=some q) :
 ∃(a:Addr) (bs:List Addr) (b:Addr) (xs:List V),σV[j]? = some (some (.ref a))/\H a=some (.lst (bs.map V.ref))/\bs[q]? = some b/\L2.atI (bs.map V.ref) k=some (.ref b)/\H b=some (.lst xs)/\noLs (dss.getD q [])=true/\Reps X.K H (λ_=>False) (dss.getD q []) xs:=by
 obtain⟨a,bs,h1,h2,h3,h4,h5⟩:=S.dx.at2 j dss e;obtain⟨U,Z⟩:=h5.get;have G:=vI I;have B:bs[q]? = some bs[q]:=Ac (by omega);have M:dss[q]? = some (dss.getD q []):=by rw[Ak,Ac G];rfl
 obtain⟨xs,g3,g4,g5⟩:=Z q _ _ M B;refine⟨a,bs,bs[q],xs,h1,h2,B,?_,g3,g4,g5⟩;have L:L2.ixN bs.length k=some q:=by rw[<-U,<-mW];exact I
 unfold L2.atI;rw[lM,L];show(bs.map V.ref)[q]? = _;rw[Ar,B];rfl
theorem aFt{σV:L2.St}{H:Hp}{o:CmpOp}{a k:E}{j:Nat}{α:Type}{mk:Bool->α}{p:α->Prop}{Q:V->Hp->Prop}(S:Sx X.K RT Y J σ σV H)
 (h:RE (ev P (call P n) σ a >>= λx=>ev P (call P n) σ k >>= λy=>(match σ[j]?,y.d with
  | some (.own2 dss),.int k=>(match ixN dss.length k with
   | some q=>(match o,inD x.d (.lst (dss.getD q [])) with
    | .In,some b=>R.ok (mk b)|.NotIn,some b=>R.ok (mk !b)|_,_=>.bad)
   | none=>.bad)
  | _,_=>.bad)) p) (hQ:∀b H',Tk X.K H'->aL H H'->p (mk b)->Q (.bl b) H') :
 WE X P n RT Y J σ a σV H λx H1=>tOp (aJV X.K) (aCO j) (WE X P n RT Y J σ k) σV H1 λy G=>∃(σ':Sg) (I:L2.St) (x' y':Vl) (b:Bool),Rv X.K (λ_=>False) (λ_=>False) (λ_=>False) σ' I G x' x/\Rv X.K (λ_=>False) (λ_=>False) (λ_=>False) σ' I G y' y/\cT o x'.d y'.d=some b/\Q (.bl b) G:=by
 refine wE.one S (RE.bind' h) λx u H1 B t1 M r1=>?_;obtain⟨y,ey,B⟩:=(RE.bind' B).eq;split at B;rename_i dss kk e1 e2;split at B;rename_i q hq;obtain⟨Z,bs,b,xs,g1,g2,g3,g4,g5,g6,g7⟩:=vJ M e1 hq;refine⟨.ref Z,g1,M,?_⟩;rw[ey];intro uk G t2 L;have s:=r1.1.trans L.1;refine⟨Z,bs.map V.ref,kk,.ref b,rfl,(L.rv M).int e2,SqL.of (L.1 _ _ g2),g4,σ,σV,x,⟨.lst (dss.getD q []),false,true,[]⟩,?_⟩;have rx:Rv X.K (λ_=>False) (λ_=>False) (λ_=>False) σ σV G x u:=Rep.weak ((r1.rv S).grow L.1) λa z=>by rcases z with z|z|z;exact z.1.elim;exact z.elim;exact z.2.elim
 have ry:Rv X.K (λ_=>False) (λ_=>False) (λ_=>False) σ σV G ⟨.lst (dss.getD q []),false,true,[]⟩ (.ref b):=by refine⟨b,xs,rfl,SqL.of (L.1 _ _ g5),λz=>?_,(g7.grow L.1).weak λa z=>?_⟩;rcases z with z|z|z;exact z.1;exact z;exact z.2;rcases z with z|z|z;exact z.1;exact z;exact z.2
 cases hi:inD x.d (.lst (dss.getD q [])) with
 | none=>rw[hi] at B;cases o <;> exact B.elim|some U=>
  rw[hi] at B;cases o with
  | In=>exact⟨U,rx,ry,hi,hQ U G t2 s B⟩|NotIn=>refine⟨!U,rx,ry,?_,hQ _ G t2 s B⟩;show(inD x.d _).map (!·)=_;rw[hi];rfl|_=>exact B.elim
 exact B.elim;exact B.elim
theorem aNF(M:Mc X P Γ n){o:CmpOp}{a k:E}{j:Nat}{x:Str}{p p2:Du}{I B:A6}(hx:bK Γ j x=true)(L:PE X I (WE X P n RT Y J σ a))(U:PE X B (WE X P n RT Y J σ k))(Z:aQ B=true) :
 PE X (.Compare I [o] [.Subscript (.Name x p) B p2] pos) (WE X P n RT Y J σ (.in2 o a j k)):=
 (aBq (fJ M o) L (xK lI (aFs M hx) U (fC Z)) (iI rfl)).imp λσV H Q t ⟨S,h⟩=>aFt (Q:=λv H'=>Tk X.K H'->Q v H') S h λb H' t' s q G=>q _ H' G (Ro.cl s rfl)
theorem aNG(M:Mc X P Γ n){o:CmpOp}{a k:E}{j:Nat}{x:Str}{p p2:Du}{I B:A6}(hx:bK Γ j x=true)(L:PE X I (WE X P n RT Y J σ a))(U:PE X B (WE X P n RT Y J σ k))(Z:aQ B=true) :
 PT X (.Compare I [o] [.Subscript (.Name x p) B p2] pos) (WT X P n RT Y J σ (.in2 o a j k)):=
 (aBr (fJ M o) L (xK lI (aFs M hx) U (fC Z)) (iI rfl)).imp λσV H Q t ⟨S,h⟩=>aFt (Q:=λv H'=>∃b,v=.bl b/\(Tk X.K H'->Q b H')) S h λb H' t' s q=>⟨b,rfl,λG=>q H' G s⟩
theorem aKP(M:Mc X P Γ n){k e:E}{j:Nat}{x:Str}{p p2:Du}{L eb:A6}(hx:bK Γ j x=true)(hk:PE X L (WE X P n RT Y J σ k))(hb:PE X eb (WE X P n RT Y J σ e))(U:aQ L=true) :
 PE X (.BinOp (.Subscript (.Name x p) L p2) .Add eb pos) (WE X P n RT Y J σ (.add2 j k e)):=by refine(aMD aBC (xK lI (aFs M hx) hk (fC U)) hb).imp λσV H Q t ⟨S,h⟩=>?_;have h:=RE.bind' (h);obtain⟨y,ey,h⟩:=h.eq;obtain⟨z,ez,h⟩:=(RE.bind' h).eq;split at h;rename_i dss kk bs e1 e2 e3;split at h;rename_i q hq;obtain⟨hc,h⟩:=h.iff;obtain⟨c1,c2⟩:=(bA _ _).mp hc;have c2:=of_decide_eq_true c2;obtain⟨ad,as,b,xs,g1,g2,g3,g4,g5,g6,g7⟩:=vJ S e1 hq;refine⟨.ref ad,g1,S,?_⟩;rw[ey];intro uk H1 t1 G;have I:=S.grow G.1 t1;refine⟨ad,as.map V.ref,kk,.ref b,rfl,(G.rv S).int e2,SqL.of (G.1 _ _ g2),g4,I,?_⟩;rw[ez];intro uz H2 t2 Z;have B:Rep X.K H2 (exV RT Y J σ σV z.pa z.al) z.d uz:=Z.rv I;rw[e3] at B;obtain⟨c,zs,rfl,qc,_,B⟩:=B;have s:=G.1.trans Z.1;have l1:=g7.length;have l2:=B.length;exact⟨b,c,xs,zs,rfl,rfl,SqL.of (s _ _ g5),qc,eB (by omega),λp U t'=>((h) _ _ t' ((Ro.fresh U t' rfl rfl (I.grow Z.1 t2) ((Reps.free _ _ g6 (g7.grow s)).append (Reps.free _ _ c1 B))).from s))⟩;exact h.elim;exact h.elim
end
end Hp
end
noncomputable section
set_option maxHeartbeats 8000000
namespace Hp
open PySem PySem.Spec PyProof.Rows L2
section
variable {P:Pg} {n:Nat}
theorem yR{X:Cx}{Γ:Ct}(M:Mc X P Γ n)(scope:De):(JD scope X.env).names=sU Γ.sc scope.names:=by
 unfold JD sU;simp only;refine B9 λp I=>?_;obtain⟨m,k⟩:=p;have B:(X.env.scope.kind==K0)=true:=by rw[M.fk];rfl
 have G:X.env.kindOf m=Γ.sc.lookup m:=by unfold Env.kindOf;rw[M.sc]
 simp only[B,G,Dy]
abbrev chN(Γ:Ct)(tg:A6)(caps:List Nat):List Str:=fU tg++caps.filterMap λi=>Γ.N[i]?
abbrev aAK(Γ:Ct)(tg:A6)(caps:List Nat)(scope:De):Ct:={ Γ with N:=chN Γ tg caps,sc:=sU Γ.sc scope.names,fn:=false }
structure aFu (Γ:Ct) (tg:A6) (caps:List Nat) (scope:De) (k:Nat) (t:T):Prop where
 len:(fU tg).length=k
 lt:∀i∈caps,i<Γ.N.length
 ndc:caps.Nodup
 kind:scope.kind=.function
 nd:(chN Γ tg caps).Nodup
 cap:∀x∈caps.filterMap (λi=>Γ.N[i]?),scope.names.lookup x=some .free/\Γ.sc.lookup x=some .cell
 all:∀p∈scope.names,p.2≠.cell/\(p.2=.local->scope.names.lookup p.1=some .local)/\(p.2=.free->Γ.sc.lookup p.1=some .cell)
 tk:∀i∈tIx t,i<k
theorem aFv{N:List Str}:∀{caps:List Nat},(∀i∈caps,i<N.length)->∀{j i:Nat},caps[j]? = some i->(caps.filterMap λi=>N[i]?)[j]? = N[i]?/\(caps.filterMap λi=>N[i]?).length=caps.length
 | [],_,_,_,h=>by simp at h|c::cs,hl,j,i,h=>by
  have B:N[c]? = some N[c]! := by have:=hl c Am;simp[this]
  rw[List.filterMap_cons_some B];have len:(cs.filterMap λi=>N[i]?).length=cs.length:=by simp_all
  refine⟨?_,by rw[lC,lC,len]⟩;cases j with
  | zero=>grind|succ j=>rw[gS];exact(aFv (λi hi=>hl i (Ag _ hi)) (by simpa using h)).1
theorem aKQ{N:List Str}{caps:List Nat}(h:∀i∈caps,i<N.length):(caps.filterMap λi=>N[i]?).length=caps.length:=by simp_all
theorem aFu.scope{X:Cx}{Γ:Ct}{tg:A6}{caps:List Nat}{scope:De}{k:Nat}{t:T}(O:aFu Γ tg caps scope k t)(M:Mc X P Γ n):cS X scope k caps (chN Γ tg caps) where
 kind:=O.kind
 nocell:=λy G=>(O.all y G).1
 loc:=λy G e=>(O.all y G).2.1 e
 free:=λm U=>.inl (by
  have:=(O.all _ U).2.2 rfl;show X.env.scope.names.lookup m=_;rw[M.sc];exact this)
 len:=by rw[lA,O.len,aKQ O.lt]
 cap:=λj i e=>by have hi:=O.lt i (mG e);have B:=(aFv O.lt e).1;rw[(Ac hi)] at B;obtain⟨I,L⟩:=O.cap _ (mG B);refine⟨Γ.N[i],?_,by rw[M.N];exact(Ac hi),I,?_⟩;show(fU tg++_)[k+j]? = _;rw[A3 (by rw[O.len];omega),O.len,AN];exact B;show X.env.scope.names.lookup _=_;rw[M.sc];exact L
 ndp:=M.nd
theorem aFu.mc{X:Cx}{Γ:Ct}{tg:A6}{caps:List Nat}{scope:De}{k:Nat}{t:T}(O:aFu Γ tg caps scope k t)(M:Mc X P Γ n)(C:Addr)(s₀:Ad)(H₀:Hp)(ex:List Addr) :
 Mc (dB X scope (chN Γ tg caps) C s₀ H₀ ex) P (aAK Γ tg caps scope) n where
 md:=⟨M.md.fn,M.md.blt,M.md.cns,M.md.tab,M.md.obj,M.md.mkr⟩
 N:=rfl
 nd:=O.nd
 sc:=yR M scope
 calm:=M.calm
 room:=M.room
 xe:=rfl
 st:=λx h=>.inr (by
  show(JD scope X.env).names.lookup x=_;rw[yR M scope];unfold xU at h;split at h;rename_i e;exact e;cases h;cases h)
 fk:=O.kind
theorem yS:chkI Γ tt (.rng a b) e=oS (mT e) λp=>(p.1==("range" : Str))&&dD Γ p.1&&(match p.2 with
 | [x]=>aAs a&&aR Γ b x|[x,y]=>aR Γ a x&&aR Γ b y|_=>false):=rfl
theorem yT:chkI Γ tt (.zip a b) e=oS (mT e) λp=>(match p.2 with
 | [x,y]=>tt&&(p.1==("zip" : Str))&&dD Γ p.1&&aR Γ a x&&aR Γ b y|_=>false):=rfl
theorem tL:chkI Γ tt (.enum a) e=oS (mT e) λp=>(match p.2 with
 | [x]=>tt&&(p.1==("enumerate" : Str))&&dD Γ p.1&&aR Γ a x|_=>false):=rfl
theorem gO(h:chkI Γ tt it e=true):aQ e=true:=by
 cases it with
 | seq c=>exact aO (by exact h)|rng a b=>rw[yS] at h;obtain⟨_,⟨_,_,rfl⟩,_⟩:=aD h;rfl|zip a b=>rw[yT] at h;obtain⟨_,⟨_,_,rfl⟩,_⟩:=aD h;rfl|enum a=>rw[tL] at h;obtain⟨_,⟨_,_,rfl⟩,_⟩:=aD h;rfl
theorem aHU{RT Y J:Addr->Prop}(h:tst P (call P n) σ c=.bad):PT X e (WT X P n RT Y J σ c):=λpins s σV H Q I ⟨S,B⟩=>by rw[h] at B;exact B.elim
theorem eG(h:(a&&b&&c)=true):a=true/\b=true/\c=true:=by grind
theorem cV(h:(a&&b)=true):a=true/\b=true:=by grind
theorem vK(h:(a&&b&&c&&d)=true):a=true/\b=true/\c=true/\d=true:=by obtain⟨B,G,I⟩:=eG h;obtain⟨B,L⟩:=cV B;exact⟨B,L,G,I⟩
theorem vL(h:(a&&b&&c&&d&&e)=true):a=true/\b=true/\c=true/\d=true/\e=true:=by obtain⟨B,G,I,L⟩:=vK h;obtain⟨B,M⟩:=cV B;exact⟨B,M,G,I,L⟩
theorem vM{Γ:Ct}{k:Nat}{caps:List Nat}{t:T}{it:Hp.It}{cond:Es}{elt:E}{e:A6}(h:aR Γ (.comp k caps t it cond elt) e=true) :
 ∃I tg B G scope pos,e=.ListComp I [⟨tg,B,G,0⟩] scope pos/\aFu Γ tg caps scope k t/\G.length<=1/\pG (aAK Γ tg caps scope) t tg=true/\chkI Γ (pF tg) it B=true/\chkEs (aAK Γ tg caps scope) cond G=true/\aR (aAK Γ tg caps scope) elt I=true:=by
 obtain⟨⟨I,gens,scope⟩,L,g⟩:=aD h;clear h;obtain⟨pos,rfl⟩:=L;have h:=g;clear g;rcases gens with _|⟨⟨tg,B,G,as⟩,_|⟨_,_⟩⟩
 cases h;have h:(as==0&&(fU tg).length==k&&(caps.all λi=>decide (i<Γ.N.length))&&decide caps.Nodup&&scope.kind==.function&&decide (fU tg++caps.filterMap λi=>Γ.N[i]?).Nodup &&
  ((caps.filterMap λi=>Γ.N[i]?).all λx=>scope.names.lookup x==some .free&&Γ.sc.lookup x==some .cell) &&
  (scope.names.all λp=>p.2 != .cell&&(p.2 != .local||scope.names.lookup p.1==some .local)&&(p.2 != .free||Γ.sc.lookup p.1==some .cell)) &&
  ((tIx t).all λi=>decide (i<k))&&decide (G.length<=1) &&
  pG (aAK Γ tg caps scope) t tg&&chkI Γ (pF tg) it B&&chkEs (aAK Γ tg caps scope) cond G&&aR (aAK Γ tg caps scope) elt I)=true:=by exact h
 simp only[bA,beq_iff_eq,AB,AJ,Cf,bne_iff_ne,ne_eq] at h;obtain⟨⟨⟨⟨⟨⟨⟨⟨⟨⟨⟨⟨⟨h0,L⟩,h2⟩,h3⟩,h4⟩,h5⟩,h6⟩,h7⟩,h8⟩,h9⟩,M⟩,U⟩,Z⟩,q0⟩:=h;subst h0;refine⟨I,tg,B,G,scope,pos,rfl,⟨L,h2,h3,h4,h5,h6,λp hp=>?_,h8⟩,h9,M,U,Z,q0⟩;obtain⟨⟨q1,q2⟩,q3⟩:=h7 p hp;exact⟨q1,λe=>q2.resolve_left λz=>z e,λe=>q3.resolve_left λz=>z e⟩;cases h
abbrev PEc(P:Pg)(n:Nat)(c:E):Prop:=∀{X:Cx} {Γ:Ct},Mc X P Γ n->∀{e:A6},aR Γ c e=true->∀(RT Y J:Addr->Prop) (σ:Sg),PE X e (WE X P n RT Y J σ c)
abbrev PTc(P:Pg)(n:Nat)(c:E):Prop:=∀{X:Cx} {Γ:Ct},Mc X P Γ n->∀{e:A6},aR Γ c e=true->∀(RT Y J:Addr->Prop) (σ:Sg),PT X e (WT X P n RT Y J σ c)
abbrev PWc(P:Pg)(n:Nat)(c:E):Prop:=∀{X:Cx} {Γ:Ct},Mc X P Γ n->∀{o:BoolOp} {xs:List A6} {pos:Du},aR Γ c (.BoolOp o xs pos)=true->∀(RT Y J:Addr->Prop) (σ:Sg),PW X (.BoolOp o xs pos) (WT X P n RT Y J σ c)
structure Q3 (P:Pg) (n:Nat) (c:E):Prop where
 e:PEc P n c
 t:PTc P n c
 w:PWc P n c
structure QA (P:Pg) (n:Nat) (cs:Es):Prop where
 a:∀{X:Cx} {Γ:Ct},Mc X P Γ n->∀{es:List A6},chkEs Γ cs es=true->∀(RT Y J:Addr->Prop) (σ:Sg),PA X es (WA X P n RT Y J σ cs)
 o:∀{X:Cx} {Γ:Ct},Mc X P Γ n->∀{e:Option A6},chkO Γ cs e=true->∀(RT Y J:Addr->Prop) (σ:Sg),PO X e (wO X P n RT Y J σ cs)
 ts:∀{X:Cx} {Γ:Ct},Mc X P Γ n->∀{es:List A6},es.length<=1->chkEs Γ cs es=true->∀(RT Y J:Addr->Prop) (σ:Sg),PTs X es (wTs X P n RT Y J σ cs)
abbrev QI(P:Pg)(n:Nat)(it:Hp.It):Prop:=∀{X:Cx} {Γ:Ct},Mc X P Γ n->∀{tg e:A6},chkI Γ (pF tg) it e=true->∀(RT Y J:Addr->Prop) (σ:Sg),PI X tg e (wI X P n RT Y J σ it)
theorem Q3.of(h:PEc P n c)(hd:∀σ,tst P (call P n) σ c=.bad)(B:∀{Γ:Ct} {o:BoolOp} {xs:List A6} {pos:Du},aR Γ c (.BoolOp o xs pos)=false):Q3 P n c:=
 ⟨h,λ{X Γ} M {e} z RT Y J σ=>aHU (hd σ),λ{X Γ} M {o xs pos} z RT Y J σ=>absurd (B.symm.trans z) bN⟩
theorem n_c:Q3 P n (.c d):=by
 have L:∀{Γ:Ct} {e:A6},aR Γ (.c d) e=true->(∃c k p,e=.Constant c k p/\eqC d c=true)\/∃x p,e=.Name x p/\dD Γ x=true/\dA x=true/\∃d',Γ.cns.lookup x=some d'/\eqK d d'=true:=λ{Γ e} h=>by rcases(Cf _ _).mp (h) with h|h;obtain⟨c,B,g⟩:=aD h;clear h;obtain⟨k,p,rfl⟩:=B;have h:=g;clear g;exact .inl ⟨c,k,p,rfl,h⟩;obtain⟨x,B,g⟩:=aD h;clear h;obtain⟨p,rfl⟩:=B;have h:=g;clear g;obtain⟨B,G,I⟩:=eG h;obtain⟨d',q1,q2⟩:=aBH I;exact .inr ⟨x,p,rfl,B,G,d',q1,q2⟩
 have k:PEc P n (.c d):=λ{X Γ} M {e} h RT Y J σ=>by
  rcases L h with⟨c,j,p,rfl,g⟩|⟨x,p,rfl,B,G,d',q,I⟩
  exact s_c g;have e:=aKn I;subst e;obtain⟨u,v,m,r,hr⟩:=M.md.cns x d q;exact(aGT (M.gl B) m r (aY G)).imp λσV H Q t ⟨S,U⟩ t'=>((U) v H t' (Ro.val (aL.refl H) (hr H)))
 refine⟨k,λ{X Γ} M {e} h RT Y J σ=>?_,λ{X Γ} M {o xs pos} h RT Y J σ=>absurd h bN⟩;refine pN (k M h RT Y J σ) ?_ λp Z=>Z;rcases L h with⟨c,j,p,rfl,h⟩|⟨x,p,rfl,_⟩ <;> (intro _;rfl)
theorem n_v:Q3 P n (.v i):=by
 have k:PEc P n (.v i):=λ{X Γ} M {e} h RT Y J σ=>by obtain⟨x,B,g⟩:=aD h;clear h;obtain⟨p,rfl⟩:=B;have h:=g;clear g;unfold bK at h;obtain⟨B,I,G⟩:=eG h;exact s_v (by rw[M.N];exact eq_of_beq B) (M.vis I) (aY G) (iY G)
 refine⟨k,λ{X Γ} M {e} h RT Y J σ=>?_,λ{X Γ} M {o xs pos} h RT Y J σ=>absurd h bN⟩;refine pN (k M h RT Y J σ) ?_ λp L=>RE.bind' (L);obtain⟨x,⟨p,rfl⟩,_⟩:=aD h;intro _;rfl
theorem aQf(L:Q3 P n a)(U:Q3 P n b):Q3 P n (.op o a b):=Q3.of (λ{X Γ} M {e} h RT Y J σ=>by
 obtain⟨⟨l,o',r⟩,B,g⟩:=aD h;clear h;obtain⟨p,rfl⟩:=B;have h:=g;clear g;obtain⟨B,G,I⟩:=eG h;have e:=eq_of_beq B;subst e;exact aPX (L.e M G RT Y J σ) (U.e M I RT Y J σ)) (λ_=>rfl) rfl
theorem aNH(I:Q3 P n a):Q3 P n (.neg a):=Q3.of (λ{X Γ} M {e} h RT Y J σ=>by
 obtain⟨⟨o,x⟩,B,g⟩:=aD h;clear h;obtain⟨p,rfl⟩:=B;have h:=g;clear g;obtain⟨B,G⟩:=cV h;have e:=eq_of_beq B;subst e;exact aNg (I.e M G RT Y J σ)) (λ_=>rfl) rfl
theorem aQg(G:Q3 P n a):Q3 P n (.nt a):=by
 have B:∀{Γ:Ct} {e:A6},aR Γ (.nt a) e=true->∃x p,e=.UnaryOp .Not x p/\aR Γ a x=true:=λ{Γ e} h=>by obtain⟨⟨o,x⟩,I,g⟩:=aD h;grind
 refine⟨λ{X Γ} M {e} h RT Y J σ=>?_,λ{X Γ} M {e} h RT Y J σ=>?_,λ{X Γ} M {o xs pos} h RT Y J σ=>absurd h bN⟩;obtain⟨x,p,rfl,g⟩:=B h;exact aNh (G.e M g RT Y J σ);obtain⟨x,p,rfl,g⟩:=B h;exact fZ (G.t M g RT Y J σ)
theorem aBT(h:(match xs with
 | [x,y]=>aR Γ a x&&aR Γ b y|x::y::z::r=>aR Γ a x&&aR Γ b (.BoolOp w (y::z::r) p)|_=>false)=true):∃x y r,xs=x::y::r/\aR Γ a x=true/\((r=[]/\aR Γ b y=true)\/aR Γ b (.BoolOp w (y::r) p)=true):=by
 rcases xs with _|⟨x,_|⟨y,_|⟨z,r⟩⟩⟩
 cases h;cases h;obtain⟨B,G⟩:=cV h;exact⟨x,y,[],rfl,B,.inl ⟨rfl,G⟩⟩;obtain⟨B,G⟩:=cV h;exact⟨x,y,z::r,rfl,B,.inr G⟩
theorem aQh(L:Q3 P n a)(U:Q3 P n b):Q3 P n (.an a b):=by
 have kw:PWc P n (.an a b):=λ{X Γ} M {o xs pos} h RT Y J σ=>by obtain⟨I,Z⟩:=cV h;have e:=eq_of_beq I;subst e;obtain⟨x,y,r,rfl,G,B⟩:=aBT Z;rcases B with⟨rfl,B⟩|B;exact aNs (L.t M G RT Y J σ) (aGV (U.t M B RT Y J σ));exact aNs (L.t M G RT Y J σ) (U.w M B RT Y J σ)
 refine⟨λ{X Γ} M {e} h RT Y J σ=>?_,λ{X Γ} M {e} h RT Y J σ=>?_,kw⟩;obtain⟨⟨o,xs,pos⟩,I,g⟩:=aD h;clear h;obtain rfl:=I;have h:=g;clear g;obtain⟨I,Z⟩:=cV h;have e:=eq_of_beq I;subst e;obtain⟨x,y,r,e,G,B⟩:=aBT Z;subst e;rcases B with⟨rfl,B⟩|B;exact aNi (L.e M G RT Y J σ) (aDX (U.e M B RT Y J σ));exact aNi (L.e M G RT Y J σ) (U.e M B RT Y J σ);obtain⟨⟨o,xs,pos⟩,rfl,_⟩:=aD h;exact(kw M h RT Y J σ).pt
theorem aNI(L:Q3 P n a)(U:Q3 P n b):Q3 P n (.orr a b):=by
 have kw:PWc P n (.orr a b):=λ{X Γ} M {o xs pos} h RT Y J σ=>by obtain⟨I,Z⟩:=cV h;have e:=eq_of_beq I;subst e;obtain⟨x,y,r,rfl,G,B⟩:=aBT Z;rcases B with⟨rfl,B⟩|B;exact aJd (L.t M G RT Y J σ) (aJz (U.t M B RT Y J σ));exact aJd (L.t M G RT Y J σ) (U.w M B RT Y J σ)
 refine⟨λ{X Γ} M {e} h RT Y J σ=>?_,λ{X Γ} M {e} h RT Y J σ=>?_,kw⟩;obtain⟨⟨o,xs,pos⟩,I,g⟩:=aD h;clear h;obtain rfl:=I;have h:=g;clear g;obtain⟨I,Z⟩:=cV h;have e:=eq_of_beq I;subst e;obtain⟨x,y,r,e,G,B⟩:=aBT Z;subst e;rcases B with⟨rfl,B⟩|B;exact aJb (L.e M G RT Y J σ) (aDX (U.e M B RT Y J σ));exact aJb (L.e M G RT Y J σ) (U.e M B RT Y J σ);obtain⟨⟨o,xs,pos⟩,rfl,_⟩:=aD h;exact(kw M h RT Y J σ).pt
theorem aNJ(ht:Q3 P n t)(L:Q3 P n a)(U:Q3 P n b):Q3 P n (.ife t a b):=Q3.of (λ{X Γ} M {e} h RT Y J σ=>by
 obtain⟨⟨t',Z,b'⟩,B,g⟩:=aD h;clear h;obtain⟨p,rfl⟩:=B;have h:=g;clear g;obtain⟨B,G,I⟩:=eG h;exact aNj (ht.t M B RT Y J σ) (L.e M G RT Y J σ) (U.e M I RT Y J σ)) (λ_=>rfl) rfl
theorem aNK(U:Q3 P n a)(Z:Q3 P n b):Q3 P n (.cmp o a b):=by
 have L:∀{Γ:Ct} {e:A6},aR Γ (.cmp o a b) e=true->∃l r p,e=.Compare l [o] [r] p/\aR Γ a l=true/\aR Γ b r=true:=λ{Γ e} h=>by
  obtain⟨⟨l,os,rs⟩,I,g⟩:=aD h;clear h;obtain⟨p,rfl⟩:=I;have h:=g;clear g;rcases os with _|⟨o',_|⟨_,_⟩⟩
  cases h;rcases rs with _|⟨r,_|⟨_,_⟩⟩
  cases h;obtain⟨I,G,B⟩:=eG h;have e:o=o':=eq_of_beq I;subst e;exact⟨l,r,p,rfl,G,B⟩;cases h;cases h
 refine⟨λ{X Γ} M {e} h RT Y J σ=>?_,λ{X Γ} M {e} h RT Y J σ=>?_,λ{X Γ} M {o xs pos} h RT Y J σ=>absurd h bN⟩;obtain⟨l,r,p,rfl,G,B⟩:=L h;exact aNk M (U.e M G RT Y J σ) (Z.e M B RT Y J σ) (aO B);obtain⟨l,r,p,rfl,G,B⟩:=L h;exact bZ M (U.e M G RT Y J σ) (Z.e M B RT Y J σ) (aO B)
theorem aNL(L:Q3 P n a):Q3 P n (.srt a):=Q3.of (λ{X Γ} M {e} h RT Y J σ=>by
 obtain⟨⟨x,xs⟩,G,g⟩:=aD h;clear h;obtain⟨U,Z,rfl⟩:=G;obtain⟨G,I,B⟩:=eG g;rcases xs with _|⟨y,_|⟨_,_⟩⟩
 cases B;exact aNE M (eq_of_beq G) I (L.e M B RT Y J σ) (aO B);cases B) (λ_=>rfl) rfl
theorem aKR(ha:Q3 P n a):Q3 P n (.sset a):=Q3.of (λ{X Γ} M {e} h RT Y J σ=>by
 obtain⟨⟨f,xs⟩,G,g⟩:=aD h;clear h;obtain⟨p1,p2,rfl⟩:=G;rcases xs with _|⟨s,_|⟨_,_⟩⟩
 cases g;obtain⟨⟨f2,ys⟩,⟨p3,p4,I⟩,g⟩:=aD g;subst I;obtain⟨G,L,U,Z,B⟩:=vL g;rcases ys with _|⟨x,_|⟨_,_⟩⟩
 cases B;exact aKO M (eq_of_beq G) L (eq_of_beq U) Z (ha.e M B RT Y J σ) (aO B);cases B;cases g) (λ_=>rfl) rfl
theorem aKS(ha:Q3 P n a)(hb:Q3 P n b)(hc:Q3 P n c):Q3 P n (.cmp2 o1 o2 a b c):=by
 have h0:∀{Γ:Ct} {e:A6},aR Γ (.cmp2 o1 o2 a b c) e=true->∃l m r p,e=.Compare l [o1,o2] [m,r] p/\aR Γ a l=true/\aR Γ b m=true/\aR Γ c r=true:=λ{Γ e} h=>by
  obtain⟨⟨l,os,rs⟩,L,g⟩:=aD h;clear h;obtain⟨p,rfl⟩:=L;have h:=g;clear g;rcases os with _|⟨U,_|⟨Z,_|⟨_,_⟩⟩⟩
  cases h;cases h;rcases rs with _|⟨m,_|⟨r,_|⟨_,_⟩⟩⟩
  cases h;cases h;obtain⟨L,h2,G,I,B⟩:=vL h;have e:o1=U:=eq_of_beq L;subst e;have e:o2=Z:=eq_of_beq h2;subst e;exact⟨l,m,r,p,rfl,G,I,B⟩;cases h;cases h
 refine⟨λ{X Γ} M {e} h RT Y J σ=>?_,λ{X Γ} M {e} h RT Y J σ=>?_,λ{X Γ} M {o xs pos} h RT Y J σ=>absurd h bN⟩;obtain⟨l,m,r,p,rfl,G,I,B⟩:=h0 h;exact aKq M (ha.e M G RT Y J σ) (hb.e M I RT Y J σ) (hc.e M B RT Y J σ) (aO B);obtain⟨l,m,r,p,rfl,G,I,B⟩:=h0 h;exact aKr M (ha.e M G RT Y J σ) (hb.e M I RT Y J σ) (hc.e M B RT Y J σ) (aO B)
theorem aNM(L:Q3 P n a)(U:Q3 P n b):Q3 P n (.idx a b):=by
 have k:PEc P n (.idx a b):=λ{X Γ} M {e} h RT Y J σ=>by obtain⟨⟨x,i⟩,B,g⟩:=aD h;clear h;obtain⟨p,rfl⟩:=B;have h:=g;clear g;obtain⟨B,I⟩:=cV h;exact aNl (L.e M B RT Y J σ) (U.e M I RT Y J σ) (aO I)
 refine⟨k,λ{X Γ} M {e} h RT Y J σ=>?_,λ{X Γ} M {o xs pos} h RT Y J σ=>absurd h bN⟩;refine pN (k M h RT Y J σ) ?_ λp G=>?_;obtain⟨⟨x,i⟩,⟨p,rfl⟩,_⟩:=aD h;intro _;rfl;have G:=RE.bind' (G);show RE (ev P (call P n) σ a >>= λx=>ev P (call P n) σ b >>= λy=>eA x y) _;rw[RE.bind];refine G.mono λx Z=>?_;rw[RE.bind];exact(RE.bind' Z).mono λy hy=>RE.bind' hy
theorem aNN{a:E}{lo hi:Es}(U:Q3 P n a)(hl:QA P n lo)(Z:QA P n hi):Q3 P n (.sli a lo hi):=Q3.of (λ{X Γ} M {e} h RT Y J σ=>by
 obtain⟨⟨x,i⟩,B,g⟩:=aD h;clear h;obtain⟨p,rfl⟩:=B;have h:=g;clear g;obtain⟨⟨l,u⟩,B,g⟩:=aD h;clear h;obtain⟨p2,G⟩:=B;have h:=g;clear g;subst G;obtain⟨B,I,L⟩:=eG h;exact aNv (U.e M B RT Y J σ) (hl.o M I RT Y J σ) (Z.o M L RT Y J σ)) (λ_=>rfl) rfl
theorem aNO(I:QA P n es):Q3 P n (.tup es):=Q3.of (λ{X Γ} M {e} h RT Y J σ=>by
 obtain⟨xs,B,g⟩:=aD h;clear h;obtain⟨k,p,rfl⟩:=B;have h:=g;clear g;obtain⟨B,G⟩:=cV h;exact aNm (I.a M G RT Y J σ) G (of_decide_eq_true B)) (λ_=>rfl) rfl
theorem aNP(I:QA P n es):Q3 P n (.lst es):=Q3.of (λ{X Γ} M {e} h RT Y J σ=>by
 obtain⟨xs,B,g⟩:=aD h;clear h;obtain⟨p,rfl⟩:=B;have h:=g;clear g;obtain⟨B,G⟩:=cV h;exact aNn (I.a M G RT Y J σ) G (of_decide_eq_true B)) (λ_=>rfl) rfl
theorem aNQ:Q3 P n (.fld j f):=Q3.of (λ{X Γ} M {e} h RT Y J σ=>by
 obtain⟨⟨x,g⟩,G,h⟩:=aD h;obtain⟨p,q,rfl⟩:=G;obtain⟨I,B⟩:=cV h;have B:=eq_of_beq B;subst B;exact aNo M (n_v.e M (e:=.Name x p) (I) RT Y J σ)) (λ_=>rfl) rfl
theorem aNR(ha:QA P n es):Q3 P n (.mcl j m es):=by
 have k:PEc P n (.mcl j m es):=λ{X Γ} M {e} h RT Y J σ=>by
  obtain⟨⟨o,m',xs,l⟩,I,g⟩:=aD h;clear h;obtain⟨ap,cp,G,hl⟩:=I;subst G;obtain⟨x,⟨p,e1⟩,g⟩:=aD g;subst e1;obtain⟨g,Z⟩:=cV g;obtain⟨I,L,h3,h4,h5⟩:=vL g;have L:=eq_of_beq L;subst L;rw[show l=true from h3] at hl;cases xs with
  | nil=>cases h5|cons y ys=>exact aNp M (n_v.e M (e:=.Name x p) (I) RT Y J σ) (ha.a M Z RT Y J σ) (eK Z) (of_decide_eq_true h4) hl
 refine⟨k,λ{X Γ} M {e} h RT Y J σ=>?_,λ{X Γ} M {o xs pos} h RT Y J σ=>absurd h bN⟩;refine pN (k M h RT Y J σ) ?_ λp U=>?_;obtain⟨⟨o,m',xs,l⟩,⟨ap,cp,G,_⟩,_⟩:=aD h;subst G;intro _;rfl;have U:=RE.bind' (U);show RE (cB σ j >>= λx=>evs P (call P n) σ es >>= λvs=>(match iF P m x.d with
  | some f=>call P n f (x.d::vs.map (·.d)) >>= λr=>R.ok (dC (x::vs) r)|none=>.bad)) _
 rw[RE.bind];refine U.mono λx hx=>?_;rw[RE.bind];refine(RE.bind' hx).mono λvs B=>?_;cases q:iF P m x.d with
 | none=>rw[q] at B;exact B.elim|some f=>rw[q] at B;rw[RE.bind];exact(RE.bind' B).mono λy hy=>hy
theorem aQi(Z:QA P n es):Q3 P n (.mk j es):=Q3.of (λ{X Γ} M {e} h RT Y J σ=>by
 obtain⟨⟨x,xs⟩,B,g⟩:=aD h;clear h;obtain⟨p1,p2,rfl⟩:=B;obtain⟨B,I,L,U,G⟩:=vL g;cases xs with
 | nil=>cases U|cons y ys=>exact aPZ M (eq_of_beq B) I L (Z.a M G RT Y J σ) (eK G)) (λ_=>rfl) rfl
theorem aNS(ha:Q3 P n a)(hk:Q3 P n k):Q3 P n (.in2 o a j k):=by
 have g:∀{Γ:Ct} {e:A6},aR Γ (.in2 o a j k) e=true->∃l x I p U Z,e=.Compare l [o] [.Subscript (.Name x U) I Z] p/\aR Γ a l=true/\bK Γ j x=true/\aR Γ k I=true:=λ{Γ e} h=>by
  obtain⟨⟨l,os,rs⟩,⟨p,e0⟩,g⟩:=aD h;subst e0;rcases os with _|⟨o',_|⟨_,_⟩⟩
  cases g;rcases rs with _|⟨r,_|⟨_,_⟩⟩
  cases g;obtain⟨B,L,G⟩:=eG g;obtain⟨⟨b,I⟩,⟨Z,e2⟩,g4⟩:=aD G;subst e2;obtain⟨g5,g6⟩:=cV g4;obtain⟨x,⟨U,e3⟩,g7⟩:=aD g5;subst e3;have B:o=o':=eq_of_beq B;subst B;exact⟨l,x,I,p,U,Z,rfl,L,g7,g6⟩;cases g;grind
 refine⟨λ{X Γ} M {e} h RT Y J σ=>?_,λ{X Γ} M {e} h RT Y J σ=>?_,λ{X Γ} M {o xs pos} h RT Y J σ=>absurd h bN⟩;obtain⟨l,x,I,p,U,Z,rfl,B,L,G⟩:=g h;exact aNF M L (ha.e M B RT Y J σ) (hk.e M G RT Y J σ) (aO G);obtain⟨l,x,I,p,U,Z,rfl,B,L,G⟩:=g h;exact aNG M L (ha.e M B RT Y J σ) (hk.e M G RT Y J σ) (aO G)
theorem aKT(hk:Q3 P n k)(hb:Q3 P n b):Q3 P n (.add2 j k b):=Q3.of (λ{X Γ} M {e} h RT Y J σ=>by
 obtain⟨⟨l,o,r⟩,⟨p,I⟩,g⟩:=aD h;subst I;obtain⟨B,Z,g3⟩:=eG g;have B:=eq_of_beq B;subst B;obtain⟨⟨b',ek⟩,⟨p2,L⟩,g4⟩:=aD Z;subst L;obtain⟨g5,G⟩:=cV g4;obtain⟨x,⟨p1,U⟩,g7⟩:=aD g5;subst U;exact aKP M g7 (hk.e M G RT Y J σ) (hb.e M g3 RT Y J σ) (aO G)) (λ_=>rfl) rfl
theorem aNT(ho:Q3 P n o)(hk:Q3 P n k):Q3 P n (.dgl o k):=Q3.of (λ{X Γ} M {e} h RT Y J σ=>by
 obtain⟨⟨b,m,xs,l⟩,G,g⟩:=aD h;clear h;obtain⟨ap,cp,rfl,L⟩:=G;obtain⟨G,Z,h3,h4,B⟩:=vL g;rw[show l=true from Z] at L;rcases xs with _|⟨y,_|⟨z,_|⟨_,_⟩⟩⟩
 cases B;cases B;obtain⟨I,h6⟩:=cV B;obtain⟨c,⟨p3,U⟩,h7⟩:=aD h6;cases c with
 | nil=>subst U;exact aNq M (eq_of_beq G) L h3 (ho.e M h4 RT Y J σ) (hk.e M I RT Y J σ) (aO I)|cons _ _=>cases h7
 cases B) (λ_=>rfl) rfl
theorem aKU(Z:QA P n es):Q3 P n (.call f es):=by
 have k:PEc P n (.call f es):=λ{X Γ} M {e} h RT Y J σ=>by obtain⟨⟨x,xs⟩,B,g⟩:=aD h;clear h;obtain⟨p1,p2,rfl⟩:=B;have h:=g;clear g;obtain⟨B,L,U,G⟩:=vK h;exact aKo M (eq_of_beq B) L U (Z.a M G RT Y J σ) (eK G) G
 refine⟨k,λ{X Γ} M {e} h RT Y J σ=>?_,λ{X Γ} M {o xs pos} h RT Y J σ=>absurd h bN⟩;refine pN (k M h RT Y J σ) ?_ λp I=>?_;obtain⟨⟨x,xs⟩,⟨p1,p2,rfl⟩,_⟩:=aD h;intro _;rfl;have I:=RE.bind' (I);show RE (evs P (call P n) σ es >>= λvs=>call P n f (vs.map (·.d)) >>= λr=>R.ok (dC vs r)) _;rw[RE.bind];refine I.mono λx hx=>?_;rw[RE.bind];exact(RE.bind' hx).mono λy hy=>hy
theorem aQj(ha:QA P n es):Q3 P n (.bi b es):=by
 have k:PEc P n (.bi b es):=λ{X Γ} M {e} h RT Y J σ=>by
  obtain⟨⟨x,xs⟩,B,g⟩:=aD h;clear h;obtain⟨p1,p2,rfl⟩:=B;have h:=g;clear g;obtain⟨h,I⟩:=cV h;obtain⟨B,L,U,Z,h5⟩:=vL h;cases xs with
  | nil=>cases h5|cons y ys=>exact aPY M B (eq_of_beq L) U Z (ha.a M I RT Y J σ) (eK I)
 refine⟨k,λ{X Γ} M {e} h RT Y J σ=>?_,λ{X Γ} M {o xs pos} h RT Y J σ=>absurd h bN⟩;refine pN (k M h RT Y J σ) ?_ λp G=>?_;obtain⟨⟨x,xs⟩,⟨p1,p2,rfl⟩,_⟩:=aD h;intro _;rfl;have G:=RE.bind' (G);show RE (evs P (call P n) σ es >>= λvs=>biD b vs) _;rw[RE.bind];exact G.mono λx hx=>RE.bind' hx
theorem aNU(ha:Q3 P n a):Q3 P n (.isi a cs):=by
 have k:PEc P n (.isi a cs):=λ{X Γ} M {e} h RT Y J σ=>by
  obtain⟨⟨f,xs⟩,G,g⟩:=aD h;clear h;obtain⟨p1,p2,rfl⟩:=G;have h:=g;clear g;rcases cs with _|⟨c,_|⟨c',_|⟨_,_⟩⟩⟩
  cases h;rcases xs with _|⟨x,_|⟨y,_|⟨_,_⟩⟩⟩
  cases h;cases h;obtain⟨G,U,Z,I,B⟩:=vL h;unfold sV at B;split at B;rename_i z p3;obtain⟨q1,q2,q3⟩:=eG B;have hc:∃cv,fX c=some cv:=by cases c <;> first|exact⟨_,rfl⟩|cases Z
  obtain⟨cv,hc⟩:=hc;exact aNr M (eq_of_beq G) U hc (eq_of_beq q1) q2 q3 (ha.e M I RT Y J σ) (aO I);cases B;cases h;rcases xs with _|⟨x,_|⟨y,_|⟨_,_⟩⟩⟩
  cases h;cases h;obtain⟨h,h6⟩:=cV h;obtain⟨G,U,Z,I,B⟩:=vL h;obtain⟨l,⟨ky,py,e1⟩,g⟩:=aD h6;subst e1;rcases l with _|⟨u,_|⟨v,_|⟨_,_⟩⟩⟩
  cases g;cases g;obtain⟨g1,g2⟩:=cV g;obtain⟨T,q1,q2,q3⟩:=aJc M Z g1;obtain⟨T',w1,w2,w3⟩:=aJc M I g2;exact aKp M (eq_of_beq G) U q1 w1 (ha.e M B RT Y J σ) (aO B) q3 w3 q2 w2;cases g;cases h;cases h
 refine⟨k,λ{X Γ} M {e} h RT Y J σ=>?_,λ{X Γ} M {o xs pos} h RT Y J σ=>absurd h bN⟩;refine pN (k M h RT Y J σ) ?_ λp hp=>?_;obtain⟨⟨x,xs⟩,⟨p1,p2,rfl⟩,_⟩:=aD h;intro _;rfl;have hp:=RE.bind' (hp);show RE (ev P (call P n) σ a >>= λx=>(match isI cs P x.d with|some k=>R.ok (Vl.cl (.bl k))|none=>.bad)) _;rw[RE.bind];refine hp.mono λx L=>?_;cases q:isI cs P x.d with
 | none=>rw[q] at L;exact L.elim|some k=>rw[q] at L;exact L
theorem aKV{k:Nat}{caps:List Nat}{t:T}{it:Hp.It}{cond:Es}{elt:E}(hi:QI P n it)(hc:QA P n cond)(he:Q3 P n elt):Q3 P n (.comp k caps t it cond elt):=Q3.of (λ{X Γ} M {e} h RT Y J σ=>by
 obtain⟨el,tg,L,q0,scope,pos,rfl,O,U,Z,I,h4,h5⟩:=vM h;refine aKC M (O.scope M) O.ndc O.tk (hi M I RT Y J σ) (λC s₀ H₀ ex=>?_) (iZ (gO I));have G:=O.mc M C s₀ H₀ ex;exact⟨aDs G Z,λRT Y J B=>hc.ts G U h4 RT Y J B,λRT Y J B=>he.e G h5 RT Y J B⟩) (λ_=>rfl) rfl
theorem aKW(h:∀{Γ:Ct} {e:A6},aR Γ c e=false):Q3 P n c:=
 ⟨λ{X Γ} M {e} z=>absurd (h.symm.trans z) bN,λ{X Γ} M {e} z=>absurd (h.symm.trans z) bN,λ{X Γ} M {o xs pos} z=>absurd (h.symm.trans z) bN⟩
theorem aNV:QA P n .nil:=by
 refine⟨λ{X Γ} M {es} h RT Y J σ=>?_,λ{X Γ} M {e} h RT Y J σ=>?_,λ{X Γ} M {es} B h RT Y J σ=>?_⟩;cases es with
 | nil=>exact yC|cons _ _=>exact nf h
 cases e with
 | none=>exact aNt|some _=>exact nf h
 cases es with
 | nil=>exact aKA|cons _ _=>exact nf h
theorem aKX(I:Q3 P n c)(hs:QA P n cs):QA P n (.cons c cs):=by
 refine⟨λ{X Γ} M {es} h RT Y J σ=>?_,λ{X Γ} M {e} h RT Y J σ=>?_,λ{X Γ} M {es} L h RT Y J σ=>?_⟩;cases es with
 | nil=>exact nf h|cons e es=>obtain⟨B,G⟩:=cV h;exact kJ (I.e M B RT Y J σ) (hs.a M G RT Y J σ) (aO B)
 cases cs with
 | nil=>cases e with|none=>exact nf h|some e=>exact aNu (I.e M (by exact h) RT Y J σ)
 | cons _ _=>cases e <;> exact nf h
 cases es with
 | nil=>exact nf h|cons e es=>
  obtain⟨B,G⟩:=cV h;cases es with
  | nil=>cases cs with|nil=>exact aKB (I.t M B RT Y J σ)|cons _ _=>exact absurd G bN
  | cons _ _=>simp at L
theorem aNW(B:Q3 P n c):QI P n (.seq c):=λ{X Γ} M {tg e} h RT Y J σ=>aNw (B.e M (by exact h) RT Y J σ)
theorem aNX(ha:Q3 P n a)(U:Q3 P n b):QI P n (.rng a b):=λ{X Γ} M {tg e} h RT Y J σ=>by
 rw[yS] at h;obtain⟨⟨f,xs⟩,I,g⟩:=aD h;clear h;obtain⟨p1,p2,rfl⟩:=I;have h:=g;clear g;obtain⟨I,L,B⟩:=eG h;rcases xs with _|⟨x,_|⟨y,_|⟨_,_⟩⟩⟩
 cases B;obtain⟨B,G⟩:=cV B;have Z:a=.c (.int 0):=by unfold aAs at B;split at B;rw[eq_of_beq B];cases B
 rw[Z];exact aKx M (eq_of_beq I) L (U.e M G RT Y J σ) (aO G);obtain⟨B,G⟩:=cV B;exact aKy M (eq_of_beq I) L (ha.e M B RT Y J σ) (U.e M G RT Y J σ) (aO B) (aO G);cases B
theorem aNY(Z:Q3 P n a)(hb:Q3 P n b):QI P n (.zip a b):=λ{X Γ} M {tg e} h RT Y J σ=>by
 rw[yT] at h;obtain⟨⟨f,xs⟩,G,g⟩:=aD h;clear h;obtain⟨p1,p2,rfl⟩:=G;have h:=g;clear g;rcases xs with _|⟨x,_|⟨y,_|⟨_,_⟩⟩⟩
 cases h;cases h;obtain⟨B,G,U,I,L⟩:=vL h;unfold pF at B;split at B;exact aNx M (eq_of_beq G) U (Z.e M I RT Y J σ) (hb.e M L RT Y J σ) (aO I) (aO L);cases B;cases h
theorem aKY(U:Q3 P n a):QI P n (.enum a):=λ{X Γ} M {tg e} h RT Y J σ=>by
 rw[tL] at h;obtain⟨⟨f,xs⟩,G,g⟩:=aD h;clear h;obtain⟨Z,p2,rfl⟩:=G;have h:=g;clear g;rcases xs with _|⟨x,_|⟨_,_⟩⟩
 cases h;obtain⟨B,G,L,I⟩:=vK h;unfold pF at B;split at B;exact aKz M (eq_of_beq G) L (U.e M I RT Y J σ) (aO I);cases B;cases h
mutual
theorem qE:(c:E)->Q3 P n c
 | .c _=>n_c|.v _=>n_v|.op _ a b=>aQf (qE a) (qE b)|.neg a=>aNH (qE a)|.nt a=>aQg (qE a)|.an a b=>aQh (qE a) (qE b)|.orr a b=>aNI (qE a) (qE b)|.ife t a b=>aNJ (qE t) (qE a) (qE b)|.cmp _ a b=>aNK (qE a) (qE b)|.srt a=>aNL (qE a)|.fld _ _=>aNQ|.mcl _ _ es=>aNR (qA es)|.mk _ es=>aQi (qA es)|.dgl o k=>aNT (qE o) (qE k)|.grp _=>aKW rfl|.in2 _ a _ k=>aNS (qE a) (qE k)|.add2 _ k b=>aKT (qE k) (qE b)|.sset a=>aKR (qE a)|.cmp2 _ _ a b c=>aKS (qE a) (qE b) (qE c)|.idx a b=>aNM (qE a) (qE b)|.sli a lo hi=>aNN (qE a) (qA lo) (qA hi)|.tup es=>aNO (qA es)|.lst es=>aNP (qA es)|.call _ es=>aKU (qA es)|.bi _ es=>aQj (qA es)|.isi a _=>aNU (qE a)|.comp _ _ _ it cond elt=>aKV (qI it) (qA cond) (qE elt)
theorem qA:(cs:Es)->QA P n cs
 | .nil=>aNV|.cons c cs=>aKX (qE c) (qA cs)
theorem qI:(it:Hp.It)->QI P n it
 | .seq c=>aNW (qE c)|.rng a b=>aNX (qE a) (qE b)|.zip a b=>aNY (qE a) (qE b)|.enum a=>aKY (qE a)
end
theorem sE(c:E):PEc P n c:=(qE c).e
theorem sT(c:E):PTc P n c:=(qE c).t
theorem sTs(cs:Es):∀{X:Cx} {Γ:Ct},Mc X P Γ n->∀{es:List A6},es.length<=1->chkEs Γ cs es=true->∀(RT Y J:Addr->Prop) (σ:Sg),PTs X es (wTs X P n RT Y J σ cs):=(qA cs).ts
theorem sI(it:Hp.It):QI P n it:=qI it
end
end Hp
end
noncomputable section
set_option maxHeartbeats 4000000
namespace Hp
open PySem PySem.Spec PyProof.Rows L2
noncomputable def gP(K:Fg)(RT Y J:Addr->Prop)(H:Hp)(σ':Sg)(Q:L2.St->Hp->Prop):Prop:=
 ∀(RT':Addr->Prop) (σV':L2.St) (H':Hp),Kp RT H H'->(∀b,RT' b->RT b\/H b=none)->Sx K RT' Y J σ' σV' H'->Q σV' H'
noncomputable def Rtv(K:Fg)(Y J:Addr->Prop)(H':Hp)(v:Vl)(u:V):Prop:=
 if v.fr=true then ∃a xs ds,u=.ref a/\v.d=.lst ds/\¬ J a/\H' a=some (.lst xs)/\Reps K H' (λb=>b=a\/exB Y J v.pa b) ds xs
 else Rep K H' (exB Y J v.pa) v.d u
noncomputable def aNZ(K:Fg)(RT Y J:Addr->Prop)(H:Hp)(v:Vl)(Q:VK):Prop:=∀(u:V) (H':Hp),Kp RT H H'->Tk K H'->Rtv K Y J H' v u->Q u H'
noncomputable def OE(K:Fg)(RT Y J:Addr->Prop)(H:Hp)(o:O)(D:Ends):Prop:=match o with|.next σ'=>gP K RT Y J H σ' D.nx|.brk σ'=>gP K RT Y J H σ' D.bk|.cnt σ'=>gP K RT Y J H σ' D.ct|.ret v=>aNZ K RT Y J H v D.rt|.exc _ _=>False|.bad=>False
noncomputable def wS(X:Cx)(RT Y J:Addr->Prop)(σ:Sg)(o:O):TS:=λD σV H=>Sx X.K RT Y J σ σV H/\OE X.K RT Y J H o D
section
variable {K:Fg} {RT RT' RT'' Y J:Addr->Prop} {σ:Sg} {σV:L2.St} {H H1 H2:Hp} {o:O} {D D':Ends}
theorem Kp.chain(a:Kp RT H H1)(s:∀b,RT' b->RT b\/H b=none)(b:Kp RT' H1 H2):Kp RT H H2:=λc o e n=>b c o (a c o e n) λz=>(s c z).elim n λq=>by rw[q] at e;cases e
theorem jE(a:Kp RT H H1)(s1:∀b,RT' b->RT b\/H b=none)(s2:∀b,RT'' b->RT' b\/H1 b=none):∀b,RT'' b->RT b\/H b=none:=λb z=>by
 rcases s2 b z with q|q;exact s1 b q;by_cases B:RT b;exact .inl B;refine .inr ?_;cases e:H b with
 | none=>rfl|some o=>rw[a b o e B] at q;cases q
theorem gP.mono{Q:L2.St->Hp->Prop}(a:Kp RT H H1)(s:∀b,RT' b->RT b\/H b=none)(h:gP K RT Y J H σ' Q):gP K RT' Y J H1 σ' Q:=λG B H2 k n S=>h G B H2 (a.chain s k) (jE a s n) S
theorem OE.mono(a:Kp RT H H1)(s:∀b,RT' b->RT b\/H b=none)(h:OE K RT Y J H o D):OE K RT' Y J H1 o D:=by
 cases o with
 | next σ'=>exact gP.mono a s h|brk σ'=>exact gP.mono a s h|cnt σ'=>exact gP.mono a s h|ret v=>exact λu H2 k t r=>(h) u H2 (a.chain s k) t r|exc x σ'=>exact h|bad=>exact h
theorem bX:∀b,RT b->RT b\/H b=none:=λ_ z=>.inl z
noncomputable def tkE(K:Fg)(D:Ends):Ends:=⟨λσ H=>Tk K H->D.nx σ H,λv H=>Tk K H->D.rt v H,λσ H=>Tk K H->D.bk σ H,λσ H=>Tk K H->D.ct σ H⟩
theorem OE.from{α:Type}{x:R α}{f:α->O}(h:OE K RT Y J H (O.from σ x f) D):RE x λa=>OE K RT Y J H (f a) D:=by
 cases x with
 | ok a=>exact h|exc e=>exact h|bad=>exact h
end
section
variable {X:Cx} {st:BY} {t t':TS}
theorem aJh{pins:List (Addr×Obj)}{D:Ends}{f:Flow}{B:Ad}(h:SP X pins (tkE X.K D) f B):SP X pins D f B:=by
 cases f with
 | next=>obtain⟨σ',H',I,q⟩:=h;exact⟨σ',H',I,q I.tk⟩|brk=>obtain⟨σ',H',I,q⟩:=h;exact⟨σ',H',I,q I.tk⟩|cont=>obtain⟨σ',H',I,q⟩:=h;exact⟨σ',H',I,q I.tk⟩|ret u=>obtain⟨v,σ',H',I,r,q⟩:=h;exact⟨v,σ',H',I,r,q I.tk⟩
theorem cI(h:PS X st t)(f:∀D σV H,Tk X.K H->t' D σV H->t (tkE X.K D) σV H):PS X st t':=λpins s σV H D I B=>thn (h pins s σV H _ I (f D σV H I.tk B)) λG L q=>aJh q
theorem gQ(h:PSs X sts t)(f:∀D σV H,Tk X.K H->t' D σV H->t (tkE X.K D) σV H):PSs X sts t':=λpins s σV H D I B=>thn (h pins s σV H _ I (f D σV H I.tk B)) λG L q=>aJh q
theorem aBU{Y J:Addr->Prop}{f:Sg->O}(h:∀RT σ,PSs X sts (wS X RT Y J σ (f σ))):PSs X sts (λD σV H=>∃RT σ,wS X RT Y J σ (f σ) D σV H):=λpins s σV H D I ⟨RT,σ,B⟩=>h RT σ pins s σV H D I B
end
section
variable {X:Cx} {P:Pg} {Γ:Ct} {n:Nat} {RT Y J:Addr->Prop} {σ:Sg} {pos:Du}
theorem gP.tkE{Q:L2.St->Hp->Prop}(h:gP X.K RT Y J H σ' Q):gP X.K RT Y J H σ' λσ H=>Tk X.K H->Q σ H:=λG B H' k n S _=>h G B H' k n S
theorem OE.tkE{o:O}{D:Ends}{H:Hp}(h:OE X.K RT Y J H o D):OE X.K RT Y J H o (tkE X.K D):=by
 cases o with
 | next σ'=>exact gP.tkE h|brk σ'=>exact gP.tkE h|cnt σ'=>exact gP.tkE h|ret v=>exact λu B k t r _=>(h) u B k t r|exc x σ'=>exact h|bad=>exact h
theorem aOa:PSs X [] (wS X RT Y J σ (exs P (call P n) σ .nil)):=gQ aBn λD σV H t ⟨S,h⟩ _=>(h) RT σV H (Kp.refl RT H) bX S
theorem aKZ(L:∀RT σ,PS X x (wS X RT Y J σ (ex P (call P n) σ s)))(M:∀RT σ,PSs X xs (wS X RT Y J σ (exs P (call P n) σ ss))) :
 PSs X (x::xs) (wS X RT Y J σ (exs P (call P n) σ (.cons s ss))):=by
 refine gQ (lD (L RT σ) (aBU M)) λD σV H t ⟨S,h⟩=>?_;have h:OE X.K RT Y J H ((ex P (call P n) σ s).on λσ'=>exs P (call P n) σ' ss) D:=h;refine⟨S,?_⟩;cases q:ex P (call P n) σ s with
 | next σ'=>rw[q] at h;exact λB G H' k U I=>⟨B,σ',I,(OE.mono k U (h)).tkE⟩
 | brk σ'=>rw[q] at h;exact OE.tkE h|cnt σ'=>rw[q] at h;exact OE.tkE h|ret v=>rw[q] at h;exact OE.tkE h|exc e σ'=>rw[q] at h;exact h|bad=>rw[q] at h;exact h
theorem aLa:PS X (.Pass pos) (wS X RT Y J σ (ex P (call P n) σ .pass)):=cI aGW λD σV H t ⟨S,h⟩ _=>(h) RT σV H (Kp.refl RT H) bX S
theorem aOb:PS X (.Break pos) (wS X RT Y J σ (ex P (call P n) σ .brk)):=cI aDZ λD σV H t ⟨S,h⟩ _=>(h) RT σV H (Kp.refl RT H) bX S
theorem aOc:PS X (.Continue pos) (wS X RT Y J σ (ex P (call P n) σ .cnt)):=cI wZ λD σV H t ⟨S,h⟩ _=>(h) RT σV H (Kp.refl RT H) bX S
theorem aOd{st:BY}{c:Nat}{k:Bool}{es:Es}:PS X st (wS X RT Y J σ (ex P (call P n) σ (.rse c k es))):=cI aEb λD σV H t ⟨S,h⟩=>by obtain⟨vs,_,q⟩:=(OE.from h).eq;exact q
theorem aBV(h:exB Y J pa b):exV RT Y J σ σV pa al b:=.inr h
theorem Ro.rtv(S:Sx X.K RT Y J σ σV H)(G:Ro X.K RT Y J σ σV H H' v u):Rtv X.K Y J H' v u:=by unfold Rtv;by_cases B:v.fr=true;rw[if_pos B];obtain⟨s,h⟩:=G;rw[if_pos B] at h;obtain⟨a,xs,ds,I,L,M,U,r⟩:=h;exact⟨a,xs,ds,I,L,λz=>S.trk a (.inr (.inr z)) M,U,r.weak λb z=>z.elim .inl λz=>.inr (aBV z)⟩;rw[if_neg B];exact Rep.weak (G.rv S) λb z=>aBV z
theorem aOe(G:PE X e (WE X P n RT Y J σ c)):PS X (.Return (some e) pos) (wS X RT Y J σ (ex P (call P n) σ (.ret c))):=by exact cI (zV G) λD σV H t ⟨S,h⟩=>(wE.one S (OE.from (h)) λx u H1 I L M B _=>(I) u H1 (Kp.same B.1) L (B.rtv S))
theorem aLb:PS X (.Return none pos) (wS X RT Y J σ (ex P (call P n) σ .retN)):=cI aGX λD σV H t ⟨S,h⟩ _=>(h) .non H (Kp.refl RT H) t rfl
theorem aLc(M:Mc X P Γ n)(hx:bK Γ i x=true):PS X (.Return (some (.Name x p)) pos) (wS X RT Y J σ (ex P (call P n) σ (.retv i))):=by
 have q0:PE X (.Name x p) (aCO i):=by unfold bK at hx;obtain⟨I,B,G⟩:=eG hx;exact uL (by rw[M.N];exact eq_of_beq I) (M.vis B) (aY G) (iY G)
 refine cI (zV q0) λD σV H t ⟨S,h⟩=>?_;have h:OE X.K RT Y J H (match σ[i]? with|some (.own pa ds)=>.ret ⟨.lst ds,true,pa,[]⟩|some (.own2 dss)=>.ret ⟨.lst (dss.map .lst),true,false,[]⟩|_=>O.from σ (cB σ i) .ret) D:=h;unfold cB at h;cases e:σ[i]? with
 | none=>rw[e] at h;exact h.elim|some sl=>
  rw[e] at h;cases sl with
  | dead=>exact h.elim|dct _=>exact h.elim|own2 dss=>obtain⟨a,bs,I,B,G,L,U⟩:=S.dx.at2 i dss e;refine⟨.ref a,I,λ_=>(h) _ H (Kp.refl RT H) t ?_⟩;unfold Rtv;rw[if_pos rfl];rw[Az] at L;refine⟨a,bs.map V.ref,dss.map .lst,rfl,rfl,(G a Am).2.1,B,U.reps λb Z z=>?_⟩;rcases z with z|z|z;exact L.1 (by rw[<-z];exact Z);exact(G b (Ag _ Z)).2.1 (S.yo b z);exact(G b (Ag _ Z)).2.1 z.2
  | own pa ds=>obtain⟨a,xs,I,B,G,L,U⟩:=S.own i pa ds e;refine⟨.ref a,I,λ_=>(h) _ H (Kp.refl RT H) t ?_⟩;unfold Rtv;rw[if_pos rfl];exact⟨a,xs,ds,rfl,rfl,L,B,U.weak λb z=>z.elim (λz=>.inl (by rw[z];exact G)) .inr⟩|sh pa d=>
   obtain⟨v,I,B⟩:=S.sh i pa d e;refine⟨v,I,λ_=>(h) v H (Kp.refl RT H) t ?_⟩;unfold Rtv;rw[if_neg bN];cases hn:noL d with
   | true=>exact Rep.free d v hn B|false=>refine B.weak λb z=>.inr ?_;rw[EA,Dy] at z;exact z
theorem aQk(G:PE X e (WE X P n RT Y J σ c))(hs:pI e=false):PS X (.Expr e pos) (wS X RT Y J σ (ex P (call P n) σ (.ex c))):=by exact cI (lE G (by cases e <;> first|rfl|cases hs)) λD σV H t ⟨S,h⟩=>(wE.one S (OE.from (h)) λx u H1 I M B L _=>(I) RT σV H1 (Kp.same L.1) bX B)
theorem aQl(M:PT X e (WT X P n RT Y J σ c))(I:∀RT σ,PSs X xa (wS X RT Y J σ (exs P (call P n) σ a)))(L:∀RT σ,PSs X xb (wS X RT Y J σ (exs P (call P n) σ b))) :
 PS X (.If e xa xb pos) (wS X RT Y J σ (ex P (call P n) σ (.iff c a b))):=by
 refine cI (aMw M (I RT σ) (L RT σ)) λD σV H t ⟨S,h⟩=>?_;refine⟨S,(OE.from (h)).mono λk B H1 G s1=>?_⟩;cases k with
 | true=>rw[if_pos rfl] at B ⊢;exact⟨S.grow s1 G,(OE.mono (Kp.same s1) bX B).tkE⟩|false=>rw[if_neg bN] at B ⊢;exact⟨S.grow s1 G,(OE.mono (Kp.same s1) bX B).tkE⟩
theorem vN{v:Vl}{D:Ends}(S:Sx X.K RT Y J σ σV H)(Z:Tk X.K H1)(B:Ro X.K RT Y J σ σV H H1 v u)(h:OE X.K RT Y J H (O.from σ (bP (freeze σ v.al) v t) .next) D):gT X.K t u σV H1 D.nx:=by
 obtain⟨q1,e,M⟩:=(OE.from h).eq;clear h;cases t with
 | n i=>obtain⟨L,S',I⟩:=S.store B Z i;rw[pW e] at M;exact M L _ H1 (Kp.same B.1) I S'|t is=>
  obtain⟨ds,hd,hl,e'⟩:=pV e;have G:v.fr=false\/v.fr=true:=by grind
  rcases G with G|G;exact aFc ((S.grow B.1 Z).frz v.al) G (B.rv S) e λq0 S2 _=>M _ _ _ (Kp.same B.1) (λb z=>.inl z.1) S2;have:=B.2;rw[if_pos G] at this;obtain⟨a,xs,ds',_,U,_⟩:=this;rw[hd] at U;cases U
theorem aLd(M:Mc X P Γ n)(G:bR Γ i x=true)(L:PE X e (WE X P n RT Y J σ c))(hs:pI e=false):PS X (.Assign [.Name x p] e pos) (wS X RT Y J σ (ex P (call P n) σ (.set (.n i) c))):=by unfold bR at G;obtain⟨I,B,h3⟩:=eG G;exact cI (oX (i:=i) M.nd (by rw[M.N];exact eq_of_beq I) (M.loc B) L (by cases e <;> first|rfl|cases hs) (M.st x B)) λD σV H t ⟨S,h⟩=>(wE.one S (OE.from (h)) λv u H1 U t1 S1 Z=>vN S t1 Z (OE.tkE U))
theorem aLe(M:Mc X P Γ n)(I:pG Γ (.t is) (.Tuple es k p)=true)(B:PE X e (WE X P n RT Y J σ c))(hs:pJ e=false):PS X (.Assign [.Tuple es k p] e pos) (wS X RT Y J σ (ex P (call P n) σ (.set (.t is) c))):=by exact cI (zW B (aDs M I) (by cases e <;> rfl) (by cases e <;> first|rfl|cases hs)) λD σV H t ⟨S,h⟩=>(wE.one S (OE.from (h)) λv u H1 G U Z L=>vN S U L (OE.tkE G))
theorem aDA{i:Nat}{x:Str}{p L:Du}(M:Mc X P Γ n)(hx:bR Γ i x=true){k:Nat}{caps:List Nat}{t:T}{it:Hp.It}{cond:Es}{elt:E}{e tg G:A6}{U:List A6}{scope:De}{N':List Str}(CS:cS X scope k caps N')(q1:caps.Nodup)(hk:∀i∈tIx t,i<k)
 (hi:PI X tg G (wI X P n RT Y J σ it))
 (q0:∀C s₀ H₀ ex,PG (dB X scope N' C s₀ H₀ ex) tg (gT X.K t)/\(∀RT Y J B,PTs (dB X scope N' C s₀ H₀ ex) U (wTs X P n RT Y J B cond))/\∀RT Y J B,PE (dB X scope N' C s₀ H₀ ex) e (WE X P n RT Y J B elt))
 (hs:∀x,BJ G X.env x=pure x):PS X (.Assign [.Name x p] (.ListComp e [⟨tg,G,U,0⟩] scope L) pos) (wS X RT Y J σ (ex P (call P n) σ (.set (.n i) (.comp k caps t it cond elt)))):=by
 unfold bR at hx;obtain⟨h1,Z,h3⟩:=eG hx;refine cI (pM (g:=gT X.K t) (tt:=λσV H Q=>∃RT Y J B,wTs X P n RT Y J B cond σV H Q) (te:=λσV H Q=>∃RT Y J B,WE X P n RT Y J B elt σV H Q) CS M.calm hi (λC s₀ H₀ ex=>?_) hs M.nd (by rw[M.N];exact eq_of_beq h1) (M.loc Z) (M.st x Z)) λD σV H t0 ⟨S,h⟩=>?_;obtain⟨h1,Z,h3⟩:=q0 C s₀ H₀ ex;exact⟨h1,λpins s σV H Q I ⟨RT,Y,J,B,hw⟩=>Z RT Y J B pins s σV H Q I hw,λpins s σV H Q I ⟨RT,Y,J,B,hw⟩=>h3 RT Y J B pins s σV H Q I hw⟩;have h:=OE.from (h)
 exact aFe q1 hk ⟨S,h.mono λv hv u H1 t1 r1=>vN S t1 r1 hv⟩
theorem Sx.mut{K:Fg}{σV:L2.St}{H:Hp}(S:Sx K RT Y J σ σV H){i:Nat}{pa pa':Bool}{ds ds':List D}{a:Addr}{I:List V}(e:σ[i]? = some (.own pa ds))(Z:σV[i]? = some (some (.ref a)))(r:Reps K H (λb=>RT b\/exB Y J pa' b) ds' I) :
 Sx K RT Y J (σ.set i (.own pa' ds')) σV (upd H a (.lst I)):=by
 obtain⟨a',xs,h1,h2,h3,h4,h5⟩:=S.own i pa ds e;rw[Z] at h1;cases h1;have ks:∀{ex:Addr->Prop},∀b o,H b=some o->((∃M,o=.lst M)\/Ox o->¬ (RT b\/ex b))->upd H a (.lst I) b=some o:=λ{ex} b o q hl=>by rw[aJ λz=>by grind];exact q
 exact {
  sh:=λj G d q=>by
   rcases set_some q with⟨_,z,_⟩|⟨_,q⟩
   cases z;obtain⟨v,U,g2⟩:=S.sh j G d q;exact⟨v,U,g2.keep ks⟩
  own:=λj G B q=>by
   rcases set_some q with⟨rfl,z,_⟩|⟨q0,q⟩
   cases z;exact⟨a,I,Z,aP,h3,h4,r.keep ks⟩;obtain⟨b,M,U,g2,g3,g4,g5⟩:=S.own j G B q;have L:b≠a:=λz=>by subst z;exact q0 (S.inj i j pa G ds B b e q Z U)
   exact⟨b,M,U,by rw[aJ L];exact g2,g3,g4,g5.keep ks⟩
  trk:=λb z q=>by by_cases L:b=a;rw[L,aP] at q;cases q;rw[aJ L] at q;exact S.trk b z q
  yo:=S.yo
  tk:=λb z=>by by_cases L:b=a;rw[L];exact S.tk a (by rw[h2];simp);rw[aJ L] at z;exact S.tk b z
  rt:=λb z=>by by_cases L:b=a;rw[L];exact .inl ⟨I,aP⟩;unfold RtO;rw[aJ L];exact S.rt b z
  inj:=λj j' G q4 B q3 b q1 q2=>by
   have get:∀{j:Nat} {G:Bool} {B:List D},(σ.set i (.own pa' ds'))[j]? = some (.own G B)->∃p2 d2,σ[j]? = some (.own p2 d2):=λ{j G B} q=>by
    rcases set_some q with⟨rfl,_,_⟩|⟨_,q⟩
    exact⟨pa,ds,e⟩;exact⟨G,B,q⟩
   obtain⟨_,_,z1⟩:=get q1;obtain⟨_,_,z2⟩:=get q2;exact S.inj j j' _ _ _ _ b z1 z2
  len:=by rw[A1];exact S.len
  dx:=S.dx.imp id (λj B q=>by
   rcases set_some q with⟨_,z,_⟩|⟨_,q⟩
   cases z;exact⟨q,rfl⟩) (λ_ _ _ _ _ _ e=>e) (λb M q z _=>⟨by rw[aJ λw=>by rw[w,h2] at q;cases q];exact q,z⟩) (λb ks z=>Kp.seqT (λb o q n=>by rw[aJ n];exact q) (λb z=>.inl ⟨xs,by rw[z];exact h2⟩) z) (λj B q=>by
   rcases set_some q with⟨_,z,_⟩|⟨_,q⟩
   cases z;exact⟨q,rfl⟩) (λ_ _ _ _ _ _ e=>e) λp M q z=>⟨by rw[aJ λw=>z.2.2 i pa ds e (by rw[w];exact Z)];exact q,z.1,z.2.1,λk G B w=>by
   rcases set_some w with⟨rfl,_,_⟩|⟨_,w⟩
   exact z.2.2 i pa ds e;exact z.2.2 k G B w⟩ }
theorem Kp.upd(s:aL H H1)(h:RT a):Kp RT H (upd H1 a (.lst xs)):=λb o e B=>by rw[aJ λz=>B (by rw[z];exact h)];exact s b o e
theorem aFw(h:nQ σ i=some (pa,ds)):σ[i]? = some (.own pa ds):=by unfold nQ at h;split at h;rename_i q;cases h;exact q;cases h
theorem aAL{v:Vl}{f:List D->Option (List D)}{D:Ends}(h:OE X.K RT Y J H (put σ i v f) D):∃pa ds ds',σ[i]? = some (.own pa ds)/\i∉v.al/\f ds=some ds'/\ds'.length<=lim/\gP X.K RT Y J H ((freeze σ v.al).set i (.own (pa||v.pa) ds')) D.nx:=by unfold put at h;split at h;rename_i pa ds q;have q:=eE (aFw q);split at h;rename_i ds' G;split at h;rename_i B;exact⟨pa,ds,ds',q.1,q.2,G,B,h⟩;exact h.elim;exact h.elim;exact h.elim
theorem vO(h:exB Y J (pa||pb) b):exB Y J pa b:=h.imp_right λz=>⟨by grind,z.2⟩
theorem aBW(h:exB Y J (pa||pb) b):exB Y J pb b:=h.imp_right λz=>⟨by grind,z.2⟩
theorem aBX(h:xV Γ i m c=some xs):∃x p B G,c=.Call (.Attribute (.Name x p) m B) xs [] G/\bK Γ i x=true/\(B.endLine==G.line)=true:=by unfold xV at h;split at h;rename_i x p a B U G;split at h;rename_i q;obtain⟨I,L,M⟩:=eG q;cases h;have e:a=m:=eq_of_beq I;subst e;exact⟨x,p,B,G,rfl,L,M⟩;cases h;cases h
theorem dI(M:Mc X P Γ n)(G:bK Γ i x=true):PE X (.Name x p) (aCO i):=by unfold bK at G;obtain⟨I,L,B⟩:=eG G;exact uL (by rw[M.N];exact eq_of_beq I) (M.vis L) (aY B) (iY B)
theorem aAM:lim<sizeLine:=by rw[AY];decide
theorem qH{i:Nat}{al:List Nat}{pa:Bool}{ds:List D}{σV:L2.St}{H H1:Hp}{b:Addr}{xs:List V}(S:Sx X.K RT Y J σ σV H)(s1:aL H H1)(U:σ[i]? = some (.own pa ds))(L:σV[i]? = some (some (.ref b)))(M:H b=some (.lst xs)) :
 Reps X.K H1 (λc=>rtF RT σ σV al c\/exB Y J pa c) ds xs:=by obtain⟨b',Z,B,G,g3,g4,I⟩:=S.own i pa ds U;rw[L] at B;cases B;rw[M] at G;cases G;exact(I.grow s1).weak λc z=>z.elim (λz=>.inl z.1) .inr
theorem qJ{i:Nat}{v:Vl}{pa:Bool}{ds ds':List D}{σV:L2.St}{H H1:Hp}{b:Addr}{G:List V}{Q:L2.St->Hp->Prop}(S:Sx X.K RT Y J σ σV H)(s1:aL H H1)(t1:Tk X.K H1)(M:σ[i]? = some (.own pa ds))(q2:i∉v.al)(L:σV[i]? = some (some (.ref b)))
 (r:Reps X.K H1 (λc=>rtF RT σ σV v.al c\/exB Y J (pa||v.pa) c) ds' G) (B:gP X.K RT Y J H ((freeze σ v.al).set i (.own (pa||v.pa) ds')) Q):Q σV (upd H1 b (.lst G)):=by
 obtain⟨b',xs,I,g2,Z,g4,g5⟩:=S.own i pa ds M;rw[L] at I;cases I;have U:(freeze σ v.al)[i]? = some (.own pa ds):=by rw[eD,M];simp[q2]
 exact B _ σV _ (Kp.upd s1 Z) (λc z=>.inl z.1) (((S.grow s1 t1).frz v.al).mut U L r)
theorem aFx{v:Vl}(h:Rv X.K RT Y J σ σV H1 v u):Rep X.K H1 (λc=>rtF RT σ σV v.al c\/exB Y J (pa||v.pa) c) v.d u:=Rep.weak h λc z=>z.imp id aBW
theorem aOf{i:Nat}{c:E}{e a:A6}(M:Mc X P Γ n)(hc:xV Γ i "append" e=some [a])(ha:PE X a (WE X P n RT Y J σ c))(U:aQ a=true):PS X (.Expr e pos) (wS X RT Y J σ (ex P (call P n) σ (.app i c))):=by
 obtain⟨x,p,ap,cp,rfl,hx,hl⟩:=aBX hc;refine cI (lE (aBv CH EX EY sQ (dI M hx) (cZ ha eP (aC U)) rfl (by rw[aC U];rfl) hl (aC U) rfl)) λD σV H t ⟨S,h⟩=>?_;have h:=OE.from (h)
 obtain⟨v,ee,h⟩:=h.eq;obtain⟨pa,ds,ds',Z,q2,q3,q4,B⟩:=aAL h;cases q3;obtain⟨b,xs,I,L,h3,h4,h5⟩:=S.own i pa ds Z;refine⟨.ref b,I,.inl ⟨rfl,xs,SqL.of L⟩,S,?_⟩;rw[ee];intro u H1 t1 G;have q0:=h5.length;refine⟨b,xs,u,rfl,rfl,G.1 _ _ L,?_,λ_=>?_⟩;rw[lA,Cv] at q4;have:=aAM;omega;exact qJ S G.1 t1 Z q2 I (((qH S G.1 Z I L).weak λc z=>z.imp id vO).append (.cons (aFx (G.rv S)) .nil)) B
theorem aOg{i:Nat}{c:E}{e a:A6}(M:Mc X P Γ n)(hc:xV Γ i "extend" e=some [a])(ha:PE X a (WE X P n RT Y J σ c))(hp:aQ a=true):PS X (.Expr e pos) (wS X RT Y J σ (ex P (call P n) σ (.ext i c))):=by
 obtain⟨x,p,ap,cp,rfl,hx,hl⟩:=aBX hc;refine cI (lE (aBv CH PySem.F.slot_list_extend PySem.F.type_list_extend aCY (dI M hx) (cZ ha eP (aC hp)) rfl (by rw[aC hp];rfl) hl (aC hp) rfl)) λD σV H t ⟨S,h⟩=>?_;have h:=OE.from (h)
 obtain⟨v,ee,h⟩:=h.eq;unfold aBB at h;cases U:v.fr with
 | false=>rw[U] at h;exact h.elim|true=>
  rw[U] at h;cases hd:v.d with
  | lst es=>rw[hd] at h;obtain⟨pa,ds,ds',q1,q2,q3,q4,B⟩:=aAL h;cases q3;obtain⟨b,xs,I,L,h3,h4,h5⟩:=S.own i pa ds q1;refine⟨.ref b,I,.inl ⟨rfl,xs,SqL.of L⟩,S,?_⟩;rw[ee];intro u H1 t1 G;have hr:=G.2;rw[if_pos U] at hr;obtain⟨a',ys,q5,e1,e2,e3,e4,r⟩:=hr;rw[hd] at e2;cases e2;subst e1;have q0:=h5.length;have Z:=r.length;refine⟨b,a',xs,ys,rfl,rfl,G.1 _ _ L,e4,?_,λ_=>?_⟩;rw[lA] at q4;have:=aAM;omega;exact qJ S G.1 t1 q1 q2 I (((qH S G.1 q1 I L).weak λc z=>z.imp id vO).append ((eW (r.weak λb z=>.inr z)).weak λc z=>z.imp id aBW)) B|_=>rw[hd] at h;exact h.elim
theorem aHV{i:Nat}{ck c:E}{x:Str}{p p2:Du}{ix v:A6}(M:Mc X P Γ n)(hx:bK Γ i x=true)(hk:PE X ix (WE X P n RT Y J σ ck))(he:PE X v (WE X P n RT Y J σ c))(q0:aQ ix=true):PS X (.Assign [.Subscript (.Name x p) ix p2] v pos) (wS X RT Y J σ (ex P (call P n) σ (.setIx i ck c))):=by
 refine cI (zW he (aEd (dI M hx) hk xL (by intro _;cases ix <;> first|rfl|cases q0)) (by cases v <;> rfl) (by cases v <;> rfl)) λD σV H t ⟨S,h⟩=>?_;refine wE.one S (OE.from (h)) λv u H1 G t1 S1 U=>?_;obtain⟨kv,ek,G⟩:=(OE.from G).eq;cases hd:kv.d with
 | int k=>
  rw[hd] at G;obtain⟨pa,ds,ds',q1,q2,L,q4,B⟩:=aAL G;obtain⟨b,xs,Z,h2,h3,h4,h5⟩:=S.own i pa ds q1;cases hj:ixN ds.length k with
  | none=>rw[hj] at L;cases L|some j=>rw[hj] at L;cases L;refine⟨.ref b,Z,S1,?_⟩;rw[ek];intro uk H2 t2 I;refine⟨b,xs,k,j,rfl,(I.rv S1).int hd,I.1 _ _ (U.1 _ _ h2),by rw[<-h5.length,<-mW];exact hj,λ_=>?_⟩;refine qJ S (U.1.trans I.1) t2 q1 q2 Z (((qH S (U.1.trans I.1) q1 Z h2).weak λc z=>z.imp id vO).set j (aFx ((U.rv S).grow I.1))) B
 | _=>rw[hd] at G;exact G.elim
theorem Sx.move{K:Fg}{σV:L2.St}{H:Hp}(S:Sx K RT Y J σ σV H){i j:Nat}{pa:Bool}{ds:List D}{a:Addr}(e:σ[j]? = some (.own pa ds))(q3:i≠j)(ha:σV[j]? = some (some (.ref a))):Sx K RT Y J ((σ.set j .dead).set i (.own pa ds)) (σV.set i (some (.ref a))) H where
 sh:=λk I d q=>by
  rcases set_some q with⟨_,z,_⟩|⟨B,q⟩
  cases z;rcases set_some q with⟨_,z,_⟩|⟨M,q⟩
  cases z;obtain⟨v,U,Z⟩:=S.sh k I d q;exact⟨v,by rw[Af B];exact U,Z⟩
 own:=λk I G q=>by
  rcases set_some q with⟨rfl,z,L⟩|⟨B,q⟩
  cases z;obtain⟨b,xs,U,Z,g3⟩:=S.own j pa ds e;rw[ha] at U;cases U;rw[A1] at L;exact⟨a,xs,Ay (by rw[<-S.len];exact L),Z,g3⟩;rcases set_some q with⟨_,z,_⟩|⟨M,q⟩
  cases z;obtain⟨b,xs,U,Z⟩:=S.own k I G q;exact⟨b,xs,by rw[Af B];exact U,Z⟩
 trk:=S.trk
 yo:=S.yo
 tk:=S.tk
 rt:=S.rt
 inj:=λk k' I q4 G q0 b q1 q2 v1 v2=>by
  have get:∀{k:Nat} {I:Bool} {G:List D},((σ.set j .dead).set i (.own pa ds))[k]? = some (.own I G)->(σV.set i (some (.ref a)))[k]? = some (some (.ref b))->(k=i/\b=a)\/(k≠i/\k≠j/\σ[k]? = some (.own I G)/\σV[k]? = some (some (.ref b))):=λ{k I G} q v=>by
   rcases set_some q with⟨rfl,z,L⟩|⟨B,q⟩
   rw[A1] at L;rw[Ay (by rw[<-S.len];exact L)] at v;cases v;exact .inl ⟨rfl,rfl⟩;rcases set_some q with⟨_,z,_⟩|⟨M,q⟩
   cases z;rw[Af B] at v;exact .inr ⟨Dj B,Dj M,q,v⟩
  rcases get q1 v1 with⟨e1,b1⟩|⟨B,m1,o1,w1⟩
  rcases get q2 v2 with⟨e2,_⟩|⟨M,m2,o2,w2⟩
  rw[e1,e2];subst b1;exact absurd (S.inj k' j _ _ _ _ b o2 e w2 ha) m2;rcases get q2 v2 with⟨e2,b2⟩|⟨M,m2,o2,w2⟩
  subst b2;exact absurd (S.inj k j _ _ _ _ b o1 e w1 ha) m1;exact S.inj k k' _ _ _ _ b o1 o2 w1 w2
 len:=by rw[A1,A1,A1];exact S.len
 dx:=S.dx.imp id (λk G q=>by
  rcases set_some q with⟨_,z,_⟩|⟨B,q⟩
  cases z;rcases set_some q with⟨_,z,_⟩|⟨M,q⟩
  cases z;exact⟨q,Af B⟩) (λ_ _ _ _ _ _ e=>e) (λ_ _ e z _=>⟨e,z⟩) (λ_ _ r=>r) (λk G q=>by
  rcases set_some q with⟨_,z,_⟩|⟨B,q⟩
  cases z;rcases set_some q with⟨_,z,_⟩|⟨M,q⟩
  cases z;exact⟨q,Af B⟩) (λ_ _ _ _ _ _ e=>e) λp xs q z=>⟨q,z.1,z.2.1,λk I G q w=>by
  rcases set_some q with⟨rfl,_,L⟩|⟨B,q⟩
  rw[A1] at L;rw[Ay (by rw[<-S.len];exact L)] at w;cases w;exact z.2.2 j pa ds e ha;rcases set_some q with⟨_,v,_⟩|⟨M,q⟩
  cases v;rw[Af B] at w;exact z.2.2 k I G q w⟩
theorem aOh(M:Mc X P Γ n)(U:bR Γ i x=true)(hy:bK Γ j y=true):PS X (.Assign [.Name x p] (.Name y p2) pos) (wS X RT Y J σ (ex P (call P n) σ (.mov i j))):=by
 unfold bR at U;obtain⟨Z,L,h3⟩:=eG U;refine cI (oX (i:=i) M.nd (by rw[M.N];exact eq_of_beq Z) (M.loc L) (dI M hy) rfl (M.st x L)) λD σV H t ⟨S,h⟩=>?_;have h:OE X.K RT Y J H (match σ[j]? with
  | some (.own pa ds)=>if i=j then .bad else .next ((σ.set j .dead).set i (.own pa ds))|some (.sh pa d)=>.next (σ.set i (.sh (pa&&!noL d) d))|_=>.bad) D:=h
 cases e:σ[j]? with
 | none=>rw[e] at h;exact h.elim|some sl=>
  rw[e] at h;cases sl with
  | dead=>exact h.elim|dct _=>exact h.elim|own2 _=>exact h.elim|own pa ds=>by_cases B:i=j;have h:OE X.K RT Y J H (if i=j then .bad else .next ((σ.set j .dead).set i (.own pa ds))) D:=h;rw[if_pos B] at h;exact h.elim;have h:OE X.K RT Y J H (if i=j then .bad else .next ((σ.set j .dead).set i (.own pa ds))) D:=h;rw[if_neg B] at h;obtain⟨a,xs,G,I⟩:=S.own j pa ds e;exact⟨.ref a,G,λ_=>(h) RT _ H (Kp.refl RT H) bX (S.move e B G)⟩|sh pa d=>
   obtain⟨v,G,I⟩:=S.sh j pa d e;refine⟨v,G,λ_=>(h) RT _ H (Kp.refl RT H) bX (S.setSh ?_)⟩;cases hn:noL d with
   | true=>exact Rep.free d v hn I|false=>rw[EA,Dy];exact I
theorem aOi(M:Mc X P Γ n)(hx:pG Γ t tg=true)(hi:PI X tg iter (wI X P n RT Y J σ it))(hb:∀RT σ,PSs X body (wS X RT Y J σ (exs P (call P n) σ b)))(hs:∀x,BJ iter X.env x=pure x) :
 PS X (.For tg iter body [] pos) (wS X RT Y J σ (ex P (call P n) σ (.for t it b))):=by
 refine cI (aEe (by rw[M.xe];exact Iy) M.calm hi (aDs M hx) (aBU hb) hs) λD0 σV H t0 ⟨S,h⟩=>?_;have h:=OE.tkE h;revert h;generalize tkE X.K D0=D;intro h
 let f:Sg->Vl->O:=λσ x=>O.from σ (bP σ x t) λσ'=>exs P (call P n) σ' b
 refine⟨S,(OE.from (h)).mono λxs hx J'' H1 t1 s1 ok=>?_⟩;refine⟨λi m q4 Hc=>m=xs.1.length-i/\i<=xs.1.length/\∃G B,Kp (rtF RT σ σV xs.2) H1 Hc/\(∀b,G b->rtF RT σ σV xs.2 b\/H1 b=none)/\Sx X.K G Y J B q4 Hc/\OE X.K G Y J Hc (dO f (xs.1.drop i) B) D,
  ⟨_,rfl,A9 _,rtF RT σ σV xs.2,freeze σ xs.2,Kp.refl _ _,bX,((S.grow s1 t1).frz xs.2),OE.mono (Kp.same s1) (λb z=>.inl z.1) hx⟩,?_⟩
 rintro i m q4 Hc ⟨hm,hi,G,B,kp,q3,Sc,I⟩;have okc:=ok.ok (rtF RT σ σV xs.2) (λ_ z=>z) i Hc kp;by_cases q1:i<xs.1.length;refine .inr ⟨okc.1 q1,λσ' H'=>xs.1.length-(i+1)=xs.1.length-(i+1)/\i+1<=xs.1.length/\∃G B,Kp (rtF RT σ σV xs.2) H1 H'/\(∀b,G b->rtF RT σ σV xs.2 b\/H1 b=none)/\Sx X.K G Y J B σ' H'/\OE X.K G Y J H' (dO f (xs.1.drop (i+1)) B) D,
  λσ' H' hN=>⟨_,by omega,hN⟩,λx H' hy=>?_⟩
 obtain⟨sm,q7,rv⟩:=okc.2.2 x H' hy xs.1[i] (Ac q1);rw[EE q1] at I;have rep:Rep X.K H' (λa=>G a\/exB Y J xs.1[i].pa a) xs.1[i].d x:=rv.weak λa z=>by rcases z with z|z;rcases q3 a z with q|q;exact .inl (.inl ⟨q.1,λw=>q.2 (w.mono (ok.sub _ (AM q1)))⟩);exact .inr ⟨q,Sc.tk a (Sc.trk a (.inl z))⟩;exact .inl (.inr z)
 have I:OE X.K G Y J Hc (match f B xs.1[i] with
  | .next σ'=>dO f (xs.1.drop (i+1)) σ'|.cnt σ'=>dO f (xs.1.drop (i+1)) σ'|.brk σ'=>.next σ'|o=>o) D:=I
 cases Z:bP B xs.1[i] t with
 | exc e=>rw[show f B xs.1[i]=.exc e B by show O.from B (bP B xs.1[i] t) _=_;rw[Z];rfl] at I;exact I.elim|bad=>rw[show f B xs.1[i]=.bad by show O.from B (bP B xs.1[i] t) _=_;rw[Z];rfl] at I;exact I.elim|ok q5=>
  rw[show f B xs.1[i]=exs P (call P n) q5 b by show O.from B (bP B xs.1[i] t) _=_;rw[Z];rfl] at I;refine aFc (Sc.grow sm (q7 Sc.tk)) (ok.nofr _ (AM q1)) rep Z λq8 S2 _=>⟨G,q5,S2,?_⟩
  have kS:Kp G Hc H':=Kp.same sm;have q2:∀{σ':Sg} {q0:Addr->Prop} {U:L2.St} {L:Hp},Kp G H' L->(∀b,q0 b->G b\/H' b=none)->Sx X.K q0 Y J σ' U L->OE X.K G Y J Hc (dO f (xs.1.drop (i+1)) σ') D ->
   (xs.1.length-(i+1)=xs.1.length-(i+1)/\i+1<=xs.1.length/\∃G B,Kp (rtF RT σ σV xs.2) H1 L/\(∀b,G b->rtF RT σ σV xs.2 b\/H1 b=none)/\Sx X.K G Y J B U L/\OE X.K G Y J L (dO f (xs.1.drop (i+1)) B) D):=λ{σ' q0 U L} k2 s2 S3 h3=>by exact⟨rfl,q1,q0,σ',kp.chain q3 (kS.chain bX k2),jE kp q3 (jE kS bX s2),S3,OE.mono (kS.chain bX k2) (jE kS bX s2) h3⟩
  cases q:exs P (call P n) q5 b with
  | next σ'=>rw[q] at I;exact λq0 U L k2 s2 S3=>q2 k2 s2 S3 I|cnt σ'=>rw[q] at I;exact λq0 U L k2 s2 S3=>q2 k2 s2 S3 I|brk σ'=>rw[q] at I;exact gP.mono kS bX (I)|ret v=>rw[q] at I;exact OE.mono kS bX I|exc e σ'=>rw[q] at I;exact I.elim|bad=>rw[q] at I;exact I.elim
 have q6:i=xs.1.length:=by omega
 subst q6;rw[HR] at I;exact .inl ⟨okc.2.1 (An _),(I) G q4 Hc (Kp.refl _ _) bX Sc⟩
end
section
variable {X:Cx} {P:Pg} {Γ:Ct} {n:Nat} {RT Y J:Addr->Prop} {σ:Sg} {pos:Du} {l:Nat} {K:Fg} {H:Hp} {σV:L2.St}
theorem Sx.putDct(S:Sx K RT Y J σ σV H)(hn:H p=none){G:List NE}{q0:List (NK×D)}(t:Tk K (upd H p (lL p G)))(q4:G.map pj=q0.map kV)(q7:∀x∈G,lO K H x.1 x.2.1)(i:Nat):Sx K (λb=>RT b\/b=p) Y J (σ.set i (.dct q0)) (σV.set i (some (.ref p))) (upd H p (lL p G)):=by
 have s:aL H (upd H p (lL p G)):=aL.new hn;have hk:=t p (by rw[aP];simp);have w:∀{pa:Bool} b,(RT b\/b=p)\/exB Y J pa b->b=p\/RT b\/exB Y J pa b:=λ{pa} b z=>by grind
 exact {
  sh:=λj pa d e=>by
   rcases set_some e with⟨_,z,_⟩|⟨B,e⟩
   cases z;obtain⟨v,U,h2⟩:=S.sh j pa d e;exact⟨v,by rw[Af B];exact U,((h2.out hn hk).grow s).weak w⟩
  own:=λj pa ds e=>by
   rcases set_some e with⟨_,z,_⟩|⟨B,e⟩
   cases z;obtain⟨b,ys,U,h2,h3,h4,h5⟩:=S.own j pa ds e;exact⟨b,ys,by rw[Af B];exact U,s _ _ h2,.inl h3,h4,((h5.out hn hk).grow s).weak w⟩
  trk:=λb z q=>by rcases z with(z|z)|z;exact S.trk b (.inl z) (s.free q);rw[z,aP] at q;cases q;exact S.trk b (.inr z) (s.free q)
  yo:=S.yo
  tk:=t
  rt:=λb z=>by rcases z with z|z;exact(S.rt b z).grow s;rw[z];exact .inr ⟨G,aP⟩
  inj:=λj j' pa' q1 ds ds' a L I Z M=>by
   rcases set_some L with⟨_,e,_⟩|⟨n1,L⟩
   cases e;rcases set_some I with⟨_,e,_⟩|⟨n2,I⟩
   cases e;rw[Af n1] at Z;rw[Af n2] at M;exact S.inj j j' pa' q1 ds ds' a L I Z M
  len:=by rw[A1,A1];exact S.len
  dx:={
   at':=λj ds e=>by
    rcases set_some e with⟨rfl,z,hl⟩|⟨B,e⟩
    cases z;exact⟨p,G,Ay (by rw[<-S.len];exact hl),aP,.inr rfl,λz=>S.trk p (.inr (.inr z)) hn,q4,λx hx=>lO.imp (λ_ _ r=>aL.seqT s r) (q7 x hx)⟩;obtain⟨a,xs,U,h2,h3,h4,h5,h6⟩:=S.dx.at' j ds e;exact⟨a,xs,by rw[Af B];exact U,s _ _ h2,.inl h3,h4,h5,λx hx=>lO.imp (λ_ _ r=>aL.seqT s r) (h6 x hx)⟩
   inj:=λj j' ds ds' a L I Z M=>by
    have fr:∀{j:Nat} {ds:List (NK×D)},σ[j]? = some (.dct ds)->σV[j]? = some (some (.ref p))->False:=λ{j ds} e q=>by obtain⟨a',q8,U,h2,_⟩:=S.dx.at' j ds e;rw[q] at U;grind
    rcases set_some L with⟨rfl,e,hl⟩|⟨n1,L⟩
    rcases set_some I with⟨rfl,_,_⟩|⟨n2,I⟩
    rfl;rw[Ay (by rw[<-S.len];exact hl)] at Z;cases Z;rw[Af n2] at M;exact(fr I M).elim;rw[Af n1] at Z;rcases set_some I with⟨rfl,e,hl⟩|⟨n2,I⟩
    rw[Ay (by rw[<-S.len];exact hl)] at M;cases M;exact(fr L Z).elim;rw[Af n2] at M;exact S.dx.inj j j' ds ds' a L I Z M
   at2:=λj dss e=>by
    rcases set_some e with⟨_,z,_⟩|⟨B,e⟩
    cases z;obtain⟨a,bs,U,q2,q6,q5,hw⟩:=S.dx.at2 j dss e;refine⟨a,bs,by rw[Af B];exact U,s _ _ q2,λb hb=>?_,q5,hw.imp (λ_ _ r=>aL.seqT s r) λ_ _ _ e=>s _ _ e⟩;obtain⟨z1,z2,z3⟩:=q6 b hb;exact⟨.inl z1,z2,λk pa dd w=>by
     rcases set_some w with⟨_,v,_⟩|⟨q3,w⟩
     cases v;rw[Af q3];exact z3 k pa dd w⟩
   one:=λj j' ds ds' L I=>by
    rcases set_some L with⟨_,z,_⟩|⟨_,L⟩
    cases z;rcases set_some I with⟨_,z,_⟩|⟨_,I⟩
    cases z;exact S.dx.one j j' ds ds' L I } }
theorem aLf(M:Mc X P Γ n)(B:bR Γ i x=true):PS X (.Assign [.Name x p] (.Dict [] [] p2) pos) (wS X RT Y J σ (ex P (call P n) σ (.dnew i))):=by unfold bR at B;obtain⟨L,I,U⟩:=eG B;exact cI (oX (i:=i) M.nd (by rw[M.N];exact eq_of_beq L) (M.loc I) aEv rfl (M.st x I)) λD σV H t ⟨S,h⟩=>(λq G t'=>(h) (λb=>RT b\/b=q) _ _ (Kp.same (aL.new G)) (λb z=>z.imp id λz=>by rw[z];exact G) (S.putDct G t' rfl (λx B=>by cases B) i))
end
theorem aBY:∀{is:List D} {js:List Int},bG is=some js->is=js.map D.int
 | [],js,h=>by cases h;rfl|.int a::ds,js,h=>by
  rw[bG] at h;cases q:bG ds with
  | none=>rw[q] at h;cases h|some B=>rw[q] at h;cases h;rw[aBY q];rfl
 | .non::ds,_,h=>by simp[bG] at h|.bl _::ds,_,h=>by simp[bG] at h|.str _::ds,_,h=>by simp[bG] at h|.tup _::ds,_,h=>by simp[bG] at h|.lst _::ds,_,h=>by simp[bG] at h|.err _ _::ds,_,h=>by simp[bG] at h
theorem tM:∀(ds:List D) (ps:List (List Int×D)),fT ds=some ps->ds=ps.map (λp=>.tup [.tup (p.1.map D.int),p.2])/\∀p∈ps,noL p.2=true
 | [],ps,h=>by cases h;exact⟨rfl,λ_ z=>by cases z⟩|d::ds,ps,h=>by unfold fT at h;split at h;rename_i B;cases B;rename_i is d' r B;cases B;split at h;rename_i js M I L;split at h;rename_i Z;cases h;obtain⟨G,U⟩:=tM ds M L;refine⟨by rw[mC,<-G,aBY I],λp hp=>?_⟩;grind;cases h;cases h;cases h
structure Gd (i:Nat) (g:List (List Int×List D)):Prop where
 len:∀x∈g,x.2.length<=i
 few:g.length<=i
 nd:(g.map (·.1)).Nodup
theorem aDB(g:List (List Int×List D)):(g.map (fG k d)).map (·.1)=g.map (·.1):=by rw[A7];refine B9 λx _=>?_;show(fG k d x).1=x.1;unfold fG;split <;> rfl
theorem Gd.ins(h:Gd i g)(k:List Int):(∀x∈insM g k,x.2.length<=i)/\(insM g k).length<=i+1/\((insM g k).map (·.1)).Nodup:=by unfold insM;split;exact⟨h.len,DO h.few,h.nd⟩;rename_i G;refine⟨λx B=>?_,by rw[lA];exact Fl h.few,?_⟩;rcases C1.mp B with z|z;exact h.len x z;rw[A8.mp z];exact A9 _;rw[B2,Da];refine⟨h.nd,by simp,λx B y I e=>G ?_⟩;grind
theorem Gd.step(h:Gd i g)(p:List Int×D):Gd (i+1) (aAp g p):=by obtain⟨B,G,I⟩:=h.ins p.1;refine⟨λx L=>?_,by unfold aAp;rw[lM];exact G,by unfold aAp;rw[aDB];exact I⟩;obtain⟨y,M,rfl⟩:=AE.mp L;have:=B y M;unfold fG;split;show(y.2++[p.2]).length<=_;rw[lA];exact Fl this;exact DO this
noncomputable def Bw(K:Fg)(H H':Hp):List (List Int×List D)->TKV->List Addr->Prop
 | [],xs,bs=>xs=[]/\bs=[]
 | (k,l)::g,xs,bs=>∃kb b ys r rb,xs=(k,kb,.ref b)::r/\bs=b::rb/\SqT K H kb (k.map V.int)/\H b=none/\H' b=some (.lst ys)/\noLs l=true/\Reps K H (λ_=>False) l ys/\Bw K H H' g r rb
section
variable {K:Fg} {H H' H'':Hp}
theorem Bw.imp:∀{g:List (List Int×List D)} {xs:TKV} {bs:List Addr},Bw K H H' g xs bs->(∀b∈bs,∀B,H' b=some (.lst B)->H'' b=some (.lst B))->Bw K H H'' g xs bs
 | [],_,_,h,_=>h|(k,l)::g,_,_,h,f=>by obtain⟨kb,b,B,r,rb,G,rfl,I,L,M,U,Z,h6⟩:=h;exact⟨kb,b,B,r,rb,G,rfl,I,L,f b Am B M,U,Z,h6.imp λc hc=>f c (Ag _ hc)⟩
theorem Bw.keys:∀{g:List (List Int×List D)} {xs:TKV} {bs:List Addr},Bw K H H' g xs bs->xs.map (·.1)=g.map (·.1)/\(∀x∈xs,SqT K H x.2.1 (x.1.map V.int))/\∀b∈bs,H b=none/\∃B,H' b=some (.lst B)
 | [],_,_,h=>by obtain⟨rfl,rfl⟩:=h;exact⟨rfl,(λ_ z=>by cases z),λ_ z=>by cases z⟩|(k,l)::g,_,_,h=>by obtain⟨kb,b,B,r,rb,rfl,rfl,M,U,Z,h4,h5,h6⟩:=h;obtain⟨G,I,L⟩:=h6.keys;refine⟨by rw[mC,mC,G],λx hx=>?_,λc hc=>?_⟩;rcases Ax.mp hx with z|z;rw[z];exact M;exact I x z;rcases Ax.mp hc with z|z;rw[z];exact⟨U,B,Z⟩;exact L c z
theorem Bw.snoc{k:List Int}(G:SqT K H kb (k.map V.int))(I:H q=none)(L:H' q=some (.lst [])):∀{g:List (List Int×List D)} {xs:TKV} {bs:List Addr},Bw K H H' g xs bs->Bw K H H' (g++[(k,[])]) (xs++[(k,kb,.ref q)]) (bs++[q])
 | [],_,_,h=>by obtain⟨rfl,rfl⟩:=h;exact⟨kb,q,[],[],[],rfl,rfl,G,I,L,rfl,rfl,rfl,rfl⟩|(k',l)::g,_,_,h=>by obtain⟨B,b,M,r,rb,rfl,rfl,U,Z,z3,z4,z5,z6⟩:=h;exact⟨B,b,M,_,_,rfl,rfl,U,Z,z3,z4,z5,Bw.snoc G I L z6⟩
theorem yU:∀{g:List (List Int×List D)},k∉g.map (·.1)->g.map (fG k d)=g
 | [],_=>rfl|x::g,h=>by rw[mC,Ax,not_or] at h;rw[mC,yU h.2];unfold fG;rw[if_neg λz=>h.1 z.symm]
theorem tP:∀{ds:List D} {d:D},noLs ds=true->noL d=true->noLs (ds++[d])=true
 | [],d,_,h=>by simp[noLs,h]|e::ds,d,h,h2=>by simp only[noLs,bA,HV] at h ⊢;exact⟨h.1,tP h.2 h2⟩
theorem Bw.look:∀{g:List (List Int×List D)} {xs:TKV} {bs:List Addr},Bw K H H' g xs bs->(g.map (·.1)).Nodup->bs.Nodup->(∀x∈g,x.2.length<=m)->k∈g.map (·.1) ->
 ∃G b B,Et xs k=some (G,.ref b)/\b∈bs/\H' b=some (.lst B)/\B.length<=m/\∀(d:D) (u:V),noL d=true->Rep K H (λ_=>False) d u->Bw K H (upd H' b (.lst (B++[u]))) (g.map (fG k d)) xs bs
 | [],_,_,_,_,_,_,I=>by cases I|(k',l)::g,_,_,h,n1,n2,hl,I=>by
  obtain⟨G,b,B,r,rb,rfl,rfl,h1,h2,h3,h4,M,h6⟩:=h;rw[mC,Az] at n1;rw[Az] at n2;unfold Et;rw[CT];by_cases e:k'=k;subst e;simp only[Kc];refine⟨G,b,B,rfl,Am,h3,by rw[<-M.length];exact hl (k',l) Am,λd u U Z=>?_⟩;rw[mC,yU n1.1];have L:fG k' d (k',l)=(k',l++[d]):=by unfold fG;rw[if_pos rfl]
  rw[L];refine⟨G,b,B++[u],r,rb,rfl,rfl,h1,h2,aP,tP h4 U,M.append ⟨u,[],rfl,Z,rfl⟩,h6.imp λc hc zs e=>?_⟩;rw[aJ λz=>n2.1 (by rw[<-z];exact hc)];exact e;simp only[Aw e];have I:k∈g.map (·.1):=by grind
  obtain⟨kc,c,zs,g1,g2,g3,g4,g5⟩:=h6.look n1.2 n2.2 (λx hx=>hl x (Ag _ hx)) I;refine⟨kc,c,zs,g1,Ag _ g2,g3,g4,λd u U Z=>?_⟩;rw[mC];have L:fG k d (k',l)=(k',l):=by unfold fG;rw[if_neg e]
  rw[L];refine⟨G,b,B,r,rb,rfl,rfl,h1,h2,?_,h4,M,g5 d u U Z⟩;rw[aJ λz=>n2.1 (by rw[z];exact g2)];exact h3
theorem Bw.rep(s:aL H H'):∀{g:List (List Int×List D)} {xs:TKV} {bs:List Addr},Bw K H H' g xs bs->RepM K H' (λb=>H b≠none) (g.flatMap λx=>[.tup (x.1.map D.int),.lst x.2]) xs
 | [],_,_,h=>by obtain⟨rfl,rfl⟩:=h;rfl|(k,l)::g,_,_,h=>by obtain⟨Z,b,ys,r,rb,rfl,rfl,B,G,I,L,M,U⟩:=h;rw[BM];exact⟨k,Z,.ref b,.ref b,r,rfl,rfl,aL.seqT s B,rfl,⟨b,ys,rfl,SqL.of I,λz=>z G,Reps.free _ _ L (M.grow s)⟩,U.rep s⟩
end
section
variable {X:Cx} {P:Pg} {Γ:Ct} {n:Nat}
theorem aOj(M:Mc X P Γ n){st:List BY}(h:aEF Γ st=true){sa:Addr}{xs:List V}{H:Hp}{ds:List D}{ps:List (List Int×D)}{ex:Addr->Prop}{Z:Ends}(hq:SqL X.K H sa xs)(hr:Reps X.K H ex ds xs)(hp:fT ds=some ps)(hl:ps.length<lim)
 (hQ:∀u H',aL H H'->Rep X.K H' (λb=>H b≠none) (aAo (dW ps)) u->Z.rt u H'):∃t,PSs X st t/\t Z [some (.ref sa),none,none,none] H:=by
 unfold aEF at h;split at h;rename_i s1 s2 s3;obtain⟨c1,c2,c3⟩:=eG h;clear h;unfold eV at c1 c3;obtain⟨⟨tg,v⟩,⟨p,rfl⟩,g⟩:=aD c1;clear c1;obtain⟨x,⟨p1,e1⟩,g⟩:=aD g;have e1:tg=.Name x p1:=e1;subst e1;obtain⟨hx,g⟩:=cV g;obtain⟨_,⟨p2,e2⟩,_⟩:=aD g;have e2:v=.Dict [] [] p2:=e2;subst e2;unfold bR at hx;obtain⟨x1,x2,x3⟩:=eG hx;obtain⟨rv,⟨p3,rfl⟩,g3⟩:=aD c3;clear c3;obtain⟨v3,e3,g3⟩:=aBH g3;subst e3;obtain⟨x9,⟨p4,e4⟩,g4⟩:=aD g3;have e4:v3=.Name x9 p4:=e4;subst e4;obtain⟨⟨tg,z1,body⟩,⟨p5,rfl⟩,g2⟩:=aD c2;clear c2;obtain⟨t1,t2,t3⟩:=eG g2;obtain⟨y,⟨p6,e6⟩,t6⟩:=aD t2;have e6:z1=.Name y p6:=e6;subst e6;rcases body with _|⟨s,_|⟨_,_⟩⟩
 cases t3;have t3:aEE Γ s=true:=t3;unfold aEE at t3;obtain⟨c,⟨p7,e7⟩,t4⟩:=aD t3;clear t3;subst e7;obtain⟨⟨o,m,as,l⟩,⟨ap,cp,e8,el⟩,t5⟩:=aD t4;clear t4;have e8:c=.Call (.Attribute o m ap) as [] cp:=e8;subst e8;obtain⟨a1,a2,a3,a4⟩:=vK t5;clear t5;have a1:m=("append" : Str):=eq_of_beq a1;subst a1;have z6:(ap.endLine==cp.line)=true:=el.trans a2;rcases as with _|⟨z,_|⟨_,_⟩⟩
 cases a3;obtain⟨zn,⟨p9,e9⟩,a5⟩:=aD a3;have e9:z=.Name zn p9:=e9;subst e9;obtain⟨⟨o2,m2,q9,l2⟩,⟨q8,w4,q2,z4⟩,b3⟩:=aD a4;have q2:o=.Call (.Attribute o2 m2 q8) q9 [] w4:=q2;subst q2;obtain⟨b1,b2,b3,b4⟩:=vK b3;have b1:m2=("setdefault" : Str):=eq_of_beq b1;subst b1;have z5:(q8.endLine==w4.line)=true:=z4.trans b2;obtain⟨x5,⟨x4,q3⟩,b9⟩:=aD b3;have q3:o2=.Name x5 x4:=q3;subst q3;rcases q9 with _|⟨kk,_|⟨ll,_|⟨_,_⟩⟩⟩
 cases b4;cases b4;obtain⟨b6,b5⟩:=cV b4;obtain⟨kn,⟨x6,q4⟩,b7⟩:=aD b6;have q4:kk=.Name kn x6:=q4;subst q4;obtain⟨lc,⟨x7,q5⟩,b8⟩:=aD b5;have q5:ll=.List lc x7:=q5;cases lc with
 | cons _ _=>cases b8|nil=>
  subst q5;have z9:PassesOwn (A5 X.prog X.w) X.A X.env X.xe:=by rw[M.xe];exact Iy
  refine⟨_,lD (oX (i:=1) M.nd (by rw[M.N];exact eq_of_beq x1) (M.loc x2) aHs rfl (M.st x x2)) (lD (aEe z9 M.calm (aGZ (dI M t6)) (aDs M t1) (aBo (lE (aBv CH EX EY sQ
   (aHt (by have:=M.units;omega) (dI M b9) (cZ (dI M b7) (cZ (aAi eP) eP rfl) rfl) rfl rfl z5 rfl rfl) (cZ (dI M a5) eP rfl) rfl rfl z6 rfl rfl)))) (aBo (zV (dI M g4)))),?_⟩
  intro G q6;have s0:aL H (upd H G (eZ G [])):=aL.new q6;obtain⟨pg,pn⟩:=tM ds ps hp;have lx:xs.length=ps.length:=by rw[<-hr.length,pg,lM]
  have sl:=aAM;refine⟨.ref sa,rfl,sa,rfl,⟨xs,s0.seq hq⟩,aEf (xs:=xs) (λi σV H'=>∃B bs s2 s3,σV=[some (.ref sa),some (.ref G),s2,s3]/\aL H H'/\H' G=some (eZ G B)/\(G::bs).Nodup/\Gd i (dW (ps.take i))/\Bw X.K H H' (dW (ps.take i)) B bs)
   ⟨[],[],none,none,rfl,s0,aP,by simp,⟨λ_ z=>(by cases z),An 0,DM⟩,rfl,rfl⟩ ?_ ?_ ?_⟩
  rintro i σV H' hi ⟨_,_,_,_,_,s,_⟩;exact s.seq hq;rintro i u σV H' hu ⟨B,bs,v2,v3,rfl,s,hD,nd,gd,bw⟩;have hi:i<xs.length:=(Ai.mp hu).1;obtain⟨d,hd,rd⟩:=hr.get' hu;have z0:ps[i]? = some ps[i]:=Ac (by omega);have z8:d=.tup [.tup (ps[i].1.map D.int),ps[i].2]:=by rw[pg,Ar,z0] at hd;exact(Ao hd).symm
  have w8:noL ps[i].2=true:=pn _ (AM _);have w5:dW (ps.take (i+1))=aAp (dW (ps.take i)) ps[i]:=by unfold dW;rw[Ja,z0,EO];rfl
  rw[z8] at rd;obtain⟨ta,zs,rfl,qt,rz⟩:=rd;obtain⟨kv,r1,rfl,rk,fv,r2,rfl,rf,rfl⟩:=rz;obtain⟨kb,ks,rfl,qk,x8⟩:=rk;have z3:ks=ps[i].1.map V.int:=iG (X:=X) (kK _) x8;subst z3;refine⟨ta,[.ref kb,fv],rfl,aL.seqT s qt,rfl,.ref kb,_,rfl,fv,[],rfl,rfl,?_⟩;obtain⟨k1,k2,k3⟩:=bw.keys;obtain⟨i1,i2,i3⟩:=gd.ins ps[i].1;have lt:B.length<=i:=by have:=congrArg Ib k1;rw[lM,lM] at this;rw[this];exact gd.few
  rw[Az] at nd;have w6:∀(H1:Hp) (L:TKV) (U:List Addr) (z2 b:Addr),aL H H1->H1 G=some (eZ G L)->(G::U).Nodup->Bw X.K H H1 (insM (dW (ps.take i)) ps[i].1) L U->Et L ps[i].1=some (z2,.ref b) ->
   tyV X.K "list" (.ref b) H1/\(aIR (aCO 3) aJS) [some (.ref sa),some (.ref G),some (.ref kb),some fv] H1 λvs H2=>aBw (.ref b) vs H2 λ_ H3=>∃B bs s2 s3,[some (V.ref sa),some (.ref G),some (.ref kb),some fv]=[some (.ref sa),some (.ref G),s2,s3]/\aL H H3/\H3 G=some (eZ G B)/\(G::bs).Nodup/\Gd (i+1) (dW (ps.take (i+1)))/\Bw X.K H H3 (dW (ps.take (i+1))) B bs:=λH1 L U z2 b sH z7 q1 w3 ea=>by
   rw[Az] at q1;have w7:ps[i].1∈(insM (dW (ps.take i)) ps[i].1).map (·.1):=by unfold insM;split;assumption;rw[B2];exact AD _ Am
   obtain⟨q7,b2,ys,l1,l2,l3,l4,l5⟩:=w3.look i3 q1.2 i1 w7;rw[ea] at l1;cases l1;refine⟨.inl ⟨rfl,ys,SqL.of l3⟩,fv,rfl,b,ys,fv,rfl,rfl,l3,by omega,L,U,some (.ref kb),some fv,rfl,λa o e=>?_,?_,Az.mpr q1,by rw[w5];exact gd.step _,by rw[w5];exact l5 _ _ w8 (Rep.free _ _ w8 rf)⟩;rw[aJ λz=>by rw[z,(w3.keys.2.2 b l2).1] at e;cases e];exact sH a o e;rw[aJ λz=>q1.1 (by rw[z];exact l2)];exact z7
  refine⟨.ref G,rfl,G,B,rfl,hD,λz hz=>aL.seqT s (k2 z hz),.ref kb,rfl,A9 _,λq I=>⟨kb,ps[i].1,.ref q,rfl,?_,λz hz=>?_,?_,by omega,λp ep=>?_,λen u ru=>?_⟩⟩;rw[aJ (aU hD I)];exact hD;exact aL.seqT (s.trans (aL.new I)) (k2 z hz);exact aL.seqT (s.trans (aL.new I)) qk;have q0:ps[i].1∈(dW (ps.take i)).map (·.1):=by
   rw[<-k1];unfold Et at ep;cases hf:B.find? (λx=>decide (x.1=ps[i].1)) with
   | none=>rw[hf] at ep;cases ep|some w=>have:=List.find?_some hf;rw[<-of_decide_eq_true this];exact List.mem_map_of_mem (List.mem_of_find?_eq_some hf)
  obtain⟨q7,b2,ys,l1,l2,l3,l4,l5⟩:=bw.look gd.nd nd.2 gd.len q0;rw[ep] at l1;cases l1;have s4:aL H' (upd H' q (.lst [])):=aL.new I;refine⟨.ref b2,rfl,w6 _ B bs q7 b2 (s.trans s4) (s4 _ _ hD) (Az.mpr nd) ?_ ep⟩;have ei:insM (dW (ps.take i)) ps[i].1=dW (ps.take i):=by unfold insM;rw[if_pos q0]
  rw[ei];exact bw.imp λc hc zs e=>s4 _ _ e;have ru:u=AG q:=ru;subst ru;have w9:ps[i].1∉(dW (ps.take i)).map (·.1):=λq0=>by obtain⟨q7,b2,ys,l1,_⟩:=bw.look gd.nd nd.2 gd.len q0;rw[en] at l1;cases l1
  have s4:aL H' (upd H' q (.lst [])):=aL.new I;have x0:q≠G:=λz=>by rw[z,hD] at I;cases I
  refine w6 (upd (upd H' q (.lst [])) G (eZ G (B++[(ps[i].1,kb,.ref q)]))) _ (bs++[q]) kb q (λa o e=>?_) aP ?_ ?_ ?_;rw[aJ (aU e q6)];exact(s.trans s4) a o e;rw[Az,C1,Da];grind;have ei:insM (dW (ps.take i)) ps[i].1=dW (ps.take i)++[(ps[i].1,[])]:=by unfold insM;rw[if_neg w9]
  rw[ei];refine Bw.snoc qk (s.free I) (by rw[aJ x0];exact aP) (bw.imp λc hc zs e=>?_);rw[aJ λz=>nd.1 (by rw[<-z];exact hc)];exact s4 _ _ e;unfold Et at en ⊢;rw[List.find?_append];cases hf:B.find? (λx=>decide (x.1=ps[i].1)) with
  | some w=>rw[hf] at en;cases en|none=>simp
  rintro σV H' ⟨B,bs,v2,v3,rfl,s,hD,nd,gd,bw⟩;rw[lx,CD] at bw;exact⟨.ref G,rfl,hQ _ H' s ⟨G,B,rfl,hD,λz=>z q6,bw.rep s⟩⟩
 cases b4;cases a3;cases t3;cases h
end
end Hp
namespace L2
open PySem PySem.Spec PyProof.Rows PySem.SeqAt
theorem tQ:Jd KU "list.remove.loop" = some BI.«list.remove.loop»:=HU (by kernel_rfl)
theorem jF:plainId "list.remove.loop" = true:=by decide +kernel
section
variable {prog:A2} {w:AL} {A:AT} {l:Addr} {its:Array Value} {c:Nat} {u:Value} {R:Fu->Ad->Prop}
theorem aOk{s:Ad}(L:s.heap.get? l=some { cls:=.type "list",data:=.seq its c })(hz:its.size<=sizeLine):∀(m i:Nat),(U:i+m<its.size)->(∀t (ht:t<its.size),i<=t->t<i+m->EqAt A.in1 s its[t] u false)->EqAt A.in1 s its[i+m] u true ->
 R (.ok (.ret .none)) { s with heap:=s.heap.update l (Bt λxs=>xs.eraseIdxIfInBounds (i+m)) }->D4 (A5 prog w) A (.builtin "list.remove.loop" ⟨[.ref l,u,.int i 0],[]⟩) R s:=by
 intro m
 induction m with
 | zero=>
  intro i U B G I;refine Cg tQ ?_;rw[BG jF _];refine Aa (Aa (B1 L rfl (Ae ?_)));have e:its[(i:Int).toNat]? = some its[i]:=by simp
  rw[e];refine Aa (G prog w _ _ ?_);refine Aa (wpAny_updateSeq L rfl ?_ hz ?_);exact Ae I;show(its.eraseIdxIfInBounds _).size<=_;have:(its.eraseIdxIfInBounds (i:Int).toNat).size<=its.size:=by unfold EZ;split <;> simp
  omega
 | succ m Z=>
  intro i U B G I;refine Cg tQ ?_;rw[BG jF _];refine Aa (Aa (B1 L rfl (Ae ?_)));have e:its[(i:Int).toNat]? = some its[i]:=by simp
  rw[e];refine Aa (B i (by omega) (An _) (by omega) prog w _ _ ?_);have M:i+(m+1)=(i+1)+m:=by omega
  have:=Z (i+1) (by omega) (λt ht g1 g2=>B t ht (by omega) (by omega)) (by simp only[<-M];exact G) (by rw[<-M];exact I);exact Ae ⟨D1 jF _,this⟩
theorem aFy:MeetsIn prog w (BI.«list.remove» ⟨[.ref l,u],[]⟩) (λA R s=>s.heap.get? l=some { cls:=.type "list",data:=.seq its c }/\its.size<=sizeLine/\∃m,∃B:m<its.size,(∀t (ht:t<its.size),t<m->EqAt A.in1 s its[t] u false)/\EqAt A.in1 s its[m] u true /\
 R (.ok (.ret .none)) { s with heap:=s.heap.update l (Bt λxs=>xs.eraseIdxIfInBounds m) }):=by intro A R s ⟨ho,hz,m,B,h1,h2,hR⟩;refine Ae ⟨D1 jF _,?_⟩;have:=aOk (prog:=prog) (w:=w) ho hz m 0 (by omega) (λt ht _ G=>h1 t ht (by omega)) (by simp only[DQ];exact h2) (by rw[DQ];exact hR);exact this
end
end L2
namespace Hp
open PySem PySem.Spec PyProof.Rows L2 PySem.SeqAt
theorem aBZ:∀{ds es:List D},oC x ds=some es->∃m,∃G:m<ds.length,es=ds.eraseIdx m/\eqD ds[m] x=some true/\∀t (ht:t<ds.length),t<m->eqD ds[t] x=some false
 | [],_,h=>by cases h|y::ys,es,h=>by
  unfold oC at h;cases q:eqD y x with
  | none=>rw[q] at h;cases h|some b=>
   rw[q] at h;cases b with
   | true=>cases h;exact⟨0,Ew _,rfl,q,λt _ z=>(by omega)⟩|false=>
    cases B:oC x ys with
    | none=>rw[B] at h;cases h|some r=>
     rw[B] at h;cases h;obtain⟨m,G,I,L,M⟩:=aBZ B;refine⟨m+1,Nat.succ_lt_succ G,by rw[I];rfl,L,λt ht z=>?_⟩;cases t with
     | zero=>exact q|succ t=>exact M t (Nat.lt_of_succ_lt_succ ht) (by omega)
section
variable {X:Cx}
noncomputable def rRm(K:Fg):V->List V->Hp->VK->Prop:=λx vs H Q=>∃l xs y ds d es ex ex',x=.ref l/\vs=[y]/\H l=some (.lst xs)/\Reps K H ex ds xs/\Rep K H ex' d y/\oC d ds=some es/\∀m,es=ds.eraseIdx m->Q .non (upd H l (.lst (xs.eraseIdx m)))
theorem aOl(hA:X.A.units+200<cLine):MtM X "list.remove" (rRm X.K):=by
 intro pins s σ H x vs v us Q I rx rv h;obtain⟨l,xs,y,ds,d,es,ex,ex',rfl,rfl,hH,rd,ry,hr,q⟩:=h;cases rx;obtain⟨u,rfl,ru⟩:=rv.one;obtain⟨z,B,n,r,hl,e⟩:=I.lstM hH;obtain⟨m,hm,g1,g2,g3⟩:=aBZ hr;have ld:=rd.length;have L:∀t (ht:t<B.toArray.size) (b:Bool) (h':t<ds.length),eqD ds[t] d=some b->EqAt X.A.in1 s B.toArray[t] u b:=λt ht b h' hb=>by obtain⟨w,hw,Z⟩:=uZ r ht;obtain⟨d',G,U⟩:=rd.get' hw;rw[Ac h'] at G;cases G;exact(vA I gM X.A.in1 _ _ _ _ _ _ b ex ex' (by rw[mV];have:gM=120:=rfl;omega) U ry Z ru hb).1
 have q0:B.toArray.size=ds.length:=by rw[Ah];omega
 refine GY Fa ⟨_,e,rfl⟩ PySem.F.entry_list_remove (PySem.F.args_list_remove_2 _ _) (aFy) ⟨e,by rw[Ah];omega,m,by omega,λt ht M=>L t ht false (by omega) (g3 t (by omega) M),L m (by omega) true hm g2,?_⟩;refine⟨.non,_,I.lset (its':=B.eraseIdx m) hH e ?_ ?_ ?_,rfl,q m g1⟩;rw[EZ,dif_pos (by omega)];simp;clear q g1;have:∀(xs:List V) (us:List Value) (m:Nat),aX xs us->aX (xs.eraseIdx m) (us.eraseIdx m):=by
  intro xs
  induction xs with
  | nil=>intro us m r;cases r;cases m <;> exact .nil|cons a xs ih=>
   intro us m r;cases r with
   | cons r1 r2=>
    cases m with
    | zero=>exact r2|succ m=>exact .cons r1 (ih _ m r2)
 exact this xs B m r;have:=List.length_eraseIdx_le xs m;omega
end
end Hp
namespace Hp
open PySem PySem.Spec PyProof.Rows L2
section
variable {K:Fg}
theorem qK{ds:List D}{vs:List V}{Y:Addr->Prop}(L:∀a,Y a->H a≠none)(t:Tk K H)(r:Reps K H Y ds vs):Sx K (λ_=>False) Y (λb=>H b≠none) ((ds.map λd=>Sl.sh true d)++Aj m Sl.dead) (vs.map some++Aj m none) H:=by
 have len:=r.length;have get:∀{i:Nat} {s:Sl},((ds.map λd=>Sl.sh true d)++Aj m Sl.dead)[i]? = some s->s=.dead\/∃d,s=.sh true d/\ds[i]? = some d:=λ{i s} e=>by by_cases hi:i<ds.length;rw[A0 (by simpa using hi),Ar,Ac hi] at e;cases e;exact .inr ⟨ds[i],rfl,Ac hi⟩;rw[A3 (by simpa using hi),BF] at e;split at e;cases e;exact .inl rfl;cases e
 exact {
  sh:=λi pa d e=>by
   rcases get e with z|⟨d',z,q⟩
   cases z;cases z;obtain⟨v,I,rv⟩:=r.get q;have hi:i<vs.length:=(Ai.mp I).1;refine⟨v,?_,rv.weak λa z=>?_⟩;rw[A0 (by simpa using hi),Ar,I];rfl;rcases z with z|z|⟨z,_⟩
   exact z.elim;exact z;cases z
  own:=λi pa ds' e=>by
   rcases get e with z|⟨d',z,q⟩
   cases z;cases z
  trk:=λa z=>by grind
  yo:=L
  tk:=t
  rt:=λ_ z=>z.elim
  inj:=λi j pa pa' B G a e=>by
   rcases get e with z|⟨d',z,q⟩
   cases z;cases z
  len:=by rw[lA,lA,lM,lM,AQ,AQ,len]
  dx:={
   at':=λi ds' e=>by
    rcases get e with z|⟨d',z,q⟩
    cases z;cases z
   inj:=λi j B G a e=>by
    rcases get e with z|⟨d',z,q⟩
    cases z;cases z
   at2:=λi ds' e=>by
    rcases get e with z|⟨d',z,q⟩
    cases z;cases z
   one:=λi j B G e=>by
    rcases get e with z|⟨d',z,q⟩
    cases z;cases z } }
end
section
variable {RT Y J:Addr->Prop} {σ:Sg}
theorem Sx.put2{K:Fg}{σV:L2.St}{H H':Hp}{N:Addr->Prop}(S:Sx K RT Y J σ σV H){i:Nat}{dss:List (List D)}{a:Addr}{bs:List Addr}
 (u:∀j L,σ[j]? = some (.own2 L)->j=i) (t:Tk K H') (hN:∀b,N b->H b=none/\∃xs,H' b=some (.lst xs))
 (kp:∀b o,H b=some o->¬ (Pt RT J σ σV b/\∃xs,o=.lst xs)->H' b=some o) (kr:∀b xs,H b=some (.lst xs)->Pt RT J σ σV b->∃xs,H' b=some (.lst xs))
 (hb:∀b∈a::bs,N b\/Pt RT J σ σV b) (nd:(a::bs).Nodup) (ha:H' a=some (.lst (bs.map V.ref))) (hr:Rws K H' dss bs) :
 Sx K (λb=>RT b\/N b) Y J (σ.set i (.own2 dss)) (σV.set i (some (.ref a))) H':=by
 have np:∀b o,H b=some o->(∀xs,o≠.lst xs)->¬ (Pt RT J σ σV b/\∃xs,o=.lst xs):=λb o e n z=>by obtain⟨_,xs,e'⟩:=z;exact n xs e'
 have kT:∀b ks,SqT K H b ks->SqT K H' b ks:=λb ks q=>by rcases q with(q|⟨o,q⟩)|q;exact .inl (.inl (kp _ _ q (np _ _ q λ_ e=>by cases e)));exact .inl (.inr ⟨o,kp _ _ q (np _ _ q λ_ e=>by cases e)⟩);exact .inr q
 have kL:∀b xs,¬ RT b->SqL K H b xs->¬ N b/\SqL K H' b xs:=λb xs n q=>by
  refine⟨λz=>?_,?_⟩;obtain⟨z1,ys,z2⟩:=hN b z;rcases q with(q|⟨o,q⟩)|⟨o,q3,m,q,_⟩
  rw[z1] at q;cases q;rw[z1] at q;cases q;rw[t b (by rw[z2];simp)] at q;cases q;rcases q with(q|⟨o,q⟩)|q;exact .inl (.inl (kp _ _ q ((λo z=>n z.1.1) _)));exact .inl (.inr ⟨o,kp _ _ q ((λo z=>n z.1.1) _)⟩);exact .inr q
 have kX:∀(pa:Bool) b xs,¬ (RT b\/exB Y J pa b)->SqL K H b xs->¬ ((RT b\/N b)\/exB Y J pa b)/\SqL K H' b xs:=λpa b xs n q=>by obtain⟨k1,k2⟩:=kL b xs (λz=>n (.inl z)) q;refine⟨λz=>?_,k2⟩;rcases z with(z|z)|z;exact n (.inl z);exact k1 z;exact n (.inr z)
 have kO:∀(pa:Bool) b o,Ox o->¬ (RT b\/exB Y J pa b)->H b=some o->¬ ((RT b\/N b)\/exB Y J pa b)/\H' b=some o:=λpa b o _ n q=>by refine⟨λz=>?_,kp b o q λz=>n (.inl z.1.1)⟩;grind
 have q0:∀b,H b≠none->H' b≠none:=λb q=>by
  cases e:H b with
  | none=>exact absurd e q|some o=>by_cases Z:Pt RT J σ σV b/\∃xs,o=.lst xs;obtain⟨Z,xs,rfl⟩:=Z;obtain⟨xs,e⟩:=kr b xs e Z;rw[e];simp;rw[kp b o e Z];simp
 exact {
  sh:=λj pa d e=>by
   rcases set_some e with⟨_,z,_⟩|⟨B,e⟩
   cases z;obtain⟨v,G,I⟩:=S.sh j pa d e;exact⟨v,by rw[Af B];exact G,Rep.imp kT (kX pa) (λb ks q=>kp _ _ q (np _ _ q λ_ e=>by cases e)) (kO pa) d v I⟩
  own:=λj pa ds e=>by
   rcases set_some e with⟨_,z,_⟩|⟨B,e⟩
   cases z;obtain⟨b,xs,G,I,h3,h4,h5⟩:=S.own j pa ds e;exact⟨b,xs,by rw[Af B];exact G,kp _ _ I λz=>z.1.2.2 j pa ds e G,.inl h3,h4,Reps.imp kT (kX pa) (λb ks q=>kp _ _ q (np _ _ q λ_ e=>by cases e)) (kO pa) ds xs h5⟩
  trk:=λb z=>by rcases z with(z|z)|z;exact q0 b (S.trk b (.inl z));obtain⟨_,xs,e⟩:=hN b z;rw[e];simp;exact q0 b (S.trk b (.inr z))
  yo:=S.yo
  tk:=t
  rt:=λb z=>by
   rcases z with z|z;rcases S.rt b z with⟨xs,e⟩|⟨xs,e⟩
   by_cases Z:Pt RT J σ σV b;exact .inl (kr b xs e Z);exact .inl ⟨xs,kp _ _ e λw=>Z w.1⟩;exact .inr ⟨xs,kp _ _ e λw=>by obtain⟨_,_,w⟩:=w;cases w⟩;exact .inl (hN b z).2
  inj:=λj j' pa pa' ds ds' b M U e3 e4=>by
   rcases set_some M with⟨_,z,_⟩|⟨G,M⟩
   cases z;rcases set_some U with⟨_,z,_⟩|⟨I,U⟩
   cases z;rw[Af G] at e3;rw[Af I] at e4;exact S.inj j j' pa pa' ds ds' b M U e3 e4
  len:=by rw[A1,A1];exact S.len
  dx:={
   at':=λj ks e=>by
    rcases set_some e with⟨_,z,_⟩|⟨B,e⟩
    cases z;obtain⟨b,xs,G,I,h3,h4,h5,h6⟩:=S.dx.at' j ks e;exact⟨b,xs,by rw[Af B];exact G,kp _ _ I (λw=>by obtain⟨_,_,w⟩:=w;cases w),.inl h3,h4,h5,λx hx=>lO.imp kT (h6 x hx)⟩
   inj:=λj j' ds ds' b M U e3 e4=>by
    rcases set_some M with⟨_,z,_⟩|⟨G,M⟩
    cases z;rcases set_some U with⟨_,z,_⟩|⟨I,U⟩
    cases z;rw[Af G] at e3;rw[Af I] at e4;exact S.dx.inj j j' ds ds' b M U e3 e4
   at2:=λj L e=>by
    rcases set_some e with⟨rfl,z,hl⟩|⟨B,e⟩
    cases z;refine⟨a,bs,Ay (by rw[<-S.len];exact hl),ha,λb hm=>?_,nd,hr⟩;have own:∀(p:∀(k:Nat) (pa:Bool) (ds:List D),σ[k]? = some (.own pa ds)->σV[k]?≠some (some (.ref b))) (k:Nat) (pa:Bool) (ds:List D),(σ.set i (.own2 dss))[k]? = some (.own pa ds)->(σV.set i (some (.ref a)))[k]?≠some (some (.ref b)):=λp k pa ds e=>by
     rcases set_some e with⟨_,z,_⟩|⟨q2,e⟩
     cases z;rw[Af q2];exact p k pa ds e
    rcases hb b hm with z|z;have z1:=(hN b z).1;refine⟨.inr z,λo=>S.trk b (.inr (.inr o)) z1,own λk pa ds e v=>?_⟩;obtain⟨c,xs,G,I,_⟩:=S.own k pa ds e;rw[v] at G;grind;exact⟨.inl z.1,z.2.1,own z.2.2⟩;exact absurd (u j L e).symm B
   one:=λj j' L q1 M U=>by
    have k:∀j L,(σ.set i (.own2 dss))[j]? = some (.own2 L)->j=i:=λj L e=>by
     rcases set_some e with⟨rfl,_,_⟩|⟨_,e⟩
     rfl;exact u j L e
    rw[k j L M,k j' q1 U] } }
end
section
variable {X:Cx} {P:Pg} {Γ:Ct} {n:Nat} {RT Y J:Addr->Prop} {σ:Sg} {pos:Du}
theorem yV:∀{ds:List D} {dss:List (List D)},hG ds=some dss->ds=dss.map .lst/\∀es∈dss,noLs es=true
 | [],_,h=>by cases h;grind|d::ds,_,h=>by
  unfold hG at h;split at h;rename_i e;cases e;rename_i es r e;cases e;split at h;rename_i I;cases q:hG ds with
  | none=>rw[q] at h;cases h|some dss=>rw[q] at h;cases h;obtain⟨B,G⟩:=yV q;grind
  cases h;cases h
theorem aLg{i y:Nat}{x:Str}{p q7:Du}(M:Mc X P Γ n)(hx:bR Γ i x=true){e tg q5:A6}{w3:List A6}{scope:De}{N':List Str}(CS:cS X scope 1 [] N')
 (hi:PI X tg q5 (wI X P n RT Y J σ (.seq (.v y))))
 (w5:∀C s₀ H₀ ex,PG (dB X scope N' C s₀ H₀ ex) tg (gT X.K (.n 0))/\(∀RT Y J B,PTs (dB X scope N' C s₀ H₀ ex) w3 (wTs X P n RT Y J B .nil))/\∀RT Y J B,PE (dB X scope N' C s₀ H₀ ex) e (WE X P n RT Y J B (.bi .list (.cons (.v 0) .nil))))
 (hs:∀x,BJ q5 X.env x=pure x):PS X (.Assign [.Name x p] (.ListComp e [⟨tg,q5,w3,0⟩] scope q7) pos) (wS X RT Y J σ (ex P (call P n) σ (.set2 i y))):=by
 unfold bR at hx;obtain⟨h1,h2,h3⟩:=eG hx;refine cI (pM (g:=gT X.K (.n 0)) (tt:=λσV H Q=>∃RT Y J B,wTs X P n RT Y J B .nil σV H Q) (te:=λσV H Q=>∃RT Y J B,WE X P n RT Y J B (.bi .list (.cons (.v 0) .nil)) σV H Q) CS M.calm hi (λC s₀ H₀ ex=>?_) hs M.nd (by rw[M.N];exact eq_of_beq h1) (M.loc h2) (M.st x h2)) λD0 σV H t0 ⟨S,h⟩=>?_;obtain⟨h1,h2,h3⟩:=w5 C s₀ H₀ ex;exact⟨h1,λpins s σV H Q I ⟨RT,Y,J,B,hw⟩=>h2 RT Y J B pins s σV H Q I hw,λpins s σV H Q I ⟨RT,Y,J,B,hw⟩=>h3 RT Y J B pins s σV H Q I hw⟩;have h:=OE.from (show OE X.K RT Y J H (O.from σ (cB σ y) λv=>match v.d with
  | .lst ds=>(match hG ds,aEx σ with
   | some dss,true=>if ds.length<=lim then .next (σ.set i (.own2 dss)) else .bad|_,_=>.bad)
  | _=>.bad) D0 from h)
 obtain⟨v,ev,h⟩:=h.eq;cases hd:v.d with
 | lst ds=>
  rw[hd] at h;have h:OE X.K RT Y J H (match hG ds,aEx σ with
   | some dss,true=>if ds.length<=lim then .next (σ.set i (.own2 dss)) else .bad|_,_=>.bad) D0:=h
  cases hr:hG ds with
  | none=>rw[hr] at h;exact h.elim|some dss=>
   rw[hr] at h;cases hn:aEx σ with
   | false=>rw[hn] at h;exact h.elim|true=>
    rw[hn] at h;have h:OE X.K RT Y J H (if ds.length<=lim then .next (σ.set i (.own2 dss)) else .bad) D0:=h;split at h;rename_i z5;obtain⟨rd,rn⟩:=yV hr;have z3:∀j dd,σ[j]? = some (.own2 dd)->j=i:=λj dd ej=>by have:=AB.mp hn _ (mG ej);cases this
    have hw:RE (walk P (call P n) σ (.seq (.v y))) λxs=>xs=(items v ds,v.al):=by
     show RE (cB σ y >>= λx=>(match x.d with
      | .lst ds=>R.ok (items x ds,x.al)|.tup ds=>R.ok (items x ds,x.al)|.str a=>R.iff (decide (a.length<=lim)) (R.ok (a.cps.toList.map λn=>Vl.cl (.str ⟨#[n]⟩),[]))|_=>.bad)) _
     rw[ev];show RE (match v.d with
      | .lst ds=>R.ok (items v ds,v.al)|.tup ds=>R.ok (items v ds,v.al)|.str a=>R.iff (decide (a.length<=lim)) (R.ok (a.cps.toList.map λn=>Vl.cl (.str ⟨#[n]⟩),[]))|_=>.bad) _
     rw[hd];rfl
    refine⟨S,hw.mono λxs hx J'' H1 t1 s1 ok=>?_⟩;subst hx;have q6:(items v ds).length=dss.length:=by rw[rd];simp[items]
    have z6:ds.length=dss.length:=by rw[rd];simp
    refine⟨λk m ys G U=>m=dss.length-k/\k<=dss.length/\aL H1 U/\Tk X.K U/\G.length=1/\∃bs,ys=bs.map V.ref/\bs.Nodup/\(∀b∈bs,H1 b=none)/\Rws X.K U (dss.take k) bs,⟨_,rfl,A9 _,aL.refl _,t1,rfl,[],rfl,DM,λ_ z=>(by cases z),rfl⟩,?_⟩;rintro k m ys G U ⟨hm,hk,sc,tc,q9,bs,rfl,nd,q4,L⟩;have okc:=ok.ok (λ_=>False) (λ_ z=>z.elim) k U (Kp.same sc);obtain⟨rl,rg⟩:=L.get;rw[Be] at rl;by_cases q0:k<dss.length;refine .inr ⟨okc.1 (by rw[q6];exact q0),by rw[lM,AY];have:lim=1000000:=rfl;omega,λu H' hy=>?_⟩;have w6:ds[k]? = some (.lst dss[k]):=by rw[rd,Ar,Ac q0];rfl
    obtain⟨sm,z4,rv⟩:=okc.2.2 u H' hy (v.sub (.lst dss[k])) (by unfold items;rw[Ar,w6];rfl);have rv:Rep X.K H' (λ_=>False) (.lst dss[k]) u:=by
     have e:(v.sub (.lst dss[k])).d=.lst dss[k]:=by unfold Vl.sub Vl.cl;split <;> rfl
     rw[e] at rv;exact rv.weak λ_ z=>z.elim
    have t2:=z4 tc;have es:G.set 0 (some u)=[some u]:=by
     cases G with
     | nil=>cases q9|cons a r=>cases r with|nil=>rfl|cons _ _=>cases q9
    have z1:∀Q:L2.St->Hp->Prop,Q [some u] H'->gT X.K (.n 0) u G H' Q:=λQ q=>by show Q (G.set 0 (some u)) H';rw[es];exact q
    refine z1 _ ?_;have Sc:∀{H3:Hp},aL H' H3->Tk X.K H3->Sx X.K (λ_=>False) (λ_=>False) (λb=>H3 b≠none) [.sh true (.lst dss[k])] [some u] H3:=λ{H3} Z t3=>qK (ds:=[.lst dss[k]]) (vs:=[u]) (m:=0) (Y:=λ_=>False) (λ_ z=>z.elim) t3 ⟨u,[],rfl,rv.grow Z,rfl⟩;refine⟨_,_,_,_,Sc (aL.refl _) t2,λH3 t3 Z=>?_⟩;dsimp only;rw[if_pos rfl];have nk:noLs dss[k]=true:=rn _ (AM q0);refine⟨_,_,_,_,Sc Z t3,?_⟩;show RE (R.ok (Vl.mk (.lst dss[k]) true ((true&&!noL (.lst dss[k]))&&!noLs dss[k]) (if noLs dss[k] then [] else []))) _;intro u4 H4 t4 w4;have hf:=w4.2;rw[if_pos rfl] at hf;obtain⟨c,zs,z7,e1,e2,e3,e4,rr⟩:=hf;cases e2;subst e1;have s4:aL U H4:=sm.trans (Z.trans w4.1);have q8:U c=none:=sm.free (Z.free e3);refine⟨_,by omega,rfl,q0,sc.trans s4,t4,rfl,bs++[c],by simp,?_,?_,?_⟩;rw[Da];refine⟨nd,by simp,λa ha b hb=>?_⟩;have:b=c:=by simpa using hb
    subst this;intro z;subst z;obtain⟨xs,q⟩:=L.at a ha;rw[q8] at q;cases q;intro b hb;rcases C1.mp hb with z|z;exact q4 b z;have:b=c:=by simpa using z
    rw[this];exact sc.free q8;refine Rws.of (by rw[Be,lA,Cv];omega) λj es b g1 g2=>?_;by_cases hj:j<bs.length;rw[A0 hj] at g2;rw[CM,if_pos (by omega)] at g1;obtain⟨xs,q1,q2,q3⟩:=rg j es b (by rw[CM,if_pos (by omega)];exact g1) g2;exact⟨xs,s4 _ _ q1,q2,q3.grow s4⟩;rw[A3 (by omega)] at g2;have w7:j-bs.length=0:=by have:=(Ai.mp g2).1;simp at this;omega
    rw[w7] at g2;cases g2;have w8:j=k:=by omega
    subst w8;rw[CM,if_pos (B3 j),Ac q0] at g1;cases g1;exact⟨zs,e4,nk,rr.weak λ_ z=>z.elim⟩;have w9:k=dss.length:=by omega
    subst w9;rw[CD] at L rg;refine .inl ⟨okc.2.1 (by rw[q6];exact An _),by rw[lM,AY];have:lim=1000000:=rfl;omega,λa ha=>?_⟩;intro t';have s2:aL H U:=s1.trans sc;have z0:∀d,d≠a->upd U a (.lst (bs.map V.ref)) d=U d:=λd z=>aJ z;have z2:∀d∈bs,d≠a:=λd hd z=>by obtain⟨xs,q⟩:=L.at d hd;rw[z,ha] at q;cases q
    have Z:aL U (upd U a (.lst (bs.map V.ref))):=λd o eo=>by rw[z0 d (λz=>by rw[z,ha] at eo;cases eo)];exact eo
    have S2:=S.put2 (N:=λd=>d=a\/d∈bs) (i:=i) (dss:=dss) (a:=a) (bs:=bs) z3 t' (λd z=>by
     rcases z with z|z;subst z;exact⟨s2.free ha,_,aP⟩;obtain⟨xs,q⟩:=L.at d z;exact⟨s1.free (q4 d z),xs,Z _ _ q⟩) (λd o eo _=>Z _ _ (s2 _ _ eo)) (λd xs q _=>⟨xs,Z _ _ (s2 _ _ q)⟩) (λd hd=>.inl ((Ax.mp hd).imp id id)) (Az.mpr ⟨λhm=>z2 a hm rfl,nd⟩) aP (L.imp (λ_ _ q=>aL.seqT Z q) λd _ xs q=>Z _ _ q)
    refine h _ _ _ (Kp.same (s2.trans Z)) (λd z=>z.imp id λz=>?_) S2;rcases z with z|z;rw[z];exact s2.free ha;exact s1.free (q4 d z);exact h.elim
 | _=>rw[hd] at h;exact h.elim
theorem yW{α:Type}:∀{l:List α} {i j:Nat} {a:α},l.Nodup->l[i]? = some a->l[j]? = some a->i=j
 | [],i,_,_,_,e,_=>by simp at e|x::l,0,0,_,_,_,_=>rfl|x::l,0,j+1,a,n,B,G=>by
  rw[Az] at n;have B:x=a:=by simpa using B
  exact(n.1 (by rw[B];exact mG (i:=j) (by simpa using G))).elim
 | x::l,i+1,0,a,n,B,G=>by
  rw[Az] at n;have G:x=a:=by simpa using G
  exact(n.1 (by rw[G];exact mG (i:=i) (by simpa using B))).elim
 | x::l,i+1,j+1,a,n,B,G=>by rw[Az] at n;exact congrArg (·+1) (yW (a:=a) n.2 (by simpa using B) (by simpa using G))
theorem tR{α:Type}{b:α}:∀{l:List α} (q:Nat),l.Nodup->b∉l->(l.set q b).Nodup
 | [],_,h,_=>h|x::l,0,h,hb=>by rw[Az] at h;exact Az.mpr ⟨λz=>hb (Ag _ z),h.2⟩|x::l,q+1,h,hb=>by rw[Az] at h;refine Az.mpr ⟨λz=>?_,tR q h.2 λz=>hb (Ag _ z)⟩;grind
theorem aLh{i:Nat}{ck c:E}{x:Str}{p p2:Du}{ix v:A6}(M:Mc X P Γ n)(hx:bK Γ i x=true)(hk:PE X ix (WE X P n RT Y J σ ck))(he:PE X v (WE X P n RT Y J σ c))(q3:aQ ix=true) :
 PS X (.Assign [.Subscript (.Name x p) ix p2] v pos) (wS X RT Y J σ (ex P (call P n) σ (.put2 i ck c))):=by
 refine cI (zW he (aEd (dI M hx) hk xL (by intro _;cases ix <;> first|rfl|cases q3)) (by cases v <;> rfl) (by cases v <;> rfl)) λD σV H t ⟨S,h⟩=>?_;refine wE.one S (OE.from (h)) λv u H1 G t1 S1 r1=>?_;obtain⟨kv,ek,G⟩:=(OE.from G).eq;split at G;rename_i dss k ds e1 e2 e3 e4;split at G;rename_i q hq hn;obtain⟨a,bs,b,xs,g1,L,g3,g4,g5,g6,g7⟩:=vJ S e1 hq;obtain⟨a',q2,Z,q1,g8,g9,q0⟩:=S.dx.at2 i dss e1;rw[g1] at Z;cases Z;rw[L] at q1;have eb:bs=q2:=by
  have:=Ao q1;injection this with this
  have:=congrArg (KY λv:V=>match v with|.ref a=>a|_=>0) this;rw[A7,A7] at this;have f:((λv:V=>match v with|.ref a=>a|_=>0)∘V.ref)=id:=by funext a;rfl
  rw[f,EQ,EQ] at this;exact this
 subst eb;obtain⟨gl,gr⟩:=q0.get;refine⟨.ref a,g1,S1,?_⟩;rw[ek];intro uk H2 t2 r2;have rf:=r1.2;rw[if_pos e3] at rf;obtain⟨I,ys,ds',rfl,f1,f2,f3,f4⟩:=rf;rw[e4] at f1;cases f1;have s2:=r1.1.trans r2.1;have q5:=vI hq;refine⟨a,bs.map V.ref,k,q,rfl,(r2.rv S1).int e2,s2 _ _ L,by rw[lM,<-gl,<-mW];exact hq,λt'=>?_⟩;have na:I≠a:=λz=>by rw[z,L] at f2;cases f2
 have q4:I∉bs:=λz=>by obtain⟨zs,w⟩:=q0.at I z;rw[w] at f2;cases f2
 rw[Az] at g9;have es:(bs.map V.ref).set q (.ref I)=(bs.set q I).map V.ref:=by rw[F8]
 rw[es] at t' ⊢;have S':=S.put2 (N:=λd=>d=I) (dss:=dss.set q ds) (λj dd ej=>S.dx.one j i dd dss ej e1) t' (λd z=>by rw[z];exact⟨f2,ys,by rw[aJ na];exact r2.1 _ _ f3⟩)
  (λd o B z=>by
   rw[aJ λw=>z ⟨by rw[w];exact g8 a Am,by rw[w,L] at B;exact⟨_,(Ao B).symm⟩⟩];exact s2 _ _ B)
  (λd zs B z=>by
   by_cases w:d=a;rw[w];exact⟨_,aP⟩;rw[aJ w];exact⟨zs,s2 _ _ B⟩)
  (λd hd=>by
   grind)
  (by
   rw[Az];refine⟨λz=>?_,?_⟩;rcases Cz z with w|w;exact g9.1 w;exact na w.symm;exact tR q g9.2 q4) aP ?_
 refine(G) (λd=>RT d\/d=I) _ _ (λd o B nn=>?_) (λd z=>z.imp id λz=>by rw[z];exact f2) ?_;rw[aJ λw=>nn (by rw[w];exact(g8 a Am).1)];exact s2 _ _ B;have:σV.set i (some (.ref a))=σV:=by apply Dd;intro j;by_cases hj:i=j;subst hj;rw[Ay (Ai.mp g1).1,g1];rw[Af hj]
 rw[this] at S';exact S';refine Rws.of (by rw[A1,A1];exact gl) λm es cc e5 U=>?_;by_cases w:q=m;subst w;rw[Ay (by omega)] at e5 U;cases e5;cases U;exact⟨ys,by rw[aJ na];exact r2.1 _ _ f3,hn,Reps.free _ _ hn (Reps.noT (λ_ _ z=>Kp.seqT (λd o q' n'=>by rw[aJ n'];exact r2.1 _ _ q') (λd z=>.inl ⟨bs.map V.ref,by rw[z];exact r1.1 _ _ L⟩) z) _ _ hn f4)⟩;rw[Af w] at e5 U;obtain⟨zs,k1,k2,k3⟩:=gr m es cc e5 U;exact⟨zs,by rw[aJ (λz=>g9.1 (by rw[<-z];exact mG U))];exact s2 _ _ k1,k2,Reps.noT (λ_ _ z=>Kp.seqT (λd o q' n'=>by rw[aJ n'];exact s2 _ _ q') (λd z=>.inl ⟨bs.map V.ref,by rw[z];exact L⟩) z) _ _ k2 k3⟩;exact G.elim;exact G.elim
theorem qL:∀{ds:List D} (m:Nat),noLs ds=true->noLs (ds.eraseIdx m)=true
 | [],_,h=>h|d::ds,0,h=>by simp only[noLs,bA] at h;exact h.2|d::ds,m+1,h=>by simp only[noLs,bA,List.eraseIdx_cons_succ] at h ⊢;exact⟨h.1,qL m h.2⟩
theorem aLi{i:Nat}{ck c:E}{x:Str}{p p1 ap cp:Du}{ix a:A6}(M:Mc X P Γ n)(hx:bK Γ i x=true)(hk:PE X ix (WE X P n RT Y J σ ck))(q3:aQ ix=true)(ha:PE X a (WE X P n RT Y J σ c))(hp:aQ a=true)(hl:(ap.endLine==cp.line)=true) :
 PS X (.Expr (.Call (.Attribute (.Subscript (.Name x p) ix p1) "remove" ap) [a] [] cp) pos) (wS X RT Y J σ (ex P (call P n) σ (.rem2 i ck c))):=by
 refine cI (lE (aBv CH Fa PySem.F.type_list_remove (aOl M.units) (xK lI (dI M hx) hk (fC q3)) (cZ ha eP (aC hp)) rfl (by rw[aC hp];rfl) hl (aC hp) rfl)) λD σV H t ⟨S,h⟩=>?_;have h:=OE.from (show OE X.K RT Y J H (O.from σ (ev P (call P n) σ ck) λkv=>O.from σ (ev P (call P n) σ c) λv=>(match σ[i]?,kv.d with
  | some (.own2 dss),.int k=>(match ixN dss.length k with
   | some q=>(match oC v.d (dss.getD q []) with
    | some ds=>.next (σ.set i (.own2 (dss.set q ds)))|none=>.bad)
   | none=>.bad)
  | _,_=>.bad)) D from h)
 obtain⟨kv,ek,h⟩:=h.eq;obtain⟨v,ev,h⟩:=(OE.from h).eq;split at h;rename_i dss k e1 e2;split at h;rename_i q hq;split at h;rename_i ds hr;obtain⟨G,bs,b,xs,g1,g2,g3,g4,g5,g6,g7⟩:=vJ S e1 hq;obtain⟨a',q1,I,L,g8,g9,q2⟩:=S.dx.at2 i dss e1;rw[g1] at I;cases I;rw[g2] at L;have eb:bs=q1:=by
  have:=Ao L;injection this with this
  have:=congrArg (KY λv:V=>match v with|.ref a=>a|_=>0) this;rw[A7,A7] at this;have f:((λv:V=>match v with|.ref a=>a|_=>0)∘V.ref)=id:=by funext a;rfl
  rw[f,EQ,EQ] at this;exact this
 subst eb;obtain⟨gl,gr⟩:=q2.get;rw[Az] at g9;refine⟨.ref G,g1,S,?_⟩;rw[ek];intro uk H1 t1 Z;have S1:=S.grow Z.1 t1;refine⟨G,bs.map V.ref,k,.ref b,rfl,(Z.rv S).int e2,SqL.of (Z.1 _ _ g2),g4,.inl ⟨rfl,xs,SqL.of (Z.1 _ _ g5)⟩,S1,?_⟩;rw[ev];intro u H2 t2 r2;have s2:=Z.1.trans r2.1;have pb:Pt RT J σ σV b:=g8 b (Ag _ (mG g3));have q5:b≠G:=λz=>g9.1 (by rw[<-z];exact mG g3);refine⟨b,xs,u,dss.getD q [],v.d,ds,_,_,rfl,rfl,s2 _ _ g5,g7.grow s2,r2.rv S1,hr,λm hm t'=>?_⟩;have q4:Kp (λd=>d=b) H (upd H2 b (.lst (xs.eraseIdx m))):=λd o B n'=>by rw[aJ n'];exact s2 _ _ B
 have q0:∀d ks,SqT X.K H d ks->SqT X.K (upd H2 b (.lst (xs.eraseIdx m))) d ks:=λd ks z=>q4.seqT (λd z=>.inl ⟨xs,by rw[z];exact g5⟩) z;have U:noLs ds=true:=by rw[hm];exact qL m g6
 have S':=S.put2 (N:=λ_=>False) (H':=upd H2 b (.lst (xs.eraseIdx m))) (i:=i) (dss:=dss.set q ds) (a:=G) (bs:=bs) (λj dd ej=>S.dx.one j i dd dss ej e1) t' (λd z=>z.elim)
  (λd o B z=>by
   rw[aJ λw=>z ⟨by rw[w];exact pb,by rw[w,g5] at B;exact⟨_,(Ao B).symm⟩⟩];exact s2 _ _ B)
  (λd zs B z=>by
   by_cases w:d=b;rw[w];exact⟨_,aP⟩;rw[aJ w];exact⟨zs,s2 _ _ B⟩)
  (λd hd=>.inr (g8 d hd)) (Az.mpr g9) (by rw[aJ (Dj q5)];exact s2 _ _ g2)
  (Rws.of (by rw[A1];exact gl) λm' es cc e5 e6=>by
   by_cases w:q=m';subst w;rw[Ay (vI hq)] at e5;cases e5;rw[g3] at e6;cases e6;exact⟨_,aP,U,by rw[hm];exact Reps.noT q0 _ _ (by rw[<-hm];exact U) (g7.eraseIdx m)⟩;rw[Af w] at e5;obtain⟨zs,k1,k2,k3⟩:=gr m' es cc e5 e6;have q6:cc≠b:=λz=>w (yW g9.2 g3 (by rw[<-z];exact e6));exact⟨zs,by rw[aJ q6];exact s2 _ _ k1,k2,Reps.noT q0 _ _ k2 k3⟩)
 refine(show gP X.K RT Y J H (σ.set i (.own2 (dss.set q ds))) D.nx from h) (λd=>RT d\/False) _ _ (λd o B nn=>?_) (λd z=>z.imp id λz=>z.elim) ?_;rw[aJ λw=>nn (by rw[w];exact pb.1)];exact s2 _ _ B;have:σV.set i (some (.ref G))=σV:=by apply Dd;intro j;by_cases hj:i=j;subst hj;rw[Ay (Ai.mp g1).1,g1];rw[Af hj]
 rw[this] at S';exact S';exact h.elim;exact h.elim;exact h.elim
end
section
variable {P:Pg} {n:Nat} {Y J:Addr->Prop}
theorem aFz(h:pG Γ (.t is) tg=true):∃es k p,tg=.Tuple es k p:=by
 cases tg with
 | Tuple es k p=>exact⟨es,k,p,rfl⟩|_=>cases h
theorem aDC(h:pG Γ (.n i) tg=true):∃x p,tg=.Name x p/\bR Γ i x=true:=by
 cases tg with
 | Name x p=>exact⟨x,p,rfl,h⟩|_=>cases h
theorem aDD(h:aR Γ c e=true)(B:pI e=true):∃k caps t it cond elt,c=.comp k caps t it cond elt:=by
 cases c with
 | comp k caps t it cond elt=>exact⟨k,caps,t,it,cond,elt,rfl⟩|c d=>rcases(Cf _ _).mp (h) with h|h;obtain⟨_,⟨_,_,rfl⟩,_⟩:=aD h;cases B;obtain⟨_,⟨_,rfl⟩,_⟩:=aD h;cases B
 | v i=>obtain⟨_,⟨_,rfl⟩,_⟩:=aD h;cases B|op o a b=>obtain⟨_,⟨_,rfl⟩,_⟩:=aD h;cases B|neg a=>obtain⟨_,⟨_,rfl⟩,_⟩:=aD h;cases B|nt a=>obtain⟨_,⟨_,rfl⟩,_⟩:=aD h;cases B|an a b=>obtain⟨_,rfl,_⟩:=aD h;cases B|orr a b=>obtain⟨_,rfl,_⟩:=aD h;cases B|ife t a b=>obtain⟨_,⟨_,rfl⟩,_⟩:=aD h;cases B|cmp o a b=>obtain⟨_,⟨_,rfl⟩,_⟩:=aD h;cases B|srt a=>obtain⟨_,⟨_,_,rfl⟩,_⟩:=aD h;cases B|fld j f=>obtain⟨_,⟨_,_,rfl⟩,_⟩:=aD h;cases B|mcl j m es=>obtain⟨_,⟨_,_,rfl,_⟩,_⟩:=aD h;cases B|mk j es=>obtain⟨_,⟨_,_,rfl⟩,_⟩:=aD h;cases B|dgl o k=>obtain⟨_,⟨_,_,rfl,_⟩,_⟩:=aD h;cases B|grp j=>cases h|in2 o a j k=>obtain⟨_,⟨_,rfl⟩,_⟩:=aD h;cases B|add2 j k e=>obtain⟨_,⟨_,rfl⟩,_⟩:=aD h;cases B|sset a=>obtain⟨_,⟨_,_,rfl⟩,_⟩:=aD h;cases B|cmp2 G I a b c=>obtain⟨_,⟨_,rfl⟩,_⟩:=aD h;cases B|idx a b=>obtain⟨_,⟨_,rfl⟩,_⟩:=aD h;cases B|sli a lo hi=>obtain⟨_,⟨_,rfl⟩,_⟩:=aD h;cases B|tup es=>obtain⟨_,⟨_,_,rfl⟩,_⟩:=aD h;cases B|lst es=>obtain⟨_,⟨_,rfl⟩,_⟩:=aD h;cases B|call f es=>obtain⟨_,⟨_,_,rfl⟩,_⟩:=aD h;cases B|bi b es=>obtain⟨_,⟨_,_,rfl⟩,_⟩:=aD h;cases B|isi a cs=>obtain⟨_,⟨_,_,rfl⟩,_⟩:=aD h;cases B
theorem m1{f:A6->Bool}(h:(match xV Γ i m c with|some [a]=>f a|_=>false)=true):∃a,xV Γ i m c=some [a]/\f a=true:=by split at h;rename_i a q;exact⟨a,q,h⟩;cases h
abbrev QS(P:Pg)(n:Nat)(Y J:Addr->Prop)(c:S):Prop:=∀{X:Cx} {Γ:Ct},Mc X P Γ n->∀{st:BY},eV Γ c st=true->∀(RT:Addr->Prop) (σ:Sg),PS X st (wS X RT Y J σ (ex P (call P n) σ c))
abbrev QSs(P:Pg)(n:Nat)(Y J:Addr->Prop)(c:Ss):Prop:=∀{X:Cx} {Γ:Ct},Mc X P Γ n->∀{st:List BY},chkSs Γ c st=true->∀(RT:Addr->Prop) (σ:Sg),PSs X st (wS X RT Y J σ (exs P (call P n) σ c))
theorem aOm:QS P n Y J (.set t e):=λ{X Γ} M {st} h RT σ=>by
 unfold eV at h;obtain⟨⟨tg,v⟩,⟨p,rfl⟩,g⟩:=aD h;clear h;obtain⟨U,G,h3⟩:=eG g;clear g;cases t with
 | n i=>
  obtain⟨x,p,L,hx⟩:=aDC U;subst L;cases hc:pI v with
  | false=>exact aLd M hx (sE e M G RT Y J σ) hc|true=>obtain⟨k,caps,t,it,cond,elt,rfl⟩:=aDD G hc;obtain⟨el,tg,q0,q1,scope,Z,e2,O,g1,g2,g3,g4,g5⟩:=vM G;subst e2;refine aDA M hx (O.scope M) O.ndc O.tk (sI it M g3 RT Y J σ) (λC s₀ H₀ ex=>?_) (iZ (gO g3));have I:=O.mc M C s₀ H₀ ex;exact⟨aDs I g2,λRT Y J B=>sTs cond I g1 g4 RT Y J B,λRT Y J B=>sE elt I g5 RT Y J B⟩
 | t is=>obtain⟨es,k,p,L⟩:=aFz U;subst L;refine aLe M U (sE e M G RT Y J σ) ?_;have:(false||!pJ v)=true:=h3;simpa using this
theorem aOn:QS P n Y J (.mov i j):=λ{X Γ} M {st} h RT σ=>by unfold eV at h;obtain⟨⟨tg,v⟩,⟨p,rfl⟩,g⟩:=aD h;clear h;obtain⟨x,⟨U,B⟩,g⟩:=aD g;obtain⟨y,⟨Z,G⟩,g⟩:=aD g;subst B G;obtain⟨I,L⟩:=cV g;exact aOh M I L
theorem aLj:QS P n Y J (.dnew i):=λ{X Γ} M {st} h RT σ=>by unfold eV at h;obtain⟨⟨tg,v⟩,⟨p,rfl⟩,g⟩:=aD h;clear h;obtain⟨x,⟨U,B⟩,g⟩:=aD g;subst B;obtain⟨I,L⟩:=cV g;obtain⟨_,⟨Z,G⟩,_⟩:=aD L;subst G;exact aLf M I
theorem aHW:QS P n Y J (.setIx i k e):=λ{X Γ} M {st} h RT σ=>by unfold eV at h;obtain⟨⟨tg,v⟩,⟨p,rfl⟩,g⟩:=aD h;clear h;obtain⟨⟨o,ix⟩,⟨Z,G⟩,g⟩:=aD g;obtain⟨x,⟨p2,I⟩,g⟩:=aD g;subst G I;obtain⟨L,B,U⟩:=eG g;exact aHV M L (sE k M B RT Y J σ) (sE e M U RT Y J σ) (aO B)
theorem aOo:QS P n Y J (.app i e):=λ{X Γ} M {st} h RT σ=>by unfold eV at h;obtain⟨c,⟨p,rfl⟩,g⟩:=aD h;obtain⟨a,G,B⟩:=m1 g;exact aOf M G (sE e M B RT Y J σ) (aO B)
theorem aOp:QS P n Y J (.ext i e):=λ{X Γ} M {st} h RT σ=>by unfold eV at h;obtain⟨c,⟨p,rfl⟩,g⟩:=aD h;obtain⟨a,G,B⟩:=m1 g;exact aOg M G (sE e M B RT Y J σ) (aO B)
theorem aOq:QS P n Y J (.ret e):=λ{X Γ} M {st} h RT σ=>by unfold eV at h;obtain⟨r,⟨p,rfl⟩,g⟩:=aD h;clear h;obtain⟨v,B,g⟩:=aBH g;subst B;exact aOe (sE e M g RT Y J σ)
theorem aLk:QS P n Y J (.retv i):=λ{X Γ} M {st} h RT σ=>by unfold eV at h;obtain⟨r,⟨p,rfl⟩,g⟩:=aD h;clear h;obtain⟨v,B,g⟩:=aBH g;subst B;obtain⟨x,⟨I,G⟩,g⟩:=aD g;subst G;exact aLc M g
theorem aLl:QS P n Y J .retN:=λ{X Γ} M {st} h RT σ=>by
 unfold eV at h;obtain⟨r,⟨p,rfl⟩,g⟩:=aD h;cases r with
 | none=>exact aLb|some _=>cases g
theorem aOr(L:QSs P n Y J a)(U:QSs P n Y J b):QS P n Y J (.iff c a b):=λ{X Γ} M {st} h RT σ=>by unfold eV at h;obtain⟨⟨t,x,y⟩,⟨p,rfl⟩,g⟩:=aD h;obtain⟨B,G,I⟩:=eG g;exact aQl (sT c M B RT Y J σ) (L M G) (U M I)
theorem aOs(U:QSs P n Y J b):QS P n Y J (.for t it b):=λ{X Γ} M {st} h RT σ=>by unfold eV at h;obtain⟨⟨tg,G,body⟩,⟨p,rfl⟩,g⟩:=aD h;obtain⟨I,B,L⟩:=eG g;exact aOi M I (sI it M B RT Y J σ) (U M L) (iZ (gO B))
theorem aOt:QS P n Y J .brk:=λ{X Γ} M {st} h RT σ=>by unfold eV at h;obtain⟨_,⟨p,rfl⟩,_⟩:=aD h;exact aOb
theorem aOu:QS P n Y J .cnt:=λ{X Γ} M {st} h RT σ=>by unfold eV at h;obtain⟨_,⟨p,rfl⟩,_⟩:=aD h;exact aOc
theorem aLm:QS P n Y J .pass:=λ{X Γ} M {st} h RT σ=>by unfold eV at h;obtain⟨_,⟨p,rfl⟩,_⟩:=aD h;exact aLa
theorem aQm:QS P n Y J (.ex e):=λ{X Γ} M {st} h RT σ=>by unfold eV at h;obtain⟨v,⟨p,rfl⟩,g⟩:=aD h;obtain⟨B,G⟩:=cV g;exact aQk (sE e M B RT Y J σ) (by simpa using G)
theorem aOv:QS P n Y J (.rse c k es):=by intro X Γ M st h RT σ;exact aOd
theorem aJi(z:∀Γ st,eV Γ c st=false):QS P n Y J c:=by grind
theorem aLn:QS P n Y J (.set2 i y):=λ{X Γ} M {st} h RT σ=>by unfold eV at h;obtain⟨⟨tg,v⟩,⟨p,rfl⟩,g⟩:=aD h;obtain⟨x,⟨p1,Z⟩,g⟩:=aD g;subst Z;obtain⟨hx,h2⟩:=cV g;obtain⟨el,tg,U,q0,scope,I,e2,O,g1,g2,L,g4,g5⟩:=vM h2;subst e2;refine aLg M hx (O.scope M) (sI (.seq (.v y)) M L RT Y J σ) (λC s₀ H₀ ex=>?_) (iZ (gO L));have G:=O.mc M C s₀ H₀ ex;exact⟨aDs G g2,λRT Y J B=>sTs .nil G g1 g4 RT Y J B,λRT Y J B=>sE _ G g5 RT Y J B⟩
theorem aLo:QS P n Y J (.put2 i k e):=λ{X Γ} M {st} h RT σ=>by unfold eV at h;obtain⟨⟨tg,v⟩,⟨p,rfl⟩,g⟩:=aD h;clear h;obtain⟨⟨o,ix⟩,⟨p1,G⟩,g⟩:=aD g;subst G;obtain⟨x,⟨p2,I⟩,g⟩:=aD g;subst I;obtain⟨L,B,U,Z⟩:=vK g;exact aLh M L (sE k M B RT Y J σ) (sE e M U RT Y J σ) (aO B)
theorem aLp:QS P n Y J (.rem2 i k e):=λ{X Γ} M {st} h RT σ=>by
 unfold eV at h;obtain⟨c,⟨p,rfl⟩,g⟩:=aD h;clear h;obtain⟨⟨o,m,xs,l⟩,⟨ap,cp,Z,hl⟩,w⟩:=aD g;clear g;subst Z;obtain⟨G,h2,B,U⟩:=vK w;clear w;have G:=eq_of_beq G;subst G;rcases xs with _|⟨a,_|⟨_,_⟩⟩
 cases B;obtain⟨⟨b,ix⟩,⟨p1,e1⟩,w⟩:=aD U;clear U;subst e1;obtain⟨I,L⟩:=cV w;clear w;obtain⟨x,⟨p2,e2⟩,g3⟩:=aD I;clear I;subst e2;exact aLi M g3 (sE k M L RT Y J σ) (aO L) (sE e M B RT Y J σ) (aO B) (hl.trans h2);cases B
theorem aOw:QSs P n Y J .nil:=λ{X Γ} M {st} h RT σ=>by
 cases st with
 | nil=>exact aOa|cons _ _=>exact nf h
theorem aLq(I:QS P n Y J c)(hs:QSs P n Y J cs):QSs P n Y J (.cons c cs):=λ{X Γ} M {st} h RT σ=>by
 cases st with
 | nil=>exact nf h|cons x xs=>obtain⟨B,G⟩:=cV h;exact aKZ (I M B) (hs M G)
mutual
theorem sS:(c:S)->QS P n Y J c
 | .set _ _=>aOm|.mov _ _=>aOn|.setIx _ _ _=>aHW|.dnew _=>aLj|.app _ _=>aOo|.ext _ _=>aOp|.ret _=>aOq|.retv _=>aLk|.retN=>aLl|.iff _ a b=>aOr (sSs a) (sSs b)|.for _ _ b=>aOs (sSs b)|.brk=>aOt|.cnt=>aOu|.pass=>aLm|.ex _=>aQm|.rse _ _ _=>aOv|.set2 _ _=>aLn|.put2 _ _ _=>aLo|.rem2 _ _ _=>aLp|.sfl _ _=>aJi λ_ _=>rfl|.ini=>aJi λ_ _=>rfl
theorem sSs:(c:Ss)->QSs P n Y J c
 | .nil=>aOw|.cons c cs=>aLq (sS c) (sSs cs)
end
end
structure Tx where
 x:Str
 qual:Str
 st:BY
 N:List Str
noncomputable def aJj:Ss->Bool
 | .cons (.ret (.grp 0)) .nil=>true|_=>false
noncomputable def aLr:Ss->Bool
 | .cons (.sfl _ _) _=>true|.cons .ini _=>true|_=>false
noncomputable def tS(Γ:Ct)(F:Fn)(t:Tx):Bool:=
 t.N.length==F.ns&&decide (F.np<=F.ns)&&decide t.N.Nodup&&(bC t.st).kind==.function&&!(bC t.st).isCoroutine&&!(bC t.st).isGenerator &&
 ((t.N.take F.np).all λx=>(bC t.st).names.lookup x==some .local||(bC t.st).names.lookup x==some .cell)&&((bC t.st).names.all λp=>p.2 != .free) &&
 (chkSs { Γ with N:=t.N,sc:=(bC t.st).names,fn:=true } F.body (defBody t.st)||(aJj F.body&&decide (F.np=1)&&decide (F.ns=4)&&aEF { Γ with N:=t.N,sc:=(bC t.st).names,fn:=true } (defBody t.st))||mU { Γ with N:=t.N,sc:=(bC t.st).names,fn:=true } F.body (defBody t.st))
noncomputable def nE(Γ:Ct):List Fn->List Tx->Bool
 | [],[]=>true|F::Fs,t::ts=>tS Γ F t&&nE Γ Fs ts|_,_=>false
theorem gR:∀{B:List Fn} {ts:List Tx},nE Γ B ts=true->∀{f:Nat} {t:Tx},ts[f]? = some t->∃F,B[f]? = some F/\tS Γ F t=true
 | [],[],_,_,_,e=>by simp at e|[],_::_,h,_,_,_=>by cases h|_::_,[],h,_,_,_=>by cases h|F::B,t::ts,h,0,t',e=>by
  obtain⟨G,I⟩:=cV (h);have M:t=t':=by simpa using e
  subst M;exact⟨F,rfl,G⟩
 | F::B,t::ts,h,f+1,t',e=>by obtain⟨G,I⟩:=cV (h);obtain⟨L,U,Z⟩:=gR I (by simpa using e);exact⟨L,by simpa using U,Z⟩
section
variable {prog:A2} {w:AL} {K:Fg} {mg:Str->Option Value} {base:Heap} {P:Pg} {Γ:Ct} {txs:List Tx}
structure Top (prog:A2) (w:AL) (K:Fg) (mg:Str->Option Value) (P:Pg) (Γ:Ct) (txs:List Tx):Prop where
 fn:∀(f:Nat) (t:Tx),txs[f]? = some t->Γ.fns[f]? = some t.x->∃fa fd,mg t.x=some (.ref fa)/\Fun K t.x t.qual t.st fa fd/\∀F,P.fns[f]? = some F->dM K fd (t.N.take F.np) []
 fns:∀(f:Nat) (x:Str),Γ.fns[f]? = some x->∃t,txs[f]? = some t/\t.x=x
 blt:∀x∈bltNames,mg x=none
 cns:∀(x:Str) (d:D),Γ.cns.lookup x=some d->∃u v,mg x=some u/\bB v u/\∀H ex,Rep K H ex d v
 tab:∀(i:Nat) (x:Str),Γ.tbs[i]? = some x->∃a t,mg x=some (.ref a)/\P.tabs[i]? = some t/\sW prog w K a t
 obj:∀(c:Str) (k:List Str×List (Str×Nat)),P.objs.lookup c=some k->∃C,BU K AI c=some (some (.ref C))/\Cls K C/\(∀f,k.1.contains f=true->dZ K C f)/\∀m f,k.2.lookup m=some f->∃t fa fd,txs[f]? = some t/\Fun K t.x t.qual t.st fa fd/\xG K C m fa/\∀F,P.fns[f]? = some F->dM K fd (t.N.take F.np) []
 mkr:∀(j:Nat) (c:Str),Γ.obs[j]? = some c->∃q C fi t fa fd F,P.objs[j]? = some (c,q)/\P.objs.lookup c=some q/\BU K AI c=some (some (.ref C))/\q.2.lookup ("__init__" : Str)=some fi/\mg c=some (.ref C)/\Mk K C fa/\txs[fi]? = some t/\Fun K t.x t.qual t.st fa fd/\P.fns[fi]? = some F/\dM K fd (t.N.take F.np) []/\aLr F.body=true
 chk:nE Γ P.fns txs=true
theorem aCa{k f:Nat}{F:Fn}(hF:P.fns[f]? = some F){vs:List V}{H:Hp}{Q:VK}{E:XK}(h:spF K P (k+1) f vs H Q E):vs.length=F.np:=by obtain⟨ds,Y,_,r,G⟩:=h;obtain⟨x,e,_⟩:=G.eq;have e:mS P (call P k) f ds=.ok x:=e;unfold mS at e;rw[hF] at e;have e:(if ds.length=F.np then _ else R.bad)=R.ok x:=e;split at e;rename_i B;rw[<-r.length];exact B;cases e
structure All (prog:A2) (w:AL) (K:Fg) (mg:Str->Option Value) (base:Heap) (P:Pg) (Γ:Ct) (k:Nat):Prop where
 fn:∀(f:Nat) (x:Str),Γ.fns[f]? = some x->∃fa fd ps,mg x=some (.ref fa)/\CB K (.ref fa)=true/\dM K fd ps []/\eY prog w K mg base CX0 k fa fd ps (spF K P k f)
 obj:∀(c:Str) (q:List Str×List (Str×Nat)),P.objs.lookup c=some q->∃C,BU K AI c=some (some (.ref C))/\Cls K C/\(∀f,q.1.contains f=true->dZ K C f)/\∀m f,q.2.lookup m=some f->∃fa fd ps,xG K C m fa/\dM K fd ps []/\eY prog w K mg base CX0 k fa fd ps (spF K P k f)
 ini:∀(j:Nat) (c:Str),Γ.obs[j]? = some c->∃q C fi fa fd ps,P.objs[j]? = some (c,q)/\BU K AI c=some (some (.ref C))/\q.2.lookup ("__init__" : Str)=some fi/\mg c=some (.ref C)/\Mk K C fa/\dM K fd ps []/\eY prog w K mg base CX0 k fa fd ps (spI K P k fi c)
 mkr:∀(j:Nat) (c:Str),Γ.obs[j]? = some c->∃q C fi fa fd ps,P.objs[j]? = some (c,q)/\BU K AI c=some (some (.ref C))/\q.2.lookup ("__init__" : Str)=some fi/\mg c=some (.ref C)/\Mk K C fa/\dM K fd ps []/\∀n',k=n'+1->eY prog w K mg base CX0 n' fa fd ps (spI K P n' fi c)
theorem Sx.cons0{Y J:Addr->Prop}(S:Sx K (λ_=>False) Y J σ σV H):Sx K (λ_=>False) Y J (.dead::σ) (v::σV) H where
 sh:=λi pa d e=>by
  cases i with
  | zero=>cases e|succ i=>exact S.sh i pa d e
 own:=λi pa ds e=>by
  cases i with
  | zero=>cases e|succ i=>exact S.own i pa ds e
 trk:=S.trk
 yo:=S.yo
 tk:=S.tk
 rt:=S.rt
 inj:=λi j pa pa' ds ds' a B G I L=>by
  cases i with
  | zero=>cases B|succ i=>obtain⟨_,_,_,_,z,_⟩:=S.own i pa ds B;exact z.elim
 len:=congrArg KS S.len
 dx:={
  at':=λi ks e=>by
   cases i with
   | zero=>cases e|succ i=>exact S.dx.at' i ks e
  inj:=λi j ks ks' a B G I L=>by
   cases i with
   | zero=>cases B|succ i=>obtain⟨_,_,_,_,z,_⟩:=S.dx.at' i ks B;exact z.elim
  at2:=λi ds e=>by
   cases i with
   | zero=>cases e|succ i=>obtain⟨a,_,_,_,z,_⟩:=S.dx.at2 i ds e;exact(z a Am).1.elim
  one:=λi j ds ds' B G=>by
   cases i with
   | zero=>cases B|succ i=>obtain⟨a,_,_,_,z,_⟩:=S.dx.at2 i ds B;exact(z a Am).1.elim }
theorem Rep.chg{ex:Addr->Prop}(G:H x=some (.ins C dx fs))(B:ex x):(∀a xs,SqT K H a xs->SqT K (upd H x (.ins C dx fs')) a xs)/\(∀a xs,¬ ex a->SqL K H a xs->¬ ex a/\SqL K (upd H x (.ins C dx fs')) a xs)/\(∀a ks,H a=some (.dK ks)->upd H x (.ins C dx fs') a=some (.dK ks)) /\
 (∀a o,Ox o->¬ ex a->H a=some o->¬ ex a/\upd H x (.ins C dx fs') a=some o):=by
 have kp:∀{a:Addr} {o:HO},H a=some o->a≠x->upd H x (.ins C dx fs') a=some o:=λ{a o} e n=>by rw[aJ n];exact e
 refine⟨λa xs q=>?_,λa xs n q=>⟨n,?_⟩,λa ks q=>kp q λz=>(by rw[z,G] at q;cases q),λa o _ n q=>⟨n,kp q λz=>n (by rw[z];exact B)⟩⟩;rcases q with(q|⟨o,q⟩)|q;exact .inl (.inl (kp q λz=>by rw[z,G] at q;cases q));exact .inl (.inr ⟨o,kp q λz=>by rw[z,G] at q;cases q⟩);exact .inr q;rcases q with(q|⟨o,q⟩)|q;exact .inl (.inl (kp q λz=>n (by rw[z];exact B)));exact .inl (.inr ⟨o,kp q λz=>n (by rw[z];exact B)⟩);exact .inr q
theorem Sx.objx{Y J:Addr->Prop}{σ:Sg}{σV:L2.St}{H:Hp}{x C dx:Addr}{fs B:List (Str×V)}(S:Sx K (λ_=>False) Y J σ σV H)(hy:Y x)(L:H x=some (.ins C dx fs)):Sx K (λ_=>False) Y J σ σV (upd H x (.ins C dx B)) where
 sh:=λi pa d e=>by obtain⟨v,h1,h2⟩:=S.sh i pa d e;obtain⟨M,U,Z,g4⟩:=Rep.chg (ex:=λa=>False\/exB Y J pa a) L (.inr (.inl hy));exact⟨v,h1,Rep.imp M U Z g4 d v h2⟩
 own:=λi pa ds e=>by obtain⟨_,_,_,_,z,_⟩:=S.own i pa ds e;exact z.elim
 trk:=λa h z=>by by_cases G:a=x;rw[G,aP] at z;cases z;rw[aJ G] at z;exact S.trk a h z
 yo:=S.yo
 tk:=λb z=>by by_cases I:b=x;rw[I];exact S.tk x (by rw[L];simp);rw[aJ I] at z;exact S.tk b z
 rt:=λ_ z=>z.elim
 inj:=S.inj
 len:=S.len
 dx:={
  at':=λi ks e=>by obtain⟨_,_,_,_,z,_⟩:=S.dx.at' i ks e;exact z.elim
  inj:=S.dx.inj
  at2:=λi ds e=>by obtain⟨a,_,_,_,z,_⟩:=S.dx.at2 i ds e;exact(z a Am).1.elim
  one:=S.dx.one }
theorem tT{ex:Addr->Prop}(h:Rep K H ex d u):∀{fs:List D} {gs:List (Str×V)},RepF K H ex fs gs->hU f fs=true->RepF K H ex (fs++[.str f,d]) (putF f u gs)
 | [],_,r,_=>by rw[show _=[] from r];exact⟨u,[],rfl,h,rfl⟩|.str g::e::r,_,G,B=>by obtain⟨x,M,rfl,I,L⟩:=G;simp only[hU,bA,bne_iff_ne] at B;refine⟨x,putF f u M,?_,I,tT h L B.2⟩;show(if g=f then _ else _)=_;rw[if_neg B.1]|[.str _],_,h,_=>h.elim|.non::_,_,h,_=>h.elim|.bl _::_,_,h,_=>h.elim|.int _::_,_,h,_=>h.elim|.tup _::_,_,h,_=>h.elim|.lst _::_,_,h,_=>h.elim|.err _ _::_,_,h,_=>h.elim
theorem yX(f:Str)(u:V):∀gs:List (Str×V),(putF f u gs).length<=gs.length+1
 | []=>An _|(g,x)::r=>by show(if g=f then _ else _:List (Str×V)).length<=_;split;exact Ec _;exact Fl (yX f u r)
noncomputable def aQn(X:Cx)(P:Pg)(n:Nat)(Y J:Addr->Prop)(c:Str)(C x:Addr)(cs:Ss):TS:=λZ σV H=>∃(σ:Sg) (p:Bool) (fs:List D) (gs:List (Str×V)) (dx:Addr) (v:Vl),σ[(0:Nat)]? = some (.sh p (.err 0 (.int 0::.str c::fs)))/\σV[(0:Nat)]? = some (some (.ref x))/\H x=some (.ins C dx gs)/\RepF X.K H Y fs gs/\gs.length<=fs.length /\
 Sx X.K (λ_=>False) Y J (σ.set 0 .dead) σV H/\exs P (call P n) σ cs=.ret v/\∀σV' H',Tk X.K H'->(∀a o,H a=some o->a≠x->H' a=some o)->Rep X.K H' (λb=>Y b/\b≠x) v.d (.ref x)->Z.nx σV' H'
theorem aCb{X:Cx}{Y J:Addr->Prop}{q:List Str×List (Str×Nat)}(M:Mc X P Γ n)(hy:Y x)(hq:P.objs.lookup c=some q)(hn:BU X.K AI c=some (some (.ref C)))(Z:Cls X.K C)(q0:∀f,q.1.contains f=true->dZ X.K C f) :
 ∀(cs:Ss) (st:List BY),mU Γ cs st=true->PSs X st (aQn X P n Y J c C x cs)
 | .cons (.sfl f e) ss,s::st,h=>by
  obtain⟨h1,h2⟩:=cV (h);obtain⟨⟨tg,val⟩,⟨p,rfl⟩,g⟩:=aD h1;obtain⟨⟨xn,G⟩,⟨p1,p2,e1⟩,g⟩:=aD g;subst e1;obtain⟨k1,k2,k3,k4⟩:=vK g;have k2:=eq_of_beq k2;subst k2;refine gQ (lD (aJR (dI M k1) (tv:=λσV H Q=>∃σ',WE X P n (λ_=>False) Y J σ' e σV H Q) (λpins s σV H Q I ⟨σ',hw⟩=>sE e M k3 (λ_=>False) Y J σ' pins s σV H Q I hw) (by cases val <;> rfl)) (aCb (J:=J) M hy hq hn Z q0 ss st h2)) λD σV H tk hw=>?_;obtain⟨σ,p,fs,gs,dx,v,g1,g2,g3,g4,g5,S,B,g7⟩:=hw;have B:(O.from σ (ev P (call P n) (σ.set 0 .dead) e) λv=>match σ[(0:Nat)]? with
   | some (.sh _ (.err 0 (.int 0::.str c::fs)))=>(match P.objs.lookup c with
    | some k=>if k.1.contains G&&v.al.isEmpty&&decide (fs.length<1000)&&hU G fs then .next (σ.set 0 (.sh true (.err 0 (.int 0::.str c::(fs++[.str G,v.d]))))) else .bad|none=>.bad)
   | _=>.bad).on (λσ'=>exs P (call P n) σ' ss)=.ret v:=B
  cases he:ev P (call P n) (σ.set 0 .dead) e with
  | exc z=>rw[he] at B;cases B|bad=>rw[he] at B;cases B|ok w=>
   rw[he] at B;have B:(match σ[(0:Nat)]? with
   | some (.sh _ (.err 0 (.int 0::.str c::fs)))=>(match P.objs.lookup c with
    | some k=>if k.1.contains G&&w.al.isEmpty&&decide (fs.length<1000)&&hU G fs then .next (σ.set 0 (.sh true (.err 0 (.int 0::.str c::(fs++[.str G,w.d]))))) else .bad|none=>.bad)
   | _=>.bad:O).on (λσ'=>exs P (call P n) σ' ss)=.ret v:=B
   rw[g1] at B;have B:(match P.objs.lookup c with
    | some k=>if k.1.contains G&&w.al.isEmpty&&decide (fs.length<1000)&&hU G fs then .next (σ.set 0 (.sh true (.err 0 (.int 0::.str c::(fs++[.str G,w.d]))))) else .bad|none=>.bad:O).on (λσ'=>exs P (call P n) σ' ss)=.ret v:=B
   rw[hq] at B;have B:(if q.1.contains G&&w.al.isEmpty&&decide (fs.length<1000)&&hU G fs then .next (σ.set 0 (.sh true (.err 0 (.int 0::.str c::(fs++[.str G,w.d]))))) else .bad:O).on (λσ'=>exs P (call P n) σ' ss)=.ret v:=B;split at B;rename_i hc;obtain⟨c1,c2,c3,c4⟩:=vK hc;have c3:=of_decide_eq_true c3;refine⟨σ.set 0 .dead,S,?_⟩;rw[he];intro u H1 t1 L;have U:=L.1 _ _ g3;obtain⟨i1,i2,i3,i4⟩:=Rep.chg U hy;refine⟨.ref x,g2,x,C,dx,gs,rfl,U,Z,q0 G c1,by omega,?_⟩;have q2:0<σ.length:=by have:=(Ai.mp g1).1;exact this
   refine⟨σ.set 0 (.sh true (.err 0 (.int 0::.str c::(fs++[.str G,w.d])))),true,fs++[.str G,w.d],putF G u gs,dx,v,Ay q2,g2,aP,RepF.imp i1 i2 i3 i4 _ _ (tT (Rep.weak (L.rv S) λa z=>.inr (.inl z)) (RepF.imp (λ_ _ z=>aL.seqT L.1 z) (λ_ _ n z=>⟨n,L.1.seq z⟩) (λ_ _ z=>L.1 _ _ z) (λ_ _ _ n z=>⟨n,L.1 _ _ z⟩) fs gs g4) c4),?_,?_,B,λq1 H' t' kp rr _=>g7 q1 H' t' (λa o e na=>kp a o (by rw[aJ na];exact L.1 a o e) na) rr⟩;have:=yX G u gs;rw[lA];show _<=fs.length+2;omega;rw[List.set_set];exact(S.grow L.1 t1).objx hy U;cases B
 | .cons .ini .nil,[],_=>by
  refine gQ aBn λD σV H tk hw=>?_;obtain⟨σ,p,fs,gs,dx,v,g1,g2,g3,g4,g5,S,B,g7⟩:=hw;have B:(match σ[(0:Nat)]? with
   | some (.sh _ (.err 0 (.int 0::.str c::fs)))=>O.ret ⟨.err 0 (.str c::fs),false,true,[]⟩|_=>.bad).on (λσ'=>.next σ')=.ret v:=B
  rw[g1] at B;cases B;intro t';exact g7 σV H t' (λa o e _=>e) ⟨x,C,dx,gs,rfl,g3,λz=>z.2 rfl,hn,(RepF.imp (λ_ _ z=>z) (λ_ _ n z=>⟨λw=>n w.1,z⟩) (λ_ _ z=>z) (λ_ _ _ n z=>⟨λw=>n w.1,z⟩) fs gs g4)⟩
 | .nil,_,h=>by cases h|.cons .ini .nil,_::_,h=>by cases h|.cons .ini (.cons _ _),_,h=>by cases h|.cons (.sfl _ _) _,[],h=>by cases h|.cons (.set _ _) _,_,h=>by cases h|.cons (.mov _ _) _,_,h=>by cases h|.cons (.setIx _ _ _) _,_,h=>by cases h|.cons (.app _ _) _,_,h=>by cases h|.cons (.ext _ _) _,_,h=>by cases h|.cons (.ret _) _,_,h=>by cases h|.cons (.retv _) _,_,h=>by cases h|.cons .retN _,_,h=>by cases h|.cons (.iff _ _ _) _,_,h=>by cases h|.cons (.for _ _ _) _,_,h=>by cases h|.cons .brk _,_,h=>by cases h|.cons .cnt _,_,h=>by cases h|.cons .pass _,_,h=>by cases h|.cons (.ex _) _,_,h=>by cases h|.cons (.dnew _) _,_,h=>by cases h|.cons (.rse _ _ _) _,_,h=>by cases h|.cons (.set2 _ _) _,_,h=>by cases h|.cons (.put2 _ _ _) _,_,h=>by cases h|.cons (.rem2 _ _ _) _,_,h=>by cases h
theorem qM:∀(cs:Ss) (st:List BY) (σ:Sg),mU Γ cs st=true->(∀σ',exs P cl σ cs≠.next σ')/\∀v,exs P cl σ cs=.ret v->∃p c fs,σ[(0:Nat)]? = some (.sh p (.err 0 (.int 0::.str c::fs)))
 | cs,st,σ,h=>by
  unfold mU at h;split at h;rename_i f e ss s st;obtain⟨h1,Z⟩:=cV h;have G:∀o,exs P cl σ (.cons (.sfl f e) ss)=o->o=.bad\/(∃z,o=.exc z σ)\/∃p c fs B,σ[(0:Nat)]? = some (.sh p (.err 0 (.int 0::.str c::fs)))/\o=exs P cl B ss:=λo ho=>by
   subst ho;have M:exs P cl σ (.cons (.sfl f e) ss)=(O.from σ (ev P cl (σ.set 0 .dead) e) λv=>match σ[(0:Nat)]? with
    | some (.sh _ (.err 0 (.int 0::.str c::fs)))=>(match P.objs.lookup c with
     | some k=>if k.1.contains f&&v.al.isEmpty&&decide (fs.length<1000)&&hU f fs then .next (σ.set 0 (.sh true (.err 0 (.int 0::.str c::(fs++[.str f,v.d]))))) else .bad|none=>.bad)
    | _=>.bad).on (λσ'=>exs P cl σ' ss):=rfl
   rw[M];cases ev P cl (σ.set 0 .dead) e with
   | exc z=>exact .inr (.inl ⟨z,rfl⟩)|bad=>exact .inl rfl|ok w=>have U:∀g:Vl->O,(O.from σ (R.ok w) g)=g w:=λ_=>rfl;rw[U];split;rename_i p c fs hs;split;split;exact .inr (.inr ⟨p,c,fs,_,hs,rfl⟩);exact .inl rfl;exact .inl rfl;exact .inl rfl
  refine⟨λσ' hn=>?_,λv hv=>?_⟩;rcases G _ hn with z|⟨z,w⟩|⟨p,c,fs,B,I,L⟩
  cases z;cases w;exact(qM ss st B Z).1 σ' L.symm;rcases G _ hv with z|⟨z,w⟩|⟨p,c,fs,B,I,L⟩
  cases z;cases w;exact⟨p,c,fs,I⟩;have e:exs P cl σ (.cons .ini .nil)=(match σ[(0:Nat)]? with
   | some (.sh _ (.err 0 (.int 0::.str c::fs)))=>O.ret ⟨.err 0 (.str c::fs),false,true,[]⟩|_=>.bad).on (λσ'=>.next σ'):=rfl
  rw[e];split;rename_i p c fs hs;exact⟨λ_ z=>(by cases z),λv _=>⟨p,c,fs,hs⟩⟩;exact⟨λ_ z=>(by cases z),λv z=>(by cases z)⟩;cases h
theorem aCc{t:Tx}{F:Fn}(A:All prog w K mg base P Γ k)
 (U:∀x∈bltNames,mg x=none) (q0:∀(x:Str) (d:D),Γ.cns.lookup x=some d->∃u v,mg x=some u/\bB v u/\∀H ex,Rep K H ex d v) (q4:∀(i:Nat) (x:Str),Γ.tbs[i]? = some x->∃a t,mg x=some (.ref a)/\P.tabs[i]? = some t/\sW prog w K a t)
 (h2:Fun K t.x t.qual t.st fa fd) (hF:P.fns[f]? = some F) (hc:tS Γ F t=true) :
 eY prog w K mg base CX0 (k+1) fa fd (t.N.take F.np) (spF K P (k+1) f):=by
 unfold tS at hc
 simp only[bA,beq_iff_eq,AJ,Db,AB,Cf,bne_iff_ne,ne_eq] at hc
 obtain⟨⟨⟨⟨⟨⟨⟨⟨c1,c2⟩,c3⟩,c4⟩,c5⟩,c6⟩,c7⟩,c8⟩,I⟩:=hc
 have lt:(t.N.take F.np).length=F.np:=by rw[Be];omega
 have sc:lH t.N (t.N.take F.np) (bC t.st):=⟨c4,c5,c6,c3,by rw[lt],c7,c8⟩
 refine h2.ok sc (λvs H Q E h=>by rw[lt];exact aCa hF h) λcdv A' outer s H vs Q E hr h=>?_
 have G:=aCa hF h
 obtain⟨ds,Y,hY,r,hq⟩:=h
 have M:Mc (xH CX0 prog w K mg base t.N t.qual (bC t.st) fa cdv A' outer s H E).nox P { Γ with N:=t.N,sc:=(bC t.st).names,fn:=true } k:={
  md:=⟨A.fn,U,q0,q4,A.obj,A.mkr⟩
  N:=rfl
  nd:=c3
  sc:=rfl
  calm:=rfl
  room:=hr
  xe:=rfl
  st:=λ_ _=>.inl rfl
  fk:=c4 }
 obtain⟨res,B,hq⟩:=hq.eq
 have B:mS P (call P k) f ds=.ok res:=B
 unfold mS at B
 rw[hF] at B
 have B:(if ds.length=F.np then (match exs P (call P k) ((ds.map λd=>Sl.sh true d)++Aj (F.ns-F.np) Sl.dead) F.body with
  | .ret v=>R.ok (v.d,v.fr,v.pa)
  | .next _=>R.ok (.non,false,false)
  | .exc x _=>R.exc x
  | _=>R.bad) else R.bad)=R.ok res:=B
 have hdl:ds.length=F.np:=by rw[r.length];exact G
 rw[if_pos hdl] at B
 rcases I with(I|I)|I
 . refine⟨_,gQ (t':=λD σV H'=>Tk K H'->wS _ (λ_=>False) Y (λb=>H b≠none) ((ds.map λd=>Sl.sh true d)++Aj (F.ns-F.np) Sl.dead) (exs P (call P k) ((ds.map λd=>Sl.sh true d)++Aj (F.ns-F.np) Sl.dead) F.body) D σV H') (sSs F.body M I (λ_=>False) ((ds.map λd=>Sl.sh true d)++Aj (F.ns-F.np) Sl.dead)) (λD σV H' tk hw=>⟨(hw tk).1,OE.tkE (hw tk).2⟩),λtk=>⟨?_,?_⟩⟩
   . have e:L2.start t.N vs=vs.map some++Aj (F.ns-F.np) none:=by unfold L2.start;rw[G,c1]
     rw[e]
     exact qK hY tk r
   . have same:∀{H':Hp},Kp (λ_=>False) H H'->aL H H':=λk b o e=>k b o e id
     cases q:exs P (call P k) ((ds.map λd=>Sl.sh true d)++Aj (F.ns-F.np) Sl.dead) F.body with
     | next σ'=>
      rw[q] at B
      cases(B)
      exact λq6 q5 H' kp sub S'=>hq .non H' S'.tk (same kp) (aKb rfl)
     | ret v=>
      rw[q] at B
      cases(B)
      refine λu H' kp L rt=>hq u H' L (same kp) ?_
      unfold Rr
      unfold Rtv at rt
      cases q3:v.fr with
      | true=>
       rw[q3,if_pos rfl] at rt
       obtain⟨a,xs,ds',e1,e2,e3,e4,rr⟩:=rt
       exact aPM ⟨a,xs,ds',e1,e2,KB.mp e3,e4,rr⟩
      | false=>
       rw[q3,if_neg bN] at rt
       exact aKb rt
     | brk σ'=>rw[q] at B;cases B
     | cnt σ'=>rw[q] at B;cases B
     | exc e σ'=>rw[q] at B;cases B
     | bad=>rw[q] at B;cases B
 . obtain⟨⟨⟨b1,b2⟩,b3⟩,b4⟩:=I
   have eb:F.body=.cons (.ret (.grp 0)) .nil:=by
    revert b1
    cases F.body with
    | nil=>intro z;cases z
    | cons s ss=>
     unfold aJj
     split
     . rename_i h;intro _;exact h
     . intro z;cases z
   rw[eb] at B
   cases ds with
   | nil=>rw[b2] at hdl;cases hdl
   | cons d0 dr=>
   cases dr with
   | cons _ _=>rw[b2] at hdl;cases hdl
   | nil=>
   cases d0 with
   | lst ls=>
    have B:(match (O.from ([Sl.sh true (.lst ls)]++Aj (F.ns-F.np) Sl.dead) ((match fT ls with
     | some ps=>R.iff (decide (ps.length<lim)) (R.ok (Vl.cl (aAo (dW ps))))
     | none=>R.bad):R Vl) O.ret).on (λσ'=>.next σ') with
     | .ret v=>R.ok (v.d,v.fr,v.pa)
     | .next _=>R.ok (.non,false,false)
     | .exc x _=>R.exc x
     | _=>R.bad)=R.ok res:=B
    cases hp:fT ls with
    | none=>rw[hp] at B;cases B
    | some ps=>
     rw[hp] at B
     by_cases hl:ps.length<lim
     . have B:(match (O.from ([Sl.sh true (.lst ls)]++Aj (F.ns-F.np) Sl.dead) (R.iff (decide (ps.length<lim)) (R.ok (Vl.cl (aAo (dW ps))))) O.ret).on (λσ'=>.next σ') with
        | .ret v=>R.ok (v.d,v.fr,v.pa)
        | .next _=>R.ok (.non,false,false)
        | .exc x _=>R.exc x
        | _=>R.bad)=R.ok res:=B
       rw[Av hl] at B
       cases B
       obtain⟨v0,r',rfl,⟨sa,xs,rfl,q1,_,q2⟩,rfl⟩:=r
       obtain⟨t0,g1,g2⟩:=aOj (Z:=tkE K { nx:=λ_ H'=>Q .non H',rt:=Q }) M b4 q1 q2 hp hl λu H' s' rr L=>hq u H' L s' (aKb (rr.weak λb z=>z.elim (hY b) λz=>z.2))
       refine⟨_,gQ g1 λD σV H' _ hw=>hw,?_⟩
       have e:L2.start t.N [.ref sa]=[some (.ref sa),none,none,none]:=by
        unfold L2.start
        rw[c1,b3]
        rfl
       rw[e]
       exact g2
     . have B:(match (O.from ([Sl.sh true (.lst ls)]++Aj (F.ns-F.np) Sl.dead) (R.iff (decide (ps.length<lim)) (R.ok (Vl.cl (aAo (dW ps))))) O.ret).on (λσ'=>.next σ') with
        | .ret v=>R.ok (v.d,v.fr,v.pa)
        | .next _=>R.ok (.non,false,false)
        | .exc x _=>R.exc x
        | _=>R.bad)=R.ok res:=B
       rw[Aw hl] at B;cases B
   | _=>cases B
 . obtain⟨z1,z2⟩:=qM F.body (defBody t.st) ((ds.map λd=>Sl.sh true d)++Aj (F.ns-F.np) Sl.dead) I
   exfalso
   cases q:exs P (call P k) ((ds.map λd=>Sl.sh true d)++Aj (F.ns-F.np) Sl.dead) F.body with
   | next σ'=>exact z1 σ' q
   | ret v=>
    obtain⟨p,c,fs,e0⟩:=z2 v q
    cases ds with
    | nil=>
     rw[mN,C2,BF] at e0
     split at e0 <;> cases e0
    | cons d0 dr=>
     cases(e0)
     obtain⟨_,_,_,z,_⟩:=r
     exact z
   | brk σ'=>rw[q] at B;cases B
   | cnt σ'=>rw[q] at B;cases B
   | exc e σ'=>rw[q] at B;cases B
   | bad=>rw[q] at B;cases B
theorem aFA{t:Tx}{F:Fn}(A:All prog w K mg base P Γ k)
 (I:∀x∈bltNames,mg x=none) (L:∀(x:Str) (d:D),Γ.cns.lookup x=some d->∃u v,mg x=some u/\bB v u/\∀H ex,Rep K H ex d v) (q0:∀(i:Nat) (x:Str),Γ.tbs[i]? = some x->∃a t,mg x=some (.ref a)/\P.tabs[i]? = some t/\sW prog w K a t)
 (hq:P.objs.lookup c=some q) (hb:aLr F.body=true) (h2:Fun K t.x t.qual t.st fa fd) (hF:P.fns[f]? = some F) (hc:tS Γ F t=true) :
 eY prog w K mg base CX0 (k+1) fa fd (t.N.take F.np) (spI K P (k+1) f c):=by
 unfold tS at hc;simp only[bA,beq_iff_eq,AJ,Db,AB,Cf,bne_iff_ne,ne_eq] at hc;obtain⟨⟨⟨⟨⟨⟨⟨⟨c1,c2⟩,c3⟩,c4⟩,c5⟩,c6⟩,c7⟩,c8⟩,c9⟩:=hc;have lt:(t.N.take F.np).length=F.np:=by rw[Be];omega
 have sc:lH t.N (t.N.take F.np) (bC t.st):=⟨c4,c5,c6,c3,by rw[lt],c7,c8⟩
 have run:∀{ds:List D} {r:Rt},call P (k+1) f (.err 0 [.int 0,.str c]::ds)=.ok r->ds.length+1=F.np/\(match exs P (call P k) (Sl.sh true (.err 0 [.int 0,.str c])::((ds.map λd=>Sl.sh true d)++Aj (F.ns-F.np) Sl.dead)) F.body with
  | .ret v=>R.ok (v.d,v.fr,v.pa)|.next _=>R.ok (.non,false,false)|.exc x _=>R.exc x|_=>R.bad)=R.ok r:=λ{ds r} e=>by have e:mS P (call P k) f (.err 0 [.int 0,.str c]::ds)=.ok r:=e;unfold mS at e;rw[hF] at e;have e:(if ds.length+1=F.np then _ else R.bad)=R.ok r:=e;split at e;rename_i U;exact⟨U,e⟩;cases e
 have c9:mU { Γ with N:=t.N,sc:=(bC t.st).names,fn:=true } F.body (defBody t.st)=true:=by
  revert c9 hb;cases F.body with
  | nil=>intro z;cases z|cons s ss=>
   cases s with
   | sfl f e=>
    rintro _ ((z|z)|z);revert z;cases defBody t.st with
    | nil=>intro z;cases z|cons a b=>intro z;exact absurd (show(false&&_)=true from z) bN
    cases z.1.1.1;exact z
   | ini=>
    rintro _ ((z|z)|z);revert z;cases defBody t.st with
    | nil=>intro z;cases z|cons a b=>intro z;exact absurd (show(false&&_)=true from z) bN
    cases z.1.1.1;exact z
   | _=>intro z;cases z
 refine h2.ok sc (λvs H Q E h=>?_) λcdv A' outer s H vs Q E hr h=>?_;obtain⟨C,x,dx,ds,us,r,rfl,U,_,_,B,_⟩:=h;rw[lt,<-(run B).1,lC,U];obtain⟨C,x,dx,ds,us,r,rfl,U,hx,hn,B,hT⟩:=h;obtain⟨q3,B⟩:=run B;have M:Mc (xH CX0 prog w K mg base t.N t.qual (bC t.st) fa cdv A' outer s H E).nox P { Γ with N:=t.N,sc:=(bC t.st).names,fn:=true } k:={
  md:=⟨A.fn,I,L,q0,A.obj,A.mkr⟩
  N:=rfl
  nd:=c3
  sc:=rfl
  calm:=rfl
  room:=hr
  xe:=rfl
  st:=λ_ _=>.inl rfl
  fk:=c4 }
 obtain⟨C',Z,q1,q2,_⟩:=A.obj c q hq;rw[hn] at Z;cases Z;have e:L2.start t.N (.ref x::us)=some (.ref x)::(us.map some++Aj (F.ns-F.np) none):=by unfold L2.start;rw[c1,<-q3,U];rfl
 by_cases tk:Tk K H;obtain⟨Y,hY,q4,rr,hQ⟩:=hT tk;refine⟨_,aCb (Y:=Y) (J:=λb=>H b≠none) M q4 hq hn q1 q2 F.body (defBody t.st) c9,?_⟩;rw[e];cases G:exs P (call P k) (Sl.sh true (.err 0 [.int 0,.str c])::((ds.map λd=>Sl.sh true d)++Aj (F.ns-F.np) Sl.dead)) F.body with
 | ret v=>rw[G] at B;cases B;exact⟨Sl.sh true (.err 0 [.int 0,.str c])::((ds.map λd=>Sl.sh true d)++Aj (F.ns-F.np) Sl.dead),true,[],[],dx,v,rfl,rfl,hx,rfl,An 0,(qK hY tk rr).cons0,G,λq6 H' t' kp rep=>hQ H' t' kp rep⟩|next σ'=>exact((qM (cl:=call P k) F.body (defBody t.st) _ c9).1 σ' G).elim|brk σ'=>rw[G] at B;cases B|cnt σ'=>rw[G] at B;cases B|exc e σ'=>rw[G] at B;cases B|bad=>rw[G] at B;cases B
 exact⟨_,gQ (t':=λD σV H'=>H'=H) (aCP) (λD σV H' q5 e=>(tk (by rw[<-e];exact q5)).elim),rfl⟩
theorem aHX:eY prog w K mg base CX0 0 fa fd ps (spF K P 0 f):=by
 have no:∀vs H Q E,¬ spF K P 0 f vs H Q E:=λvs H Q E h=>by obtain⟨ds,Y,_,r,B⟩:=h;exact B
 exact⟨λvs H Q E h=>absurd h (no vs H Q E),λA outer s H args us vs Q E _ _ _ _ h=>absurd h (no vs H Q E)⟩
theorem aFB:eY prog w K mg base CX0 0 fa fd ps (spI K P 0 f c):=by
 have no:∀vs H Q E,¬ spI K P 0 f c vs H Q E:=λvs H Q E h=>by obtain⟨_,_,_,_,_,_,_,_,_,_,B,_⟩:=h;cases B
 exact⟨λvs H Q E h=>absurd h (no vs H Q E),λA outer s H args us vs Q E _ _ _ _ h=>absurd h (no vs H Q E)⟩
theorem vP(T:Top prog w K mg P Γ txs):∀(k:Nat),All prog w K mg base P Γ k:=λk=>by
 have one:∀{f:Nat} {t:Tx} {fa:Addr} {fd:Dv},txs[f]? = some t->Fun K t.x t.qual t.st fa fd->∃F,P.fns[f]? = some F/\eY prog w K mg base CX0 k fa fd (t.N.take F.np) (spF K P k f):=λ{f t fa fd} ht U=>by
  obtain⟨F,hF,hc⟩:=gR T.chk ht;refine⟨F,hF,?_⟩;cases k with
  | zero=>exact aHX|succ k=>exact aCc (vP T k) T.blt T.cns T.tab U hF hc
 refine⟨λf x hf=>?_,λc q hc=>?_,λj c hj=>?_,λj c hj=>?_⟩;obtain⟨t,ht,rfl⟩:=T.fns f x hf;obtain⟨fa,fd,h1,U,h3⟩:=T.fn f t ht hf;obtain⟨F,hF,hk⟩:=one ht U;exact⟨fa,fd,_,h1,U.kp,h3 F hF,hk⟩;obtain⟨C,B,M,I,L⟩:=T.obj c q hc;refine⟨C,B,M,I,λm f hm=>?_⟩;obtain⟨t,fa,fd,ht,U,h3,h4⟩:=L m f hm;obtain⟨F,hF,hk⟩:=one ht U;exact⟨fa,fd,_,h3,h4 F hF,hk⟩;obtain⟨q,C,fi,t,fa,fd,F,B,M,I,L,g5,g6,g7,g8,g9,G,Z⟩:=T.mkr j c hj;refine⟨q,C,fi,fa,fd,_,B,I,L,g5,g6,G,?_⟩;obtain⟨F',q0,hc⟩:=gR T.chk g7;rw[g9] at q0;cases q0;cases k with
 | zero=>exact aFB|succ k=>exact aFA (vP T k) T.blt T.cns T.tab M Z g8 g9 hc
 cases k with
 | zero=>obtain⟨q,C,fi,t,fa,fd,F,B,M,I,L,g5,g6,g7,g8,g9,G,Z⟩:=T.mkr j c hj;exact⟨q,C,fi,fa,fd,_,B,I,L,g5,g6,G,λn' e=>(by cases e)⟩|succ k=>obtain⟨q,C,fi,fa,fd,ps,B,M,I,L,g5,g6,g7⟩:=(vP T k).ini j c hj;exact⟨q,C,fi,fa,fd,ps,B,M,I,L,g5,g6,λn' e=>(by cases e;exact g7)⟩
theorem aLs(T:Top prog w K mg P Γ txs){t:Tx}{F:Fn}(ht:txs[f]? = some t)(hF:P.fns[f]? = some F)(G:Fun K t.x t.qual t.st fa fd)(k:Nat):eY prog w K mg base CX0 (k+1) fa fd (t.N.take F.np) (spF K P (k+1) f):=by obtain⟨L,B,I⟩:=gR T.chk ht;rw[hF] at B;cases B;exact aCc (vP T k) T.blt T.cns T.tab G hF I
theorem aLt{ns:List Int}(L:aHq H)(B:SqL K H a (ns.map V.int))(h:∃fr pa,call P k f [.lst (ns.map D.int)]=.ok (.bl true,fr,pa)) :
 spF K P k f [.ref a] H (λv _=>v=.bl true) λ_ _ _=>False:=by
 obtain⟨fr,pa,e⟩:=h;have I:∀(ns:List Int),Reps K H (λ_=>False) (ns.map D.int) (ns.map V.int):=by
  intro ns
  induction ns with
  | nil=>exact .nil|cons i ns G=>exact .cons rfl G
 refine⟨[.lst (ns.map D.int)],λ_=>False,λ_ z=>z.elim,.cons ⟨a,_,rfl,B,id,I ns⟩ .nil,?_⟩;rw[e];intro u H' _ _ rr;unfold Rr at rr;cases fr with
 | true=>rw[if_pos rfl] at rr;grind|false=>rw[if_neg bN] at rr;exact rr
end
end Hp
end
namespace Hp
open PySem PySem.Spec PyProof.Rows L2
noncomputable def ER(w:AL)(K:Fg)(e:Ey)(p:Str×D):Prop:=e.hash=K2 w p.1/\(∃tk,e.key=.str p.1 tk)/\∃v,bB v e.val/\∀(H:Hp) (ex:Addr->Prop),Rep K H ex p.2 v
theorem tU{K:Fg}{ex:Addr->Prop}:∀xs:List Str,Reps K H ex (xs.map D.str) (xs.map V.str)
 | []=>rfl|x::xs=>⟨.str x,xs.map V.str,rfl,rfl,tU xs⟩
theorem aFC{K:Fg}{B:Array Value}(h:K.lookup b=some ⟨.type "tuple",od,.seq B n,sl⟩)(xs:List Str)(hz:B.size<=1000)(G:aX (xs.map V.str) B.toList) :
 ∀(H:Hp) (ex:Addr->Prop),Rep K H ex (.tup (xs.map D.str)) (.ref b):=λH ex=>
 ⟨b,xs.map V.str,rfl,.inr ⟨_,B,n,h,rfl,rfl,AW hz (by rw[AY];decide),G⟩,tU xs⟩
theorem aFD{prog:A2}{w:AL}{K:Fg}:∀{es:List Ey} {t:List (Str×D)},Fp (ER w K) es t->∃vs:List (Key×Value),(∀e∈es,∃k:Key,(gJ prog w).is k e.key=true/\e.hash=(gJ prog w).hash k) /\
 Pairs (gJ prog w) es vs/\vs.map (·.1)=t.map (λp=>(BZ p.1:Key)) /\
 ∀k:Str,(t.lookup k=none/\F4 vs (BZ k:Key)=none)\/∃d u v,t.lookup k=some d/\F4 vs (BZ k:Key)=some u/\bB v u/\∀(H:Hp) (ex:Addr->Prop),Rep K H ex d v
 | _,_,.nil=>⟨[],λe B=>absurd B (by simp),.nil,rfl,λk=>.inl ⟨rfl,rfl⟩⟩
 | e::es,p::t,.cons ⟨h1,⟨tk,h2⟩,v,h3,h4⟩ r=>by
  obtain⟨vs,M,U,Z,g4⟩:=aFD (prog:=prog) r;have I:wW (BZ p.1:Key) e.key=true:=by rw[h2];exact aCM p.1 tk
  refine⟨(BZ p.1,e.val)::vs,λL B=>?_,.cons I rfl U,by rw[mC,mC,Z],λk=>?_⟩;rcases Ax.mp B with rfl|B;exact⟨BZ p.1,I,h1⟩;exact M L B;by_cases G:k=p.1;subst G;refine .inr ⟨p.2,e.val,v,?_,?_,h3,h4⟩;obtain⟨a,b⟩:=p;simp[BN];simp[F4];have n1:(p::t).lookup k=t.lookup k:=by grind
  have n2:F4 ((BZ p.1,e.val)::vs) (BZ k:Key)=F4 vs (BZ k:Key):=by unfold F4;have:decide ((BZ p.1:Key)=BZ k)=false:=Aw λz=>G (Kh z).symm;rw[CT];simp only[this]
  rw[n1,n2];exact g4 k
theorem aLu{K:Fg}{es:Array Ey}{t:List (Str×D)}(hs:(a==Cb)=false)(h:K.lookup a=some ⟨.type "dict",none,.dict es ep,#[]⟩)(hp:Fp (ER w K) es.toList t)(G:(t.map (·.1)).Nodup):sW prog w K a t:=by
 obtain⟨vs,I,L,M,U⟩:=aFD hp;refine⟨hs,vs,λhh X=>⟨_,es,ep,X a _ h,⟨rfl,rfl,rfl⟩,rfl,λe Z=>I e (by simpa using Z),L,?_⟩,U⟩;rw[M];have e:t.map (λp=>(BZ p.1:Key))=(t.map (·.1)).map BZ:=by rw[A7];rfl
 rw[e];unfold Kx at G ⊢;rw[C5];exact G.imp λB z=>B (Kh z)
end Hp
namespace Hh
open PySem PySem.W PySem.Calls PyProof.Rows
noncomputable def go(st:Gg->Jl->Option (Gg×Jl))(ok:Jl->Bool)(n:Nat):Gg->Jl->Option Gg:=
 @Nat.rec (λ_=>Gg->Jl->Option Gg) (λ_ _=>none) (λ_ ih s t=>match KC t with
  | true=>some s|false=>match ok t with
   | false=>none|true=>match st s t with
    | some (s',t')=>ih s' t'|none=>none) n
theorem oY{G:String->Option BI}:∀(n:Nat) (s B:Gg) (t:Jl),go (KD (JM G) p w) (JN n₀ ann) n s t=some B->topRun G p w n₀ ann n s.abs t=some B.abs
 | 0,_,_,_,h=>by cases h|n+1,s,B,t,h=>by
  have h:(match KC t with
   | true=>some s|false=>match JN n₀ ann t with
    | false=>none|true=>match KD (JM G) p w s t with
     | some (B,t')=>go (KD (JM G) p w) (JN n₀ ann) n B t'|none=>none)=some B:=h
  unfold topRun;cases ht:KC t with
  | true=>rw[ht] at h;cases h;rfl|false=>
   rw[ht] at h;cases I:JN n₀ ann t with
   | false=>rw[I] at h;cases h|true=>
    rw[I] at h;cases hs:KD (JM G) p w s t with
    | none=>rw[hs] at h;cases h|some r=>obtain⟨L,M⟩:=r;rw[hs] at h;rw[stepT_spec hs];exact oY n _ _ _ h
noncomputable def bt(l:List Obj)(n:Nat):Nat->Nat->BT:=
 @Nat.rec (λ_=>Nat->Nat->BT) (λ_ _=>.nil) (λ_ ih a b=>match l[b]? with
  | some o=>.node o (ih (2*a) (a+b)) (ih (2*a) (2*a+b))|none=>.nil) n
noncomputable def aFE{α:Type}(p q:A2)(loose:List Str)(Xt:Ad->Bool)(Yf:Ad->α)(h0:Heap)(s:Ad):=
 ((staticsOk (Iz p.main.body) h0 s.heap&&namesBound p s.heap&&gensDone s&&laidKept h0 s.heap),openSeen q loose (Iz p.main.body) Xt true s,Yf s)
theorem aHY{p q:A2}{G:List Str}{Z:Ad->Bool}{α:Type}{Yf:Ad->α}{Ya:AL->α}{N B:Nat}{M:Option Value}{I:IS->BT}{L:Life}(e:opening p=plainProg p.main.scope.names)(hN:Nat.ble 600 N=true)(f:∀s,J1 p s=some s)
 (hb:∀P,absHeap (I P) B L=Cm P) (hz:∀P:IS,((Cm P).isNs AI,(Cm P).objs.size,(Cm P).nsMap AI "__annotations__")=(true,B,M))
 (h:∀(w:AL) (os:ID),(go (KD (JM HW) p w) (JN B M) N ⟨I w.params,B,L,Jm [],G6,HX,os⟩ (KF p)).map (λs=>aFE p q G Z Yf (Cm w.params) s.abs)=some (true,Ki q G,Ya w)):KZ p q G Z Yf Ya N:=λw=>by
 obtain⟨⟨hh,gs,d,k,os⟩,e1,e2⟩:=Bf.mp (boot_open e hN f w);simp only[BV] at e2;obtain⟨rfl,rfl,rfl,rfl⟩:=e2;obtain⟨s,g1,U⟩:=Bf.mp (h w os);have r:=oY N _ _ _ g1;have r:topRun HW p w B M N ⟨Cm w.params,Jm [],G6,HX,os⟩ (KF p)=some s.abs:=by rw[<-hb];exact r
 have z:=hz w.params;simp only[BV] at z;obtain⟨z1,z2,z3⟩:=z;unfold aFE at U;simp only[BV] at U;obtain⟨l1,l2,l3⟩:=U;have t:KG HW p w N ⟨Cm w.params,Jm [],G6,HX,os⟩=some s.abs:=by unfold KG;grind
 unfold openEnds;rw[e1];show(KG HW p w N _).map _=_;rw[t];exact congrArg some (JX l2 l3)
noncomputable def T0(P:IS):BT:=bt (Cm P).objs.toList 5 1 0
theorem aLv:∀P,absHeap (T0 P) 11 {}=Cm P:=λP=>by kernel_rfl
theorem aHZ:∀P:IS,((Cm P).isNs AI,(Cm P).objs.size,(Cm P).nsMap AI "__annotations__")=(true,11,some (.ref 6)):=λP=>by kernel_rfl
abbrev aOx:=@PySem.W.Fast.tw10156331382660048174
abbrev qOk:=@PySem.W.Fast.tw6613529449190102663
abbrev aQo:=@PySem.W.Fast.tw11892475500146522536
abbrev aQp:=@PySem.W.Fast.tw14364793385576792824
abbrev aOy:=@PySem.W.Fast.tw4187177175401517315
abbrev aOz:=@PySem.W.Fast.tw5923862056798008813
noncomputable def aOA{α:Type}(p q:A2)(loose:List Str)(Yf:Ad->α)(N:Nat)(w:AL)(os:ID):=
 (go (aOx (aQo aQp) p w) (qOk 11 (some (.ref 6))) N ⟨T0 w.params,11,{},Jm [],G6,HX,os⟩ (KF p)).map λs=>((staticsOk (aOz p.main.body) (Cm w.params) s.abs.heap&&namesBound p s.abs.heap&&gensDone s.abs&&laidKept (Cm w.params) s.abs.heap),aOy q loose (aOz p.main.body) (λ_=>true) true s.abs,Yf s.abs)
theorem aLw{p q:A2}{B:List Str}{α:Type}{I:Ad->α}{G:AL->α}{N:Nat}(e:opening p=plainProg p.main.scope.names)(L:Nat.ble 600 N=true)(f:∀s,J1 p s=some s)
 (h:∀w os,aOA p q B I N w os=some (true,Ki q B,G w)):KZ p q B (λ_=>true) I G N:=by refine aHY e L f aLv aHZ λw os=>?_;unfold aFE;rw[Gs,G7,Gu,Gv,G8,G9];exact h w os
end Hh
namespace Hh
open PySem PySem.W PySem.Calls PyProof.Rows L2 Hp
noncomputable def cO(h:Heap):Ap:=(Au h.objs.size).filterMap λa=>(h.get? a).map λo=>(a,o)
theorem qN{α:Type}(f:Nat->Option α)(a:Nat):∀n,((Au n).filterMap λi=>(f i).map λo=>(i,o)).lookup a=if a<n then f a else none
 | 0=>rfl|n+1=>by
  rw[FD,FI,List.lookup_append,qN f a n];by_cases h:a<n;rw[if_pos h,if_pos (Bz h)];cases q:f a with
  | some o=>rfl|none=>
   have B:(a==n)=false:=beq_eq_false_iff_ne.mpr (A4 h);cases G:f n with
   | none=>simp[G]|some o=>simp[G,BN,B]
  rw[if_neg h];by_cases e:a=n;subst e;rw[if_pos (B3 _)];cases q:f a with
  | none=>simp[q]|some o=>simp[q,BN]
  rw[if_neg (by omega)];have B:(a==n)=false:=beq_eq_false_iff_ne.mpr e;cases G:f n with
  | none=>simp[G]|some o=>simp[G,BN,B]
theorem cA(h:Heap)(a:Addr):(cO h).lookup a=h.get? a:=by
 unfold cO;rw[qN];by_cases q:a<h.objs.size;rw[if_pos q];rw[if_neg q];cases e:h.get? a with
 | none=>rfl|some o=>exact absurd (Aq e) q
theorem aCd{h h':Heap}(k:∀b o,h.get? b=some o->h'.get? b=some o):(cO h).In h':=λa o e=>k a o (by rw[<-cA];exact e)
noncomputable def kP(h:Heap)(x:Str):Option (Option Value):=match h.get? AI with
 | some ⟨_,_,.dict es _,_⟩=>(match es.toList.find? (λe=>match e.key with|.str y _=>Hu y x|_=>false) with
  | some e=>some (some e.val)|none=>if es.toList.any (·.refKey) then none else some none)
 | _=>none
theorem aFF(v:Value)(x:Str):v.isStr x=(match v with|.str y _=>Hu y x|_=>false):=by
 cases v with
 | str y t=>show(y==x)=Hu y x;rw[El,beq_iff_eq,JO]|_=>rfl
theorem fL(h:Heap)(x:Str):La (cO h) AI x=kP h x:=by unfold La kP;rw[cA];simp only[aFF];rfl
noncomputable def mB(h:Heap)(cd:Value):Option Str:=match cd with
 | .ref c=>(match h.get? c with
  | some ⟨_,_,.fields vs,_⟩=>(match vs.toList with|_::.str n _::_=>some n|_=>none)
  | _=>none)
 | _=>none
theorem tV(e:mB h cd=some q):codeIn (cO h) cd q=true:=by unfold mB at e;unfold codeIn;split at e;rename_i c;simp only[cA];split at e;rename_i vs _ B;rw[B];split at e;rename_i a n t r G;cases e;simp only[G,beq_self_eq_true];cases e;cases e;cases e
abbrev Pin:=Str×Str×Gf×FuncBody×De×Addr×List (Str×Addr)×Value×Addr×Option Str
noncomputable def aAN(h:Heap)(x:Str):Option Pin:=match kP h x with
 | some (some (.ref a))=>(match h.get? a with
  | some ⟨_,_,.func fd,_⟩=>some (fd.name,fd.qualname,fd.params,fd.body,fd.scope,fd.globals,fd.closure,fd.defaults,fd.builtins,mB h fd.code)|_=>none)
 | _=>none
noncomputable def bI(s:BY):Str:=match s with|.FunctionDef x _ _ _ _ _ _ _ _ _=>x|_=>⟨#[]⟩
noncomputable def aFG(st:BY):Pin:=(bI st,bI st,gL st,.stmts (defBody st),bC st,AI,[],.none,Fq,some (bI st))
theorem aIa{h:Heap}{st:BY}(e:aAN h (bI st)=some (aFG st)):∃fa fd,La (cO h) AI (bI st)=some (some (.ref fa))/\Fun (cO h) (bI st) (bI st) st fa fd:=by unfold aAN at e;split at e;rename_i a L;split at e;rename_i c d fd sl B;obtain⟨n,qn,ps,b,sc,g,cl,Z,M,doc,pm,an,G,ct,U⟩:=fd;unfold aFG at e;simp only[BB,BV] at e;obtain⟨rfl,rfl,rfl,rfl,rfl,rfl,rfl,rfl,rfl,I⟩:=e;refine⟨a,_,by rw[fL];exact L,⟨⟨c,d,M,doc,pm,an,G,ct,sl,rfl,by rw[cA];exact B,tV I⟩,?_⟩⟩;unfold JP;simp only[cA,B];cases e;cases e
theorem qO{α:Type}{x:Str}{u:α}:∀{ps:List Str} {us:List α},ps.Nodup->ps.length=us.length->(x,u)∈ps.zip us->(ps.zip us).lookup x=some u
 | [],_,_,_,h=>by simp at h|p::ps,[],_,h,_=>by simp at h|p::ps,v::us,hn,hl,h=>by rw[Ba] at h ⊢;obtain⟨B,G⟩:=Az.mp hn;rcases Ax.mp h with h|h;cases h;simp[BN];have I:=(Ei h).1;have:(x==p)=false:=beq_eq_false_iff_ne.mpr λz=>B (z▸I);simp only[BN,this];exact qO G (by simpa using hl) h
theorem aFH{α:Type}(L:List (Str×α)):∀{ps:List Str} {us:List α},ps.length=us.length->(∀p∈ps.zip us,L.lookup p.1=some p.2)->(ps.filterMap λn=>(L.lookup n).map (n,·))=ps.zip us
 | [],_,_,_=>by simp|p::ps,[],h,_=>by simp at h|p::ps,v::us,hl,h=>by rw[Ba,B5,h (p,v) (by simp),aFH L (us:=us) (by simpa using hl) λq B=>h q (by rw[Ba];exact Ag _ B)];rfl
theorem aFI{α:Type}(L:List (Str×α)):∀{ps:List Str} {us:List α},ps.length=us.length->(∀p∈ps.zip us,L.lookup p.1=some p.2)->(ps.filter λn=>(L.lookup n).isNone)=[]
 | [],_,_,_=>by simp|p::ps,[],h,_=>by simp at h|p::ps,v::us,hl,h=>by rw[CI,h (p,v) (by simp),aFI L (us:=us) (by simpa using hl) λq B=>h q (by rw[Ba];exact Ag _ B)];rfl
noncomputable def jG(a:Gf)(ps:List Str):Bool:=match a with|⟨[],as,none,[],[],none,[]⟩=>decide (as.map (·.arg)=ps)&&decide ps.Nodup|_=>false
theorem kQ{x q:Str}{a:Gf}{b:List BY}{sc:De}{kV doc pm:Value}{an:Option Addr}{cdv ct:Value}{ps:List Str}{us:List Value}(h:jG a ps=true)(B:us.length=ps.length) :
 IH (fnOf x q a b sc .none kV doc pm an cdv ct) ⟨us,[]⟩=pure (ps.zip us):=by
 unfold jG at h;split at h;rename_i as;obtain⟨M,G⟩:=Bool.and_eq_true_iff.mp h;have G:=of_decide_eq_true G;unfold IH;have L:∀s:Value,s=.none->(J8 s)=pure none:=λs e=>by subst e;rfl
 simp only[mN,C2,(of_decide_eq_true M),L,FT,pure_bind,B,AX,decide_false,FL,Fc,lN,List.drop_nil,Hb,CD,(aFI (ps.zip us) B.symm (λp I=>qO G B.symm I)),DX,D2,List.zip_nil_right,Bd,(aFH (ps.zip us) B.symm (λp I=>qO G B.symm I)),if_false,bF];cases h
noncomputable def yY(s:BY):Bool:=match s with|.FunctionDef _ _ _ _ _ _ _ _ _ _=>true|_=>false
noncomputable def aFJ:D->Value->Bool
 | .int i,.int j _=>decide (i=j)|.str a,.str b _=>Hu a b|.non,.none=>true|.bl a,.bool b=>a==b|_,_=>false
noncomputable def aAO(h:Heap)(c:Str×D):Bool:=match kP h c.1 with|some (some u)=>aFJ c.2 u|_=>false
noncomputable def mD:Value->Option Str
 | .str x _=>some x|_=>none
abbrev aFK:=Int×Option Str×Option (Value×List (Option Str))
noncomputable def oR(h:Heap)(e:Ey):aFK:=(e.hash,mD e.key,match e.val with
 | .ref b=>(match h.get? b with
  | some ⟨c,_,.seq its _,_⟩=>some (c,its.toList.map mD)|_=>none)
 | _=>none)
noncomputable def vQ(h:Heap)(x:Str):Option (Bool×Value×Option Addr×Array (Option Value)×List aFK):=match kP h x with
 | some (some (.ref a))=>(match h.get? a with
  | some ⟨c,d,.dict es _,sl⟩=>some (a==Cb,c,d,sl,es.toList.map (oR h))|_=>none)
 | _=>none
noncomputable def vR(w:AL)(p:Str×List Str):aFK:=(K2 w p.1,some p.1,some (.type "tuple",p.2.map some))
noncomputable def aAP(w:AL)(t:List (Str×List Str)):Option (Bool×Value×Option Addr×Array (Option Value)×List aFK):=some (false,.type "dict",none,#[],t.map (vR w))
noncomputable def aDE(t:List (Str×List Str)):List (Str×D):=t.map λp=>(p.1,.tup (p.2.map D.str))
theorem aCe:∀{us:List Value} {xs:List Str},us.map mD=xs.map some->aX (xs.map V.str) us
 | [],[],_=>.nil|[],_::_,h=>by cases h|_::_,[],h=>by cases h|u::us,x::xs,h=>by rw[mC,mC] at h;obtain⟨B,G⟩:=J2 h;refine .cons ?_ (aCe G);unfold mD at B;split at B;cases B;exact⟨_,rfl⟩;cases B
theorem aLx{p:Str×List Str}(q:oR h e=vR w p)(U:p.2.length<=1000):ER w (cO h) e (p.1,.tup (p.2.map D.str)):=by unfold oR vR at q;simp only[BV] at q;obtain⟨q1,G,B⟩:=q;refine⟨q1,?_,?_⟩;unfold mD at G;split at G;rename_i y tk I;exact⟨tk,by rw[I];exact congrArg (λz=>Hw z tk) (Ao G)⟩;cases G;split at B;rename_i b I;split at B;rename_i c d q0 n sl Z;have B:=Ao B;simp only[BV] at B;obtain⟨M,L⟩:=B;subst M;have hz:=congrArg Ib L;rw[lM,lM] at hz;exact⟨.ref b,by rw[I];rfl,aFC (by rw[cA];exact Z) p.2 (by rw[<-AH,hz];exact U) (aCe L)⟩;cases B;cases B
theorem tW:∀{es:List Ey} {t:List (Str×List Str)},es.map (oR h)=t.map (vR w)->(∀p∈t,p.2.length<=1000)->Fp (ER w (cO h)) es (aDE t)
 | [],[],_,_=>.nil|[],_::_,q,_=>by cases q|_::_,[],q,_=>by cases q|e::es,p::t,q,hl=>by rw[mC,mC] at q;obtain⟨B,G⟩:=J2 q;exact .cons (aLx B (hl p (Am ..))) (tW G λL I=>hl L (Ag _ I))
noncomputable def aCf(t:List (Str×List Str)):Bool:=(t.all λp=>decide (p.2.length<=1000))&&decide (t.map (·.1)).Nodup
theorem aFL(e:vQ h x=aAP w t)(ok:aCf t=true):∃a,La (cO h) AI x=some (some (.ref a))/\sW prog w (cO h) a (aDE t):=by unfold aCf at ok;rw[bA,AB] at ok;unfold vQ aAP at e;split at e;rename_i a I;split at e;rename_i c d es ep sl L;have e:=Ao e;simp only[BV] at e;obtain⟨B,rfl,rfl,rfl,G⟩:=e;refine⟨a,(fL h x).trans I,aLu B (by rw[cA];exact L) (tW G λp M=>of_decide_eq_true (ok.1 p M)) ?_⟩;unfold aDE;rw[A7];exact of_decide_eq_true ok.2;cases e;cases e
noncomputable def gC(p:A2)(i:Nat):BY:=p.main.body.getD i (.Pass ⟨0,0,0,0⟩)
noncomputable def aOB:BY:=.Pass ⟨0,0,0,0⟩
noncomputable def oH(p:A2)(i j:Nat):BY:=match gC p i with|.ClassDef _ _ _ b _ _ _ _ _ _ _=>b.getD j aOB|_=>aOB
noncomputable def dJ(s:BY):Str:=match s with|.ClassDef x _ _ _ _ _ _ _ _ _ _=>x|_=>⟨#[]⟩
noncomputable def aFM(c m:Str):Str:=c++("." ++ m:Str)
noncomputable def aAQ(h:Heap)(C:Addr)(m:Str):Option Pin:=match findIn (cO h) (.ref C) m with
 | some (some (.ref a))=>(match h.get? a with
  | some ⟨c,_,.func fd,_⟩=>if c==.type "function" then some (fd.name,fd.qualname,fd.params,fd.body,fd.scope,fd.globals,fd.closure,fd.defaults,fd.builtins,mB h fd.code) else none|_=>none)
 | _=>none
noncomputable def aFN(st:BY)(q:Str):Pin:=(bI st,q,gL st,.stmts (defBody st),bC st,AI,[],.none,Fq,some q)
theorem aIb{h:Heap}{C:Addr}{m q:Str}{st:BY}(e:aAQ h C m=some (aFN st q)):∃fa fd,xG (cO h) C m fa/\Fun (cO h) (bI st) q st fa fd:=by
 unfold aAQ at e;split at e;rename_i a M;split at e;rename_i c d fd sl G;split at e;rename_i B;obtain⟨n,qn,ps,b,sc,g,cl,df,U,doc,pm,an,I,ct,Z⟩:=fd;unfold aFN at e;simp only[BB,BV] at e;obtain⟨rfl,rfl,rfl,rfl,rfl,rfl,rfl,rfl,rfl,L⟩:=e;have kp:JP (cO h) (.ref a)=true:=by unfold JP;simp only[cA,G]
 refine⟨a,_,⟨M,?_,kp⟩,⟨⟨c,d,U,doc,pm,an,I,ct,sl,rfl,by rw[cA];exact G,tV L⟩,kp⟩⟩;unfold isFn typeIn;simp only[cA,G];simpa using B;cases e;cases e;cases e
abbrev ObT:=Nat×List Str×List (Nat×Nat×List Str)
noncomputable def aAr(h:Heap)(C:Addr)(fl:List Str):Bool:=
 plainGet (cO h) C KJ&&hasDictIn (cO h) C&&plainOver (cO h) C&&(match findIn (cO h) (.ref C) "__setattr__" with|some (some (.builtin b))=>b == "object.__setattr__" | _=>false)&&(fl.all λf=>(match findIn (cO h) (.ref C) f with|some none=>true|_=>false))&&makesIn (cO h) C&&JP (cO h) (.ref C)
noncomputable def aAR(p:A2)(h:Heap)(o:ObT):Option (Bool×List (Option Pin)):=match kP h (dJ (gC p o.1)) with|some (some (.ref C))=>some (aAr h C o.2.1,o.2.2.map λm=>aAQ h C (bI (oH p o.1 m.1)))|_=>none
noncomputable def aFO(p:A2)(o:ObT):Option (Bool×List (Option Pin)):=some (true,o.2.2.map λm=>some (aFN (oH p o.1 m.1) (aFM (dJ (gC p o.1)) (bI (oH p o.1 m.1)))))
theorem aCg{o:ObT}(e:aAR p h o=aFO p o):∃C,La (cO h) AI (dJ (gC p o.1))=some (some (.ref C))/\Cls (cO h) C/\(∀f,o.2.1.contains f=true->dZ (cO h) C f)/\makesIn (cO h) C=true/\JP (cO h) (.ref C)=true /\
 ∀m∈o.2.2,∃fa fd,xG (cO h) C (bI (oH p o.1 m.1)) fa/\Fun (cO h) (bI (oH p o.1 m.1)) (aFM (dJ (gC p o.1)) (bI (oH p o.1 m.1))) (oH p o.1 m.1) fa fd:=by unfold aAR aFO at e;split at e;rename_i C hn;simp only[BB,BV] at e;obtain⟨G,e2⟩:=e;unfold aAr at G;simp only[bA] at G;obtain⟨⟨⟨⟨⟨⟨I,L⟩,M⟩,B⟩,U⟩,Z⟩,c7⟩:=G;refine⟨C,by rw[fL];exact hn,⟨I,L,M,?_⟩,λf hf=>?_,Z,c7,λm hm=>aIb (C6.mp e2 m hm)⟩;split at B;rename_i b hb;rw[hb,eq_of_beq B];cases B;have:=AB.mp U f (by simpa using hf);unfold dZ;split at this;assumption;cases this;cases e
structure Sn where
 cns:List (Str×D)
 tbs:List (Str×List (Str×List Str))
 obs:List ObT:=[]
abbrev aJk:=List (Option Pin)×List (Option (Option Value))×Bool×List (Option (Bool×Value×Option Addr×Array (Option Value)×List aFK))×List (Option (Bool×List (Option Pin)))
noncomputable def jH(p:A2)(n:Sn)(h:Heap):aJk:=
 ((p.main.body.filter yY).map (λst=>aAN h (bI st)),bltNames.map (kP h),n.cns.all (aAO h),n.tbs.map (λq=>vQ h q.1),n.obs.map (aAR p h))
noncomputable def nF(p:A2)(n:Sn)(w:AL):aJk:=
 ((p.main.body.filter yY).map (λst=>some (aFG st)),bltNames.map (λ_=>some none),true,n.tbs.map (λq=>aAP w q.2),n.obs.map (aFO p))
abbrev mts(n:Sn):List (ObT×Nat×Nat×List Str):=n.obs.flatMap λo=>o.2.2.map λm=>(o,m)
noncomputable def qP(p:A2)(q:ObT×Nat×Nat×List Str):Tx:=⟨bI (oH p q.1.1 q.2.1),aFM (dJ (gC p q.1.1)) (bI (oH p q.1.1 q.2.1)),oH p q.1.1 q.2.1,q.2.2.2⟩
noncomputable def aIc(p:A2)(n:Sn):List (Str×List Str×List (Str×Nat)):=n.obs.map λo=>(dJ (gC p o.1),o.2.1,o.2.2.map λm=>(bI (oH p o.1 m.1),m.2.1))
theorem iO{α B:Type}[BEq α][LawfulBEq α]{a:α}{b:B}:∀{l:List (α×B)},l.lookup a=some b->(a,b)∈l
 | [],h=>by cases h|(x,y)::l,h=>by rw[BN] at h;split at h;grind;exact Ag _ (iO h)
noncomputable def jQ(p:A2)(c:Nat×List Str):Tx:=⟨bI (gC p c.1),bI (gC p c.1),gC p c.1,c.2⟩
theorem aLy{p:A2}(h:yY (gC p i)=true):gC p i∈p.main.body:=by
 unfold gC at h ⊢;rw[Ak] at h ⊢;cases e:p.main.body[i]? with
 | none=>rw[e] at h;cases h|some s=>exact mG e
theorem aId{c:Str×D}(e:aAO h c=true):∃u v,La (cO h) AI c.1=some (some u)/\bB v u/\∀H ex,Rep (cO h) H ex c.2 v:=by unfold aAO at e;split at e;rename_i u B;obtain⟨x,d⟩:=c;have e:aFJ d u=true:=e;unfold aFJ at e;split at e;cases of_decide_eq_true e;exact⟨_,.int _,(fL _ _).trans B,⟨_,rfl⟩,λ_ _=>rfl⟩;cases JO.mp e;exact⟨_,.str _,(fL _ _).trans B,⟨_,rfl⟩,λ_ _=>rfl⟩;exact⟨_,.non,(fL _ _).trans B,rfl,λ_ _=>rfl⟩;cases eq_of_beq e;exact⟨_,.bl _,(fL _ _).trans B,rfl,λ_ _=>rfl⟩;cases e;cases e
noncomputable def aFP(P:Pg):Bool:=decide ((P.objs.map (·.1)).Nodup)&&P.objs.all λo=>match o.2.2.lookup ("__init__" : Str) with
 | some fi=>(match P.fns[fi]? with|some F=>aLr F.body|none=>false)
 | none=>false
theorem tX{α:Type}{c:Str}{q:α}:∀{l:List (Str×α)} {j:Nat},(l.map (·.1)).Nodup->l[j]? = some (c,q)->l.lookup c=some q
 | [],_,_,e=>by cases e|(a,b)::l,0,_,e=>by cases e;simp[BN]|(a,b)::l,j+1,n,e=>by rw[mC,Az] at n;rw[BN,show(c==a)=false from beq_eq_false_iff_ne.mpr λz=>n.1 (by rw[<-z];exact AE.mpr ⟨_,mG e,rfl⟩)];exact tX n.2 (by simpa using e)
theorem aLz{prog p:A2}{w:AL}{M h:Heap}{mg:Str->Option Value}{P:Pg}{Γ:Ct}{ix:List (Nat×List Str)}{n:Sn}(S:jH p n M=nF p n w)(k:∀b o,M.get? b=some o->h.get? b=some o)(G:h.Ns AI mg)
 (hi:(ix.all λc=>yY (gC p c.1))=true) (h1:Γ.fns=(ix.map (jQ p)).map (·.x)) (h2:Γ.cns=n.cns) (h3:Γ.tbs=n.tbs.map (·.1)) (h4:P.tabs=n.tbs.map λq=>aDE q.2) (h5:(n.tbs.all λq=>aCf q.2)=true) (h6:P.objs=aIc p n) (h8:Γ.obs=n.obs.map λo=>dJ (gC p o.1)) (h9:aFP P=true) (h7:(mts n).map (·.2.2.1)=(Au (mts n).length).map (·+ix.length))
 (hb:((P.fns.zip (ix.map (jQ p)++(mts n).map (qP p))).all λq=>jG (gL q.2.st) (q.2.N.take q.1.np))=true) (chk:nE Γ P.fns (ix.map (jQ p)++(mts n).map (qP p))=true) :
 Top prog w (cO M) mg P Γ (ix.map (jQ p)++(mts n).map (qP p)):=by
 unfold jH nF at S;simp only[BV] at S;obtain⟨s1,s2,s3,s4,s5⟩:=S;have X:=aCd k;have obj:∀(c:Str) (k:List Str×List (Str×Nat)),P.objs.lookup c=some k->∃C,BU (cO M) AI c=some (some (.ref C))/\Cls (cO M) C/\(∀f,k.1.contains f=true->dZ (cO M) C f)/\∀m f,k.2.lookup m=some f->∃t fa fd,(ix.map (jQ p)++(mts n).map (qP p))[f]? = some t/\Fun (cO M) t.x t.qual t.st fa fd/\xG (cO M) C m fa/\∀F,P.fns[f]? = some F->dM (cO M) fd (t.N.take F.np) []:=λc kk e=>by
  rw[h6] at e;have hm:=iO e;unfold aIc at hm;obtain⟨o,ho,he⟩:=AE.mp hm;cases he;obtain⟨C,I,U,g3,_,_,g4⟩:=aCg (C6.mp s5 o ho);refine⟨C,I,U,g3,λm f e2=>?_⟩;obtain⟨q,hq,q3⟩:=AE.mp (iO e2);cases q3;obtain⟨fa,fd,g5,g6⟩:=g4 q hq;have hM:(o,q)∈mts n:=Fe.mpr ⟨o,ho,AE.mpr ⟨q,hq,rfl⟩⟩;obtain⟨i,q0⟩:=BX hM;have q1:i<(mts n).length:=(Ai.mp q0).1;have Z:q.2.1=i+ix.length:=by have:=congrArg (λl:List Nat=>l[i]?) h7;simp only[Ar,q0,Ep,Dq q1,BB] at this;exact this
  have ht:(ix.map (jQ p)++(mts n).map (qP p))[q.2.1]? = some (qP p (o,q)):=by rw[A3 (by rw[Z,lM];omega),Z,lM,Nat.add_sub_cancel,Ar,q0];rfl
  refine⟨_,fa,fd,ht,g6,g5,λF hF=>g6.binds λkV doc pm an cdv ct us hl=>kQ (AB.mp hb (F,qP p (o,q)) (mG (i:=q.2.1) ?_)) hl⟩;rw[C0];exact⟨hF,ht⟩
 exact {
  fn:=λf t ht B=>by
   have q1:f<(ix.map (jQ p)).length:=by rw[h1] at B;have:=(Ai.mp B).1;rwa [lM] at this
   have q4:=ht;rw[A0 q1,Ar] at ht;obtain⟨c,hc,rfl⟩:=Bf.mp ht;have hd:=AB.mp hi c (mG hc);obtain⟨fa,fd,I,U⟩:=aIa (C6.mp s1 _ (Ef.mpr ⟨aLy hd,hd⟩));refine⟨fa,fd,mg_of X G I,U,λF hF=>U.binds λkV doc pm an cdv ct us hl=>kQ (AB.mp hb (F,jQ p c) (mG (i:=f) ?_)) hl⟩;rw[C0];exact⟨hF,q4⟩
  fns:=λf x B=>by rw[h1,Ar] at B;obtain⟨t,ht,rfl⟩:=Bf.mp B;exact⟨t,by rw[A0 (Ai.mp ht).1];exact ht,rfl⟩
  blt:=λx B=>mg_none_of X G ((fL M x).trans (C6.mp s2 x B))
  cns:=λx d B=>by rw[h2] at B;obtain⟨u,v,I,U⟩:=aId (AB.mp s3 _ (B6 B));exact⟨u,v,mg_of X G I,U⟩
  tab:=λi x B=>by rw[h3,Ar] at B;obtain⟨q,hq,rfl⟩:=Bf.mp B;have hm:=mG hq;obtain⟨a,I,U⟩:=aFL (prog:=prog) (C6.mp s4 q hm) (AB.mp h5 q hm);exact⟨a,aDE q.2,mg_of X G I,by rw[h4,Ar,hq];rfl,U⟩
  obj:=obj
  mkr:=λj c hj=>by
   rw[h8,Ar] at hj;obtain⟨o,ho,rfl⟩:=Bf.mp hj;obtain⟨C,I,_,_,g5,g6,_⟩:=aCg (C6.mp s5 o (mG ho));have hP:P.objs[j]? = some (dJ (gC p o.1),o.2.1,o.2.2.map λm=>(bI (oH p o.1 m.1),m.2.1)):=by rw[h6];unfold aIc;rw[Ar,ho];rfl
   unfold aFP at h9;rw[bA] at h9;have hl:=tX (of_decide_eq_true h9.1) hP;have L:=AB.mp h9.2 _ (mG hP);split at L;rename_i fi q2;split at L;rename_i F hF;obtain⟨C',n1,_,_,n2⟩:=obj _ _ hl;rw[I] at n1;cases n1;obtain⟨t,fa,fd,k1,k2,k3,k4⟩:=n2 _ fi q2;exact⟨_,C,fi,t,fa,fd,F,hP,hl,I,q2,mg_of X G I,⟨g5,k3.at_,k3.fn,g6⟩,k1,k2,hF,k4 F hF,L⟩;cases L;cases L
  chk:=chk }
theorem aFQ{l:I0}{XP:(Str->Option Value)->Heap->Prop}{YP:AL->Heap->Prop}{d:DefRec}{sp:Ap->Sp}(hn:l.most=some n)(Z:n<=sizeLine)(M:d.params.defaults=[])(hr:fS k F2)
 (F:∀(w:AL) (mg:Str->Option Value) (fa:Addr) (h:Heap),YP w h->h.Ns AI mg->mg d.name=some (.ref fa)->∃K:Ap,K.In h/\∃fd:Dv,(∀(s:Ad) (u:Value),JC s fd ⟨[u],[]⟩ [(x,u)])/\∀base:Heap,K.In base->base.Ns AI mg->eY l.prog w K mg base CX0 k fa fd [x] (sp K))
 (q0:∀(K:Ap) (H:Hp) (a:Addr) (ns:List Int),ns.length<=n->aHq H->SqL K H a (ns.map V.int)->sp K [.ref a] H (λv _=>v=.bl true) λ_ _ _=>False):PySem.W.WalkO q loose XP YP l.row.toRowW d [] (λf vs=>Gy f vs):=by refine Att.attach_call hn M λw s₀ q1 mg mb fa o pm cd doc a vs ns G Y ho hd q2 U L I B hg=>?_;obtain⟨K,KX,fd,hb,hF⟩:=F w mg fa _ Y G.T.g U;exact aEu KX G.T.g G.T.b G.T.builtins G.T.nolimit hg L I (AW B Z) hr hF hb (λH hO hS=>q0 K H a ns B hO hS) λ_ _ _ z=>z
noncomputable def lst(p:A2):BY:=p.main.body.getLastD (.Pass ⟨0,0,0,0⟩)
noncomputable def tY(p:A2):A2:={ p with main:={ p.main with body:=[lst p] } }
noncomputable def vS(p:A2):List Str:=(p.main.scope.names.map (·.1)).filter λx=>!(Hu x (bI (lst p)))
noncomputable def aLA(s:BY):Du:=match s with|.FunctionDef _ _ _ _ _ _ _ _ _ p=>p|_=>⟨0,0,0,0⟩
noncomputable def kR(p:A2):DefRec:=⟨bI (lst p),gL (lst p),defBody (lst p),bC (lst p),aLA (lst p)⟩
theorem aLB{l:I0}{P:Pg}{n:Sn}{ix:List (Nat×List Str)}{k f N:Nat}{x:Str}{sl:List Str}(q0:l.row.wellSaid=true)(Z:KZ l.prog (tY l.prog) (vS l.prog) (λ_=>true) (λs=>jH l.prog n s.heap) (λw=>nF l.prog n w) N)
 (U:defOf (tY l.prog) l.name=some (kR l.prog,[])) (hp:l.prog.theDef l.name=some ((kR l.prog).params,(kR l.prog).body,(kR l.prog).scope)) (hk:kwWritten? (kR l.prog).params.kwonlyargs (kR l.prog).params.kw_defaults=some []) (q4:(!l.writes||([]:WRecords).isEmpty)=true)
 (ok:(chainsOk (tY l.prog)&&opensWell l.prog&&(frees l.row.toRowW&&l.row.within.isEmpty))=true) (hb:l.prog.bare) (hw:l.row.toRowW.promised) (hn:l.most=some 63) (q1:(kR l.prog).params.defaults=[])
 (hi:(ix.all λc=>yY (gC l.prog c.1))=true) (M:((P.fns.zip (ix.map (jQ l.prog)++(mts n).map (qP l.prog))).all λq=>jG (gL q.2.st) (q.2.N.take q.1.np))=true) (chk:nE ⟨[],[],(ix.map (jQ l.prog)).map (·.x),n.cns,[],true,n.tbs.map (·.1),n.obs.map λo=>dJ (gC l.prog o.1)⟩ P.fns (ix.map (jQ l.prog)++(mts n).map (qP l.prog))=true)
 (h4:P.tabs=n.tbs.map λq=>aDE q.2) (h5:(n.tbs.all λq=>aCf q.2)=true) (h6:P.objs=aIc l.prog n) (h9:aFP P=true) (h7:(mts n).map (·.2.2.1)=(Au (mts n).length).map (·+ix.length)) (hr:fS (k+1) F2) (hx:(ix.map (jQ l.prog))[f]? = some ⟨bI (lst l.prog),bI (lst l.prog),lst l.prog,x::sl⟩) (q3:(P.fns[f]?).map (·.np)=some 1)
 (pure:∀ns:List Int,ns.length<=63->∃fr pa,Hp.call P (k+1) f [.lst (ns.map D.int)]=.ok (.bl true,fr,pa)):l.row.Holds:=by
 refine holds_open (YP:=λw h=>∃I,jH l.prog n I=nF l.prog n w/\∀b o,I.get? b=some o->h.get? b=some o) Z (λw s e=>⟨s.heap,e,λ_ _ z=>z⟩) (λw h h' ⟨I,e,k⟩ k'=>⟨I,e,λb o z=>k' b o (k b o z)⟩) (λ_ _=>trivial) (λ_ _ _ _ _=>trivial) U hp hk (λ_ _=>recFacts_nil rfl) q4 q0 ok hb hw ?_;obtain⟨F,hF,L⟩:=Bf.mp q3;refine aFQ (x:=x) hn (by decide) q1 hr (λw mg fa h ⟨I,e,kk⟩ G q2=>?_) λK H a ns hl hO hS=>aLt hO hS (pure ns hl);have T:=aLz (prog:=l.prog) (Γ:=⟨[],[],(ix.map (jQ l.prog)).map (·.x),n.cns,[],true,n.tbs.map (·.1),n.obs.map λo=>dJ (gC l.prog o.1)⟩) e kk G hi rfl rfl rfl h4 h5 h6 rfl h9 h7 M chk;have B:(ix.map (jQ l.prog)++(mts n).map (qP l.prog))[f]? = some ⟨bI (lst l.prog),bI (lst l.prog),lst l.prog,x::sl⟩:=by rw[A0 (Ai.mp hx).1];exact hx
 obtain⟨q5,fd,g1,g2,g3⟩:=T.fn f _ B (by rw[Ar,hx];rfl);cases(q2.symm.trans g1);refine⟨cO I,aCd kk,fd,λs u=>?_,λbase _ _=>?_⟩;obtain⟨oc,od,kV,doc,pm,an,cdv,ct,osl,rfl,lk,q6⟩:=g2.ex;refine .of_eq ((kQ (ps:=[x]) ?_ rfl).trans rfl);have:=AB.mp M (F,_) (mG (C0.mpr ⟨hF,B⟩));rw[L] at this;exact this;have:=aLs (base:=base) T B hF g2 k;rw[L] at this;exact this
end Hh
namespace Hp
open PySem (Str Operator CmpOp)
section
variable {P:Pg} {cl:Caller} {σ:Sg}
@[simp] theorem aA {α B:Type} (a:α) (f:α->R B):((R.ok a:R α) >>= f)=f a:=id rfl
@[simp] theorem yZ {α:Type} (x:R α):R.iff true x=x:=id rfl
@[simp] theorem aRk {α:Type} (x:α):R.of (some x)=.ok x:=id rfl
@[simp] theorem cF {α:Type} (a:α) (f:α->O):O.from σ (.ok a) f=f a:=id rfl
@[simp] theorem aLC (f:Sg->O):(O.next σ).on f=f σ:=id rfl
@[simp] theorem aFR (v:Vl) (f:Sg->O):(O.ret v).on f=.ret v:=id rfl
@[simp] theorem aI (d:D):ev P cl σ (.c d)=.ok (.cl d):=id rfl
@[simp] theorem oI (i:Nat):ev P cl σ (.v i)=cB σ i:=id rfl
@[simp] theorem aOC (o:Operator) (a b:E):ev P cl σ (.op o a b)=(ev P cl σ a >>= λx=>ev P cl σ b >>= λy=>opD o x y):=id rfl
@[simp] theorem aQq (a:E):ev P cl σ (.neg a)=(ev P cl σ a >>= λx=>match x.d with|.int i=>.ok (.cl (.int (-i)))|_=>.bad):=id rfl
@[simp] theorem aOD (a:E):ev P cl σ (.nt a)=(ev P cl σ a >>= λx=>gN x >>= λk=>.ok (.cl (.bl (!k)))):=id rfl
@[simp] theorem aOE (a b:E):ev P cl σ (.an a b)=(ev P cl σ a >>= λx=>match x.d with|.bl true=>ev P cl σ b|.bl false=>.ok (.cl (.bl false))|_=>.bad):=id rfl
@[simp] theorem aLD (a b:E):ev P cl σ (.orr a b)=(ev P cl σ a >>= λx=>match x.d with|.bl true=>.ok (.cl (.bl true))|.bl false=>ev P cl σ b|_=>.bad):=id rfl
@[simp] theorem aLE (t a b:E):ev P cl σ (.ife t a b)=(tst P cl σ t >>= λx=>if x then ev P cl σ a else ev P cl σ b):=id rfl
@[simp] theorem aLF (o:CmpOp) (a b:E):ev P cl σ (.cmp o a b)=(ev P cl σ a >>= λx=>ev P cl σ b >>= λy=>match cT o x.d y.d with|some k=>.ok (.cl (.bl k))|none=>.bad):=id rfl
@[simp] theorem aPh (o o':CmpOp) (a b c:E):ev P cl σ (.cmp2 o o' a b c)=(ev P cl σ a >>= λx=>ev P cl σ b >>= λy=>match cT o x.d y.d with
 | some true=>ev P cl σ c >>= λz=>(match cT o' y.d z.d with|some k=>.ok (.cl (.bl k))|none=>.bad)
 | some false=>.ok (.cl (.bl false))|none=>.bad):=id rfl
@[simp] theorem qQ (a b:E):ev P cl σ (.idx a b)=(ev P cl σ a >>= λx=>ev P cl σ b >>= λy=>eA x y):=id rfl
@[simp] theorem vT (es:Es):ev P cl σ (.tup es)=(evs P cl σ es >>= λvs=>.ok (aIV vs)):=id rfl
@[simp] theorem aLG (es:Es):ev P cl σ (.lst es)=(evs P cl σ es >>= λvs=>.ok (aBz vs)):=id rfl
@[simp] theorem fM (f:Nat) (es:Es):ev P cl σ (.call f es)=(evs P cl σ es >>= λvs=>cl f (vs.map (·.d)) >>= λr=>.ok (dC vs r)):=id rfl
@[simp] theorem aFS (b:Bi) (es:Es):ev P cl σ (.bi b es)=(evs P cl σ es >>= λvs=>biD b vs):=id rfl
@[simp] theorem aQr (a:E) (cs:List Cl):ev P cl σ (.isi a cs)=(ev P cl σ a >>= λx=>match isI cs P x.d with|some k=>.ok (.cl (.bl k))|none=>.bad):=id rfl
@[simp] theorem aPi (a:E) (h:E):ev P cl σ (.sli a .nil (.cons h .nil))=(ev P cl σ a >>= λx=>ev P cl σ h >>= λh=>match h.d with|.int h=>.iff (bE h) (iE x none (some h))|_=>.bad):=by
 show(ev P cl σ a >>= λx=>evs P cl σ .nil >>= λl=>evs P cl σ (.cons h .nil) >>= λh=>_)=_;cases ev P cl σ a with
 | ok x=>
  show(evs P cl σ (.cons h .nil) >>= λh=>_)=(ev P cl σ h >>= λh=>_)
  show((ev P cl σ h >>= λx=>evs P cl σ .nil >>= λxs=>R.ok (x::xs)) >>= λh=>_)=_;cases ev P cl σ h <;> rfl
 | exc e=>rfl|bad=>rfl
theorem mE(k:Nat)(caps:List Nat)(t:T)(it:It)(cond:Es)(elt:E):ev P cl σ (.comp k caps t it cond elt)=(walk P cl σ it >>= λxs=>
 cN (λx=>bP (Aj k .dead++caps.map λi=>((freeze σ xs.2)[i]?).getD .dead) x t >>= λB=>tsts P cl B cond >>= λk=>if k then (ev P cl B elt >>= λy=>.ok (some y)) else .ok none) xs.1 >>= λvs=>
 .iff (decide (vs.length<=lim)) (.ok (fB k caps xs.2 vs))):=rfl
@[simp] theorem bW:evs P cl σ .nil=.ok []:=id rfl
@[simp] theorem aE (e:E) (es:Es):evs P cl σ (.cons e es)=(ev P cl σ e >>= λx=>evs P cl σ es >>= λxs=>.ok (x::xs)):=id rfl
@[simp] theorem qR (a:E):tst P cl σ (.nt a)=(tst P cl σ a >>= λx=>.ok (!x)):=id rfl
@[simp] theorem aFT (a b:E):tst P cl σ (.an a b)=(tst P cl σ a >>= λx=>if x then tst P cl σ b else .ok false):=id rfl
@[simp] theorem aCh (a b:E):tst P cl σ (.orr a b)=(tst P cl σ a >>= λx=>if x then .ok true else tst P cl σ b):=id rfl
@[simp] theorem aRi (d:D):tst P cl σ (.c d)=gN (.cl d):=id rfl
@[simp] theorem aOF (i:Nat):tst P cl σ (.v i)=(cB σ i >>= λx=>gN x):=id rfl
@[simp] theorem aCi (o:CmpOp) (a b:E):tst P cl σ (.cmp o a b)=(ev P cl σ a >>= λx=>ev P cl σ b >>= λy=>match cT o x.d y.d with|some k=>.ok k|none=>.bad):=id rfl
@[simp] theorem zA (o o':CmpOp) (a b c:E):tst P cl σ (.cmp2 o o' a b c)=(ev P cl σ a >>= λx=>ev P cl σ b >>= λy=>match cT o x.d y.d with
 | some true=>ev P cl σ c >>= λz=>(match cT o' y.d z.d with|some k=>.ok k|none=>.bad)
 | some false=>.ok false|none=>.bad):=id rfl
@[simp] theorem qS (f:Nat) (es:Es):tst P cl σ (.call f es)=(evs P cl σ es >>= λvs=>cl f (vs.map (·.d)) >>= λr=>gN (dC vs r)):=id rfl
@[simp] theorem aPj (a:E) (cs:List Cl):tst P cl σ (.isi a cs)=(ev P cl σ a >>= λx=>match isI cs P x.d with|some k=>.ok k|none=>.bad):=id rfl
@[simp] theorem aPk (a b:E):tst P cl σ (.idx a b)=(ev P cl σ a >>= λx=>ev P cl σ b >>= λy=>eA x y >>= λz=>gN z):=id rfl
@[simp] theorem aFU:tsts P cl σ .nil=.ok true:=id rfl
@[simp] theorem aDF (e:E) (es:Es):tsts P cl σ (.cons e es)=(tst P cl σ e >>= λx=>if x then tsts P cl σ es else .ok false):=id rfl
@[simp] theorem aFV (a b:E):walk P cl σ (.rng a b)=(ev P cl σ a >>= λx=>ev P cl σ b >>= λy=>match x.d,y.d with|.int i,.int j=>.iff (bE i&&bE j) (.ok ((jZ i j).map .cl,[]))|_,_=>.bad):=id rfl
@[simp] theorem cG (e:E):walk P cl σ (.seq e)=(ev P cl σ e >>= λx=>match x.d with
 | .lst ds=>.ok (items x ds,x.al)|.tup ds=>.ok (items x ds,x.al)|.str a=>.iff (decide (a.length<=lim)) (.ok (a.cps.toList.map λn=>.cl (.str ⟨#[n]⟩),[]))|_=>.bad):=id rfl
@[simp] theorem aFW (a b:E):walk P cl σ (.zip a b)=(ev P cl σ a >>= λx=>ev P cl σ b >>= λy=>match xS x.d,xS y.d with
 | some as,some bs=>.ok (items ⟨.non,false,x.pa||y.pa,x.al++y.al⟩ (kE as bs),x.al++y.al)|_,_=>.bad):=id rfl
@[simp] theorem nG (t:T) (e:E):ex P cl σ (.set t e)=O.from σ (ev P cl σ e) λv=>O.from σ (bP (freeze σ v.al) v t) .next:=id rfl
@[simp] theorem aLH (i:Nat) (e:E):ex P cl σ (.app i e)=O.from σ (ev P cl σ e) λv=>put σ i v λds=>some (ds++[v.d]):=id rfl
@[simp] theorem aLI (i:Nat) (e:E):ex P cl σ (.ext i e)=O.from σ (ev P cl σ e) λv=>match aBB v with|some (v',ds')=>put σ i v' λds=>some (ds++ds')|none=>.bad:=id rfl
@[simp] theorem qT (i:Nat) (k e:E):ex P cl σ (.setIx i k e)=O.from σ (ev P cl σ e) λv=>O.from σ (ev P cl σ k) λB=>match B.d with
 | .int k=>put σ i v λds=>(match ixN ds.length k with|some j=>some (ds.set j v.d)|none=>none)
 | _=>.bad:=id rfl
@[simp] theorem vU (e:E):ex P cl σ (.ret e)=O.from σ (ev P cl σ e) .ret:=id rfl
@[simp] theorem kU (c:E) (a b:Ss):ex P cl σ (.iff c a b)=O.from σ (tst P cl σ c) λk=>if k then exs P cl σ a else exs P cl σ b:=id rfl
theorem aAS(t:T)(it:It)(b:Ss):ex P cl σ (.for t it b)=O.from σ (walk P cl σ it) λxs=>dO (λσ x=>O.from σ (bP σ x t) λσ'=>exs P cl σ' b) xs.1 (freeze σ xs.2):=rfl
@[simp] theorem aQs (i j:Nat):ex P cl σ (.mov i j)=(match σ[j]? with
 | some (.own pa ds)=>if i=j then .bad else .next ((σ.set j .dead).set i (.own pa ds))|some (.sh pa d)=>.next (σ.set i (.sh (pa&&!noL d) d))|_=>.bad):=id rfl
@[simp] theorem aIe (i:Nat):ex P cl σ (.retv i)=(match σ[i]? with|some (.own pa ds)=>.ret ⟨.lst ds,true,pa,[]⟩|some (.own2 dss)=>.ret ⟨.lst (dss.map .lst),true,false,[]⟩|_=>O.from σ (cB σ i) .ret):=id rfl
@[simp] theorem vV:exs P cl σ .nil=.next σ:=id rfl
@[simp] theorem cW (s:S) (ss:Ss):exs P cl σ (.cons s ss)=(ex P cl σ s).on λσ'=>exs P cl σ' ss:=id rfl
end
theorem aK{P:Pg}{F:Fn}{ds:List D}(hF:P.fns[f]? = some F)(B:ds.length=F.np){v:Vl}
 (h:exs P cl ((ds.map λd=>Sl.sh true d)++Aj (F.ns-F.np) Sl.dead) F.body=.ret v):mS P cl f ds=.ok (v.d,v.fr,v.pa):=by unfold mS;rw[hF];simp only[B,if_true,h]
theorem zB{f:Sg->Vl->O}:∀(xs:List Vl) (I:Nat->Sg->Prop) (σ:Sg),I 0 σ->(∀(i:Nat) (h:i<xs.length) (σ:Sg),I i σ->∃σ',f σ xs[i]=.next σ'/\I (i+1) σ')->∃σ',dO f xs σ=.next σ'/\I xs.length σ'
 | [],I,σ,h0,_=>⟨σ,rfl,h0⟩
 | x::xs,I,σ,h0,hs=>by
  obtain⟨B,G,U⟩:=hs 0 (by simp) σ h0;obtain⟨L,M,Z⟩:=zB xs (λi=>I (i+1)) B U λi h σ hI=>by have:=hs (i+1) (by simpa using h) σ hI;simpa using this
  refine⟨L,?_,by simpa using Z⟩;have G:f σ x=.next B:=by simpa using G
  unfold dO;rw[G];exact M
theorem aLJ(n:Nat):(jZ 0 (n:Int)).map Vl.cl=(Au n).map λ(k:Nat)=>Vl.cl (.int (k:Int)):=by unfold jZ;rw[A7];simp
theorem fE{xs:List Vl}(I:Nat->Sg->Prop)(Z:walk P cl σ it=.ok (xs,al))(M:I 0 (freeze σ al))
 (hs:∀(i:Nat) (h:i<xs.length) (σ:Sg),I i σ->∃B σ',bP σ xs[i] t=.ok B/\exs P cl B b=.next σ'/\I (i+1) σ'):∃σ',ex P cl σ (.for t it b)=.next σ'/\I xs.length σ':=by rw[aAS,Z];refine zB xs I _ M λi h σ U=>?_;obtain⟨B,σ',G,L,h'⟩:=hs i h σ U;refine⟨σ',?_,h'⟩;show O.from σ (bP σ xs[i] t) _=_;rw[G];exact L
theorem aIf:bE 0=true:=by decide
theorem aIg{n:Nat}(B:n<=1000000):bE (n:Int)=true:=by unfold bE;rw[bA,AJ,AJ];exact⟨Int.le_trans (b:=0) (by decide) (EB n),Int.lt_of_le_of_lt (b:=1000000) (by omega) (by decide)⟩
theorem eH{P:Pg}{cl:Caller}{σ:Sg}{a:E}{v:Vl}{n:Nat}(h:ev P cl σ a=.ok v)(hd:v.d=.int n)(B:n<=1000000):walk P cl σ (.rng (.c (.int 0)) a)=.ok ((Au n).map λ(k:Nat)=>Vl.cl (.int (k:Int)),[]):=by rw[aFV,h,aI,aA,aA,hd,<-aLJ];show R.iff (bE 0&&bE (n:Int)) _=_;rw[aIf,aIg B];rfl
theorem aDG{vs:List Vl}(h:noLs (vs.map (·.d))=true):fB k caps al vs=⟨.lst (vs.map (·.d)),true,false,[]⟩:=by unfold fB;rw[if_pos h]
end Hp
namespace HpS
open Hp PySem
noncomputable def box(b:Str×Int):D:=.tup [.str b.1,.int b.2]
noncomputable def aN(bs:List (Str×Int)):List D:=bs.map box
noncomputable def aB(is:List Int):D:=.tup (is.map D.int)
structure aQt (bs:List (Str×Int)):Prop where
 few:bs.length<=5
 one:∀b∈bs,1<=b.2/\b.2<=7
 room:(bs.map λb=>b.2+1).foldl (·*·) 1<=24
theorem gD:∀is:List Int,noLs (is.map D.int)=true
 | []=>rfl|i::is=>by simp[noLs,noL,gD is]
@[simp] theorem aG (is:List Int):noL (aB is)=true:=by simp[aB,noL,gD]
@[simp] theorem aCj (b:Str×Int):noL (box b)=true:=by simp[box,noL,noLs]
theorem nU:∀ss:List (List Int),noLs (ss.map aB)=true
 | []=>rfl|s::ss=>by simp[noLs,nU ss]
noncomputable def aLK(b:List Int)(top:Int):List (List Int):=(Au (top+1).toNat).map λ(h:Nat)=>b++[(h:Int)]
noncomputable def aFX(found:List (List Int))(top:Int):List (List Int):=found.flatMap λb=>aLK b top
noncomputable def fN(bs:List (Str×Int)):List (List Int):=bs.foldl (λfound b=>aFX found b.2) [[]]
theorem vW{bs:List (Str×Int)}(h:i<bs.length):fN (bs.take (i+1))=aFX (fN (bs.take i)) bs[i].2:=by rw[DR h];unfold fN;rw[EO];rfl
end HpS
namespace Hp
open PySem (Str)
@[simp] theorem aPl (d:D):(⟨d,false,false,[]⟩:Vl)=.cl d:=id rfl
@[simp] theorem dR (d:D):(Vl.cl d).d=d:=id rfl
@[simp] theorem aRj (d:D):(Vl.cl d).fr=false:=id rfl
@[simp] theorem aFY (d:D):(Vl.cl d).pa=false:=id rfl
@[simp] theorem qU (d:D):(Vl.cl d).al=[]:=id rfl
@[simp] theorem jI (d:D):(Vl.cl d).slot=.sh false d:=by cases d <;> rfl
@[simp] theorem aIh (ds:List D) (pa:Bool) (al:List Nat):(⟨.lst ds,true,pa,al⟩:Vl).slot=.own pa ds:=id rfl
@[simp] theorem aCk (i:Nat) (d:D):Sl.val i (.sh false d)=.ok (.cl d):=id rfl
@[simp] theorem vX (i:Nat) (pa:Bool) (k:Int):Sl.val i (.sh pa (.int k))=.ok (.cl (.int k)):=by cases pa <;> rfl
@[simp] theorem aPm (i:Nat) (pa:Bool) (k:Str):Sl.val i (.sh pa (.str k))=.ok (.cl (.str k)):=by cases pa <;> rfl
@[simp] theorem aQu (i:Nat) (pa:Bool) (k:Bool):Sl.val i (.sh pa (.bl k))=.ok (.cl (.bl k)):=by cases pa <;> rfl
@[simp] theorem aPn (i:Nat) (pa:Bool):Sl.val i (.sh pa .non)=.ok (.cl .non):=by cases pa <;> rfl
@[simp] theorem aIi (i:Nat) (ds:List D):Sl.val i (.sh true (.lst ds))=.ok ⟨.lst ds,false,true,[]⟩:=id rfl
theorem gU(i:Nat)(pa:Bool)(h:noL d=true):Sl.val i (.sh pa d)=.ok (.cl d):=by unfold Sl.val;simp[h]
@[simp] theorem aIj (i:Nat) (pa:Bool) (ds:List D):Sl.val i (.own pa ds)=.ok ⟨.lst ds,false,pa,[i]⟩:=id rfl
@[simp] theorem aCl (σ:Sg) (v:Vl) (i:Nat):bP σ v (.n i)=.ok (σ.set i v.slot):=id rfl
@[simp] theorem fO (σ:Sg):freeze σ []=σ:=id rfl
@[simp] theorem aFZ (b:Bool):gN (.cl (.bl b))=.ok b:=id rfl
@[simp] theorem aAT (args:List Vl) (d:D):dC args (d,false,false)=.cl d:=id rfl
@[simp] theorem aQv (args:List Vl) (d:D):dC args (d,true,false)=⟨d,true,false,[]⟩:=id rfl
@[simp] theorem aLL (a b:D):cT .Eq a b=eqD a b:=id rfl
@[simp] theorem aAU (a b:D):cT .NotEq a b=(eqD a b).map (!·):=id rfl
@[simp] theorem aAV (a b:Int):cT .Lt (.int a) (.int b)=some (decide (a<b)):=id rfl
@[simp] theorem aAW (a b:Int):cT .Gt (.int a) (.int b)=some (decide (b<a)):=id rfl
@[simp] theorem aLM (a b:Int):cT .LtE (.int a) (.int b)=some (decide (a<=b)):=id rfl
@[simp] theorem aQw (a b:Int):cT .GtE (.int a) (.int b)=some (decide (b<=a)):=id rfl
theorem aIk(n:Nat)(a b:Int):eqF (n+1) (.int a) (.int b)=some (a==b):=rfl
theorem aCm(n:Nat)(a b:List D):eqF (n+1) (.tup a) (.tup b)=dU n a b:=pE n a b
@[simp] theorem oT (a b:Int):eqD (.int a) (.int b)=some (a==b):=id rfl
@[simp] theorem aIl (a b:Str):eqD (.str a) (.str b)=some (a==b):=id rfl
@[simp] theorem aQx (a b:Bool):eqD (.bl a) (.bl b)=some (a==b):=id rfl
@[simp] theorem aPo (P:Pg) (k:Int):isI [.tInt] P (.int k)=some true:=id rfl
@[simp] theorem aOG (P:Pg) (k:Int):isI [.tBool] P (.int k)=some false:=id rfl
@[simp] theorem aPp (P:Pg) (k:Str):isI [.tStr] P (.str k)=some true:=id rfl
@[simp] theorem aPq (P:Pg) (k:List D):isI [.tTuple] P (.tup k)=some true:=id rfl
@[simp] theorem aPr (P:Pg) (k:List D):isI [.tList] P (.lst k)=some true:=id rfl
@[simp] theorem aQy (P:Pg) (k:Bool):isI [.tBool] P (.bl k)=some true:=id rfl
@[simp] theorem add_int (i j:Int):opD .Add (.cl (.int i)) (.cl (.int j))=.ok (.cl (.int (i+j))):=id rfl
@[simp] theorem sub_int (i j:Int):opD .Sub (.cl (.int i)) (.cl (.int j))=.ok (.cl (.int (i-j))):=id rfl
theorem mul_int(h:xP i j=true):opD .Mult (.cl (.int i)) (.cl (.int j))=.ok (.cl (.int (i*j))):=by show R.iff (xP i j) _=_;rw[h];rfl
theorem aIm(h:xQ j=true):opD .FloorDiv (.cl (.int i)) (.cl (.int j))=.ok (.cl (.int (i / j))):=by show R.iff (xQ j) _=_;rw[h];rfl
theorem aIn(h:0<j):opD .Mod (.cl (.int i)) (.cl (.int j))=.ok (.cl (.int (i % j))):=by show R.iff (decide (0<j)) _=_;rw[Av h];rfl
@[simp] theorem aCn (ds:List D) (fr pa:Bool) (al:List Nat):biD .len [⟨.lst ds,fr,pa,al⟩]=.ok (.cl (.int ds.length)):=id rfl
@[simp] theorem oU (ds:List D):biD .len [.cl (.tup ds)]=.ok (.cl (.int ds.length)):=id rfl
@[simp] theorem aOH (ds:List D):biD .len [.cl (.lst ds)]=.ok (.cl (.int ds.length)):=id rfl
end Hp
namespace HpS
open Hp PySem
section
variable {P:Pg} {cl:Caller} {σ σ':Sg}
theorem cs(h:ex P cl σ s=.next σ')(r:exs P cl σ' ss=o):exs P cl σ (.cons s ss)=o:=by rw[cW,h,aLC,r]
theorem bL(h:ev P cl σ e=.ok (.cl d)):ex P cl σ (.set (.n i) e)=.next (σ.set i (.sh false d)):=by rw[nG,h,cF,qU,fO,aCl,cF,jI]
theorem aS(h:ev P cl σ e=.ok v):exs P cl σ (.cons (.ret e) ss)=.ret v:=by rw[cW,vU,h];rfl
theorem aZ(h:tst P cl σ c=.ok false):ex P cl σ (.iff c a .nil)=.next σ:=by rw[kU,h];rfl
theorem bT(h:tst P cl σ c=.ok true)(r:exs P cl σ a=.ret v):exs P cl σ (.cons (.iff c a b) ss)=.ret v:=by rw[cW,kU,h,cF,if_pos rfl,r];rfl
theorem bM(h:ev P cl σ a=.ok x)(k:ev P cl σ b=.ok y)(e:eA x y=.ok z):ev P cl σ (.idx a b)=.ok z:=by rw[qQ,h,aA,k,aA,e]
theorem bJ(h:ev P cl σ a=.ok (.cl (.str w)))(q:(w==x)=b):tst P cl σ (.cmp .Eq a (.c (.str x)))=.ok b:=by rw[aCi,h,aA,aI,aA,dR,dR,aLL,aIl,q]
theorem cU{x y z:Vl}(B:ev P cl σ a=.ok x)(G:ev P cl σ b=.ok y)(I:ev P cl σ c=.ok z)(L:cl f [x.d,y.d,z.d]=.ok (d,false,false)):ev P cl σ (.call f (.cons a (.cons b (.cons c .nil))))=.ok (.cl d):=by simp_all
theorem v0_(h:noL d=true):ev P cl (.sh true d::r) (.v 0)=.ok (.cl d):=gU 0 true h
theorem v1_(h:noL d=true):ev P cl (s::.sh true d::r) (.v 1)=.ok (.cl d):=gU 1 true h
theorem v2_(h:noL d=true):ev P cl (s::t::.sh true d::r) (.v 2)=.ok (.cl d):=gU 2 true h
theorem aCo(h:tst P cl σ t=.ok k)(r:(if k then ev P cl σ a else ev P cl σ b)=.ok v):ev P cl σ (.ife t a b)=.ok v:=by rw[aLE,h,aA,r]
theorem aOI(h:ev P cl σ a=.ok (.cl (.bl k))):ev P cl σ (.nt a)=.ok (.cl (.bl !k)):=by rw[aOD,h];rfl
theorem aOJ(B:ev P cl σ a=.ok (.cl (.bl x)))(G:ev P cl σ b=.ok (.cl (.bl y))):ev P cl σ (.an a b)=.ok (.cl (.bl (x&&y))):=by rw[aOE,B,aA];cases x;rfl;exact G
theorem aGa(B:ev P cl σ a=.ok (.cl (.bl x)))(G:ev P cl σ b=.ok (.cl (.bl y))):ev P cl σ (.orr a b)=.ok (.cl (.bl (x||y))):=by rw[aLD,B,aA];cases x;exact G;rfl
theorem aDH(h:ev P cl σ a=.ok x)(k:ev P cl σ b=.ok y)(e:opD o x y=.ok z):ev P cl σ (.op o a b)=.ok z:=by rw[aOC,h,aA,k,aA,e]
theorem tZ{x y:Vl}(h:ev P cl σ a=.ok x)(g:ev P cl σ b=.ok y)(e:cT o x.d y.d=some k):ev P cl σ (.cmp o a b)=.ok (.cl (.bl k)):=by rw[aLF,h,aA,g,aA,e]
theorem fP(h:ev P cl σ a=.ok x)(e:biD b [x]=.ok z):ev P cl σ (.bi b (.cons a .nil))=.ok z:=by simp_all
end
end HpS
namespace Hp
open PySem (Str)
theorem cC{α:Type}{g:α->D}(B:∀t,noL (g t)=true):∀ts:List α,noLs (ts.map g)=true
 | []=>rfl|t::ts=>by rw[mC,noLs,B t,cC B ts];rfl
theorem qV{α:Type}{F:Vl->R (Option Vl)}{f:α->Vl}{g:α->D}{p:α->Bool}:∀{ts:List α},(∀t∈ts,F (f t)=.ok (if p t then some (.cl (g t)) else none))->cN F (ts.map f)=.ok ((ts.filter p).map λt=>.cl (g t))
 | [],_=>rfl|t::ts,h=>by
  show(F (f t) >>= λy=>cN F (ts.map f) >>= λG=>(match y with|some y=>R.ok (y::G)|none=>R.ok G))=_;rw[(h t Am),(qV λy I=>h y (Ag _ I))];cases B:p t with
  | true=>rw[List.filter_cons_of_pos B];rfl|false=>rw[List.filter_cons_of_neg (by rw[B];grind)];rfl
theorem aCp{α:Type}{g:α->D}(B:∀t,noL (g t)=true){k:Nat}{caps al:List Nat}(ts:List α):fB k caps al (ts.map λt=>Vl.cl (g t))=⟨.lst (ts.map g),true,false,[]⟩:=by
 have e:(ts.map λt=>Vl.cl (g t)).map (·.d)=ts.map g:=by rw[A7];rfl
 rw[aDG (by rw[e];exact cC B ts),e]
theorem vY{P:Pg}{cl:Caller}{σ:Sg}{k:Nat}{caps al:List Nat}{T:T}{it:It}{elt:E}{α:Type}{ts:List α}(f:α->Vl)(g:α->D)(M:∀t,noL (g t)=true)(L:walk P cl σ it=.ok (ts.map f,al))(I:ts.length<=lim)
 (G:∀t∈ts,∃B,bP (Aj k .dead++caps.map λi=>((freeze σ al)[i]?).getD .dead) (f t) T=.ok B/\ev P cl B elt=.ok (.cl (g t))):ev P cl σ (.comp k caps T it .nil elt)=.ok ⟨.lst (ts.map g),true,false,[]⟩:=by
 rw[mE,L,aA,qV (g:=g) (p:=λ_=>true) λt ht=>by
  obtain⟨B,U,Z⟩:=G t ht;simp_all]
 rw[aA,(List.filter_eq_self.mpr λ_ _=>rfl),(Av (by rw[lM];exact I)),yZ,aCp M]
theorem vZ{P:Pg}{cl:Caller}{σ:Sg}{k:Nat}{caps al:List Nat}{T:T}{it:It}{c elt:E}{α:Type}{ts:List α}(f:α->Vl)(g:α->D)(p:α->Bool)(ng:∀t,noL (g t)=true)(Z:walk P cl σ it=.ok (ts.map f,al))(U:ts.length<=lim)
 (M:∀t∈ts,∃B,bP (Aj k .dead++caps.map λi=>((freeze σ al)[i]?).getD .dead) (f t) T=.ok B/\tst P cl B c=.ok (p t)/\ev P cl B elt=.ok (.cl (g t))):ev P cl σ (.comp k caps T it (.cons c .nil) elt)=.ok ⟨.lst ((ts.filter p).map g),true,false,[]⟩:=by
 rw[mE,Z,aA,qV (p:=p) λt ht=>by
  obtain⟨B,G,I,L⟩:=M t ht;rw[G];show(tsts P cl B (.cons c .nil) >>= λk=>if k then (ev P cl B elt >>= λy=>R.ok (some y)) else R.ok none)=_;rw[aDF,I,aA];cases hp:p t with
  | true=>rw[if_pos rfl,aFU,aA,if_pos rfl,L];rfl|false=>rfl]
 rw[aA,(Av (by rw[lM];exact AW (FJ _ _) U)),yZ,aCp ng]
theorem dP{α:Type}{v:Vl}{g:α->D}(B:∀t,noL (g t)=true)(ts:List α):items v (ts.map g)=ts.map λt=>Vl.cl (g t):=by unfold items;rw[A7];refine B9 λt _=>?_;show Vl.sub v (g t)=_;unfold Vl.sub;rw[if_pos (B t)]
theorem oV(B:noL a=true)(G:noL b=true):noL (.tup [a,b])=true:=by simp[noL,noLs,B,G]
end Hp
namespace Hp
open PySem (Str Operator CmpOp)
section
variable {P:Pg} {cl:Caller} {σ:Sg}
@[simp] theorem aIo (a l:E):ev P cl σ (.sli a (.cons l .nil) .nil)=(ev P cl σ a >>= λx=>ev P cl σ l >>= λl=>match l.d with|.int l=>.iff (bE l) (iE x (some l) none)|_=>.bad):=by
 show(ev P cl σ a >>= λx=>evs P cl σ (.cons l .nil) >>= λl=>evs P cl σ .nil >>= λh=>_)=_;cases ev P cl σ a with
 | ok x=>
  show((ev P cl σ l >>= λx=>evs P cl σ .nil >>= λxs=>R.ok (x::xs)) >>= λl=>_)=(ev P cl σ l >>= λl=>_)
  cases ev P cl σ l <;> rfl
 | exc e=>rfl|bad=>rfl
@[simp] theorem aPs (a l h:E):ev P cl σ (.sli a (.cons l .nil) (.cons h .nil))=(ev P cl σ a >>= λx=>ev P cl σ l >>= λl=>ev P cl σ h >>= λh=>match l.d,h.d with|.int l,.int h=>.iff (bE l&&bE h) (iE x (some l) (some h))|_,_=>.bad):=by
 show(ev P cl σ a >>= λx=>evs P cl σ (.cons l .nil) >>= λl=>evs P cl σ (.cons h .nil) >>= λh=>_)=_;cases ev P cl σ a with
 | ok x=>
  show((ev P cl σ l >>= λx=>evs P cl σ .nil >>= λxs=>R.ok (x::xs)) >>= λl=>_)=(ev P cl σ l >>= λl=>_)
  cases ev P cl σ l with
  | ok l=>
   show((ev P cl σ h >>= λx=>evs P cl σ .nil >>= λxs=>R.ok (x::xs)) >>= λh=>_)=(ev P cl σ h >>= λh=>_)
   cases ev P cl σ h <;> rfl
  | exc e=>rfl|bad=>rfl
 | exc e=>rfl|bad=>rfl
end
theorem cP(h:k<n):ixN n (k:Int)=some k:=by unfold ixN;rw[if_pos (EB k),if_pos (by omega)];simp
theorem aIp{v:Vl}{is:List Int}(G:v.d=.lst (is.map D.int))(h:k<is.length):eA v (.cl (.int (k:Int)))=.ok (.cl (.int (is.getD k 0))):=by
 unfold eA;rw[G];have B:(is.map D.int).length=is.length:=by simp
 have e:(is.map D.int)[k]? = some (.int (is.getD k 0)):=by simp[h]
 simp only[dR,B,cP h,e,Vl.sub,noL,if_true]
noncomputable def num(c:Int):Nat->Int
 | 0=>c % 2147483647+48271|k+1=>(num c k*num c k+48271*num c k+(k:Int)) % 2147483647
end Hp
namespace HpS
open Hp PySem
inductive Sm where
 | num (n:Int)|box (k:Nat)|aft (k:Nat)|two (p:Bool) (a b:Sm)
noncomputable def aAX(p:Bool):Str:=if p then "plus" else "minus"
noncomputable def Sm.d:Sm->D
 | .num n=>.tup [.str "number",.int n]|.box k=>.tup [.str "box",.int k]|.aft k=>.tup [.str "after",.int k]|.two p a b=>.tup [.str (aAX p),a.d,b.d]
noncomputable def Sm.sz:Sm->Nat
 | .two _ a b=>1+a.sz+b.sz|_=>1
noncomputable def Sm.val(ah be:List Int):Sm->Int
 | .num n=>n|.box k=>ah.getD k 0|.aft k=>be.getD k 0|.two p a b=>if p then a.val ah be+b.val ah be else a.val ah be-b.val ah be
noncomputable def Sm.wf(c:Nat)(pl:Bool):Sm->Prop
 | .num n=>0<=n/\n<=99|.box k=>k<c|.aft k=>k<c/\pl=false|.two _ a b=>a.wf c pl/\b.wf c pl
theorem Sm.noL:∀s:Sm,Hp.noL s.d=true
 | .num _=>rfl|.box _=>rfl|.aft _=>rfl|.two _ a b=>by simp[Sm.d,Hp.noL,noLs,a.noL,b.noL]
theorem dS(h:Hp.noL d=true):Vl.sub v d=.cl d:=by unfold Vl.sub;rw[if_pos h]
theorem gW(x:D)(r:List D)(h:Hp.noL x=true):eA (.cl (.tup (x::r))) (.cl (.int 0))=.ok (.cl x):=by have:ixN (x::r).length 0=some 0:=cP (by simp);unfold eA;simp only[dR,this,gZ,dS h]
theorem iB(x y:D)(r:List D)(h:Hp.noL y=true):eA (.cl (.tup (x::y::r))) (.cl (.int 1))=.ok (.cl y):=by have:ixN (x::y::r).length 1=some 1:=cP (by simp);unfold eA;simp only[dR,this,gZ,gS,dS h]
theorem wC(x y z:D)(r:List D)(h:Hp.noL z=true):eA (.cl (.tup (x::y::z::r))) (.cl (.int 2))=.ok (.cl z):=by have:ixN (x::y::z::r).length 2=some 2:=cP (by simp);unfold eA;simp only[dR,this,gZ,gS,dS h]
theorem jJ{is:List Int}(h:k<is.length):eA (.cl (aB is)) (.cl (.int (k:Int)))=.ok (.cl (.int (is.getD k 0))):=by
 unfold eA aB;have B:(is.map D.int).length=is.length:=by simp
 have e:(is.map D.int)[k]? = some (.int (is.getD k 0)):=by simp[h]
 simp only[dR,B,cP h,e,Vl.sub,Hp.noL,if_true]
noncomputable def aGb(f:Nat):Fn:=⟨3,6,
 (.cons (.set (.n 3) (.idx (.v 0) (.c (.int 0))))
 (.cons (.iff (.cmp .Eq (.v 3) (.c (.str "number")))
  (.cons (.ret (.idx (.v 0) (.c (.int 1))))
  .nil)
  .nil)
 (.cons (.iff (.cmp .Eq (.v 3) (.c (.str "box")))
  (.cons (.ret (.idx (.v 1) (.idx (.v 0) (.c (.int 1)))))
  .nil)
  .nil)
 (.cons (.iff (.cmp .Eq (.v 3) (.c (.str "after")))
  (.cons (.ret (.idx (.v 2) (.idx (.v 0) (.c (.int 1)))))
  .nil)
  .nil)
 (.cons (.set (.n 4) (.call f (.cons (.idx (.v 0) (.c (.int 1))) (.cons (.v 1) (.cons (.v 2) .nil)))))
 (.cons (.set (.n 5) (.call f (.cons (.idx (.v 0) (.c (.int 2))) (.cons (.v 1) (.cons (.v 2) .nil)))))
 (.cons (.ret (.ife (.cmp .Eq (.v 3) (.c (.str "plus"))) (.op .Add (.v 4) (.v 5)) (.op .Sub (.v 4) (.v 5))))
 .nil)))))))⟩
theorem aQz:(("number" : Str) == "number")=true:=by grind
theorem aQA:(("box" : Str) == "number")=false:=by decide +kernel
theorem aQB:(("box" : Str) == "box")=true:=by grind
theorem aQC:(("after" : Str) == "number")=false:=by decide +kernel
theorem aQD:(("after" : Str) == "box")=false:=by decide +kernel
theorem aQE:(("after" : Str) == "after")=true:=by grind
theorem aQF:∀p,(aAX p == "number")=false:=by decide +kernel
theorem aQG:∀p,(aAX p == "box")=false:=by decide +kernel
theorem aQH:∀p,(aAX p == "after")=false:=by decide +kernel
theorem aQI:∀p,(aAX p == "plus")=p:=by decide +kernel
theorem iP{P:Pg}(hF:P.fns[f]? = some (aGb f)){G I:List Int}(U:G.length=c)(Z:I.length=c)(L:Hp.noL bd=true)(B:pl=false->bd=aB I) :
 ∀(s:Sm) (n:Nat),s.wf c pl->call P (n+s.sz) f [s.d,aB G,bd]=.ok (.int (s.val G I),false,false)
 | .num k,n,w=>by exact aK hF rfl (v:=.cl (.int k)) (cs (bL (bM (v0_ rfl) rfl (gW _ _ rfl))) (bT (bJ rfl aQz) (aS (bM (v0_ rfl) rfl (iB _ _ _ rfl)))))|.box k,n,w=>by have w:k<c:=w;exact aK hF rfl (v:=.cl (.int (G.getD k 0))) (cs (bL (bM (v0_ rfl) rfl (gW _ _ rfl))) (cs (aZ (bJ rfl aQA)) (bT (bJ rfl aQB) (aS (bM (v1_ (aG _)) (bM (v0_ rfl) rfl (iB _ _ _ rfl)) (jJ (by omega)))))))|.aft k,n,w=>by obtain⟨w1,w2⟩:k<c/\pl=false:=w;have e:=B w2;subst e;exact aK hF rfl (v:=.cl (.int (I.getD k 0))) (cs (bL (bM (v0_ rfl) rfl (gW _ _ rfl))) (cs (aZ (bJ rfl aQC)) (cs (aZ (bJ rfl aQD)) (bT (bJ rfl aQE) (aS (bM (v2_ (aG _)) (bM (v0_ rfl) rfl (iB _ _ _ rfl)) (jJ (by omega))))))))|.two p a b,n,w=>by
  obtain⟨w1,w2⟩:a.wf c pl/\b.wf c pl:=w;have M:=iP hF U Z L B a (n+b.sz) w1;rw[show n+b.sz+a.sz=n+a.sz+b.sz by omega] at M;have e:n+Sm.sz (.two p a b)=n+a.sz+b.sz+1:=by show n+(1+a.sz+b.sz)=_;omega
  rw[e];refine aK hF rfl (v:=.cl (.int (Sm.val G I (.two p a b)))) ?_;refine cs (bL (bM (v0_ (Sm.noL _)) rfl (gW _ _ rfl))) (cs (aZ (bJ rfl (aQF p))) (cs (aZ (bJ rfl (aQG p))) (cs (aZ (bJ rfl (aQH p))) (cs (bL (cU (bM (v0_ (Sm.noL _)) rfl (iB _ _ _ a.noL)) (v1_ (aG _)) (v2_ L) M)) (cs (bL (cU (bM (v0_ (Sm.noL _)) rfl (wC _ _ _ _ b.noL)) (v1_ (aG _)) (v2_ L) (iP hF U Z L B b (n+a.sz) w2))) (aS (aCo (bJ rfl (aQI p)) ?_)))))));cases p <;> rfl
theorem uA{P:Pg}{F:Fn}{ds:List D}(hF:P.fns[f]? = some F)(B:ds.length=F.np)
 (h:exs P cl ((ds.map λd=>Sl.sh true d)++Aj (F.ns-F.np) Sl.dead) F.body=.next σ):mS P cl f ds=.ok (.non,false,false):=by unfold mS;rw[hF];simp only[B,if_true,h]
noncomputable def aAY:Fn:=⟨1,1,(.cons (.ret (.an (.isi (.v 0) [.tInt]) (.nt (.isi (.v 0) [.tBool])))) .nil)⟩
noncomputable def wD(wh:Nat):Fn:=⟨3,3,(.cons (.ret (.an (.call wh (.cons (.v 0) .nil)) (.cmp2 .LtE .LtE (.v 1) (.v 0) (.v 2)))) .nil)⟩
theorem aGc{P:Pg}(hF:P.fns[wh]? = some aAY)(n:Nat)(i:Int):call P (n+1) wh [.int i]=.ok (.bl true,false,false):=aK (F:=aAY) hF rfl (v:=.cl (.bl true)) rfl
theorem aDI{P:Pg}(I:P.fns[wh]? = some aAY)(hF:P.fns[wi]? = some (wD wh))(n:Nat)(i a b:Int)(B:a<=i)(G:i<=b):call P (n+2) wi [.int i,.int a,.int b]=.ok (.bl true,false,false):=by refine aK (F:=wD wh) hF rfl (v:=.cl (.bl true)) ?_;simp[wD,cB,aGc I,B,G]
theorem aOK(e:E):ex P cl σ (.ex e)=O.from σ (ev P cl σ e) λ_=>.next σ:=rfl
inductive Cn where
 | yes|cmp (i:Bool) (a b:Sm)|nt (c:Cn)|two (p:Bool) (a b:Cn)
noncomputable def zC(i:Bool):Str:=if i then "is" else "less"
noncomputable def qW(p:Bool):Str:=if p then "both" else "either"
noncomputable def Cn.d:Cn->D
 | .yes=>.tup [.str "yes"]|.cmp i a b=>.tup [.str (zC i),a.d,b.d]|.nt c=>.tup [.str "not",c.d]|.two p a b=>.tup [.str (qW p),a.d,b.d]
noncomputable def Cn.sz:Cn->Nat
 | .yes=>1|.cmp _ a b=>1+a.sz+b.sz|.nt c=>1+c.sz|.two _ a b=>1+a.sz+b.sz
noncomputable def Cn.hold(ah be:List Int):Cn->Bool
 | .yes=>true|.cmp i a b=>if i then a.val ah be==b.val ah be else decide (a.val ah be<b.val ah be)|.nt c=>!c.hold ah be|.two p a b=>if p then a.hold ah be&&b.hold ah be else a.hold ah be||b.hold ah be
noncomputable def Cn.wf(c:Nat)(pl:Bool):Cn->Prop
 | .yes=>True|.cmp _ a b=>a.wf c pl/\b.wf c pl|.nt x=>x.wf c pl|.two _ a b=>a.wf c pl/\b.wf c pl
theorem Cn.noL:∀s:Cn,Hp.noL s.d=true
 | .yes=>rfl|.cmp _ a b=>by simp[Cn.d,Hp.noL,noLs,a.noL,b.noL]|.nt c=>by simp[Cn.d,Hp.noL,noLs,c.noL]|.two _ a b=>by simp[Cn.d,Hp.noL,noLs,a.noL,b.noL]
noncomputable def aLN(v f:Nat):Fn:=⟨3,6,
 (.cons (.set (.n 3) (.idx (.v 0) (.c (.int 0))))
 (.cons (.iff (.cmp .Eq (.v 3) (.c (.str "yes")))
  (.cons (.ret (.c (.bl true)))
  .nil)
  .nil)
 (.cons (.iff (.cmp .Eq (.v 3) (.c (.str "not")))
  (.cons (.ret (.nt (.call f (.cons (.idx (.v 0) (.c (.int 1))) (.cons (.v 1) (.cons (.v 2) .nil))))))
  .nil)
  .nil)
 (.cons (.iff (.cmp .Eq (.v 3) (.c (.str "both")))
  (.cons (.ret (.an (.call f (.cons (.idx (.v 0) (.c (.int 1))) (.cons (.v 1) (.cons (.v 2) .nil)))) (.call f (.cons (.idx (.v 0) (.c (.int 2))) (.cons (.v 1) (.cons (.v 2) .nil))))))
  .nil)
  .nil)
 (.cons (.iff (.cmp .Eq (.v 3) (.c (.str "either")))
  (.cons (.ret (.orr (.call f (.cons (.idx (.v 0) (.c (.int 1))) (.cons (.v 1) (.cons (.v 2) .nil)))) (.call f (.cons (.idx (.v 0) (.c (.int 2))) (.cons (.v 1) (.cons (.v 2) .nil))))))
  .nil)
  .nil)
 (.cons (.set (.n 4) (.call v (.cons (.idx (.v 0) (.c (.int 1))) (.cons (.v 1) (.cons (.v 2) .nil)))))
 (.cons (.set (.n 5) (.call v (.cons (.idx (.v 0) (.c (.int 2))) (.cons (.v 1) (.cons (.v 2) .nil)))))
 (.cons (.ret (.ife (.cmp .Eq (.v 3) (.c (.str "is"))) (.cmp .Eq (.v 4) (.v 5)) (.cmp .Lt (.v 4) (.v 5))))
 .nil))))))))⟩
theorem aQJ:(("yes" : Str) == "yes")=true:=by grind
theorem aQK:(("not" : Str) == "yes")=false:=by decide +kernel
theorem aQL:(("not" : Str) == "not")=true:=by grind
theorem aQM:∀p,(zC p == "yes")=false:=by decide +kernel
theorem aQN:∀p,(zC p == "not")=false:=by decide +kernel
theorem aQO:∀p,(zC p == "both")=false:=by decide +kernel
theorem aQP:∀p,(zC p == "either")=false:=by decide +kernel
theorem aQQ:∀p,(zC p == "is")=p:=by decide +kernel
theorem aQR:∀p,(qW p == "yes")=false:=by decide +kernel
theorem aQS:∀p,(qW p == "not")=false:=by decide +kernel
theorem aOL:∀p,(qW p == "both")=p:=by decide +kernel
theorem aQT:∀p,(qW p == "either")=!p:=by decide +kernel
theorem mF{P:Pg}(U:P.fns[v]? = some (aGb v))(hF:P.fns[f]? = some (aLN v f)){I L:List Int}(Z:I.length=c)(hb:L.length=c)(B:Hp.noL bd=true)(G:pl=false->bd=aB L) :
 ∀(s:Cn) (n:Nat),s.wf c pl->call P (n+s.sz) f [s.d,aB I,bd]=.ok (.bl (s.hold I L),false,false)
 | .yes,n,w=>by exact aK hF rfl (v:=.cl (.bl true)) (cs (bL (bM (v0_ rfl) rfl (gW _ _ rfl))) (bT (bJ rfl aQJ) (aS rfl)))|.cmp i a b,n,w=>by
  obtain⟨w1,w2⟩:a.wf c pl/\b.wf c pl:=w;have M:=iP U Z hb B G a (n+b.sz) w1;rw[show n+b.sz+a.sz=n+a.sz+b.sz by omega] at M;have e:n+Cn.sz (.cmp i a b)=n+a.sz+b.sz+1:=by show n+(1+a.sz+b.sz)=_;omega
  rw[e];refine aK hF rfl (v:=.cl (.bl (Cn.hold I L (.cmp i a b)))) ?_;refine cs (bL (bM (v0_ (Cn.noL _)) rfl (gW _ _ rfl))) (cs (aZ (bJ rfl (aQM i))) (cs (aZ (bJ rfl (aQN i))) (cs (aZ (bJ rfl (aQO i))) (cs (aZ (bJ rfl (aQP i))) (cs (bL (cU (bM (v0_ (Cn.noL _)) rfl (iB _ _ _ a.noL)) (v1_ (aG _)) (v2_ B) M)) (cs (bL (cU (bM (v0_ (Cn.noL _)) rfl (wC _ _ _ _ b.noL)) (v1_ (aG _)) (v2_ B) (iP U Z hb B G b (n+a.sz) w2))) (aS (aCo (bJ rfl (aQQ i)) ?_))))))));cases i <;> rfl
 | .nt x,n,w=>by
  have e:n+Cn.sz (.nt x)=n+x.sz+1:=by show n+(1+x.sz)=_;omega
  rw[e];exact aK hF rfl (v:=.cl (.bl (Cn.hold I L (.nt x)))) (cs (bL (bM (v0_ (Cn.noL _)) rfl (gW _ _ rfl))) (cs (aZ (bJ rfl aQK)) (bT (bJ rfl aQL) (aS (aOI (cU (bM (v0_ (Cn.noL _)) rfl (iB _ _ _ x.noL)) (v1_ (aG _)) (v2_ B) (mF U hF Z hb B G x n w)))))))
 | .two p a b,n,w=>by
  obtain⟨w1,w2⟩:a.wf c pl/\b.wf c pl:=w;have M:=mF U hF Z hb B G a (n+b.sz) w1;have c2:=mF U hF Z hb B G b (n+a.sz) w2;rw[show n+b.sz+a.sz=n+a.sz+b.sz by omega] at M;have e:n+Cn.sz (.two p a b)=n+a.sz+b.sz+1:=by show n+(1+a.sz+b.sz)=_;omega
  rw[e];refine aK hF rfl (v:=.cl (.bl (Cn.hold I L (.two p a b)))) ?_;refine cs (bL (bM (v0_ (Cn.noL _)) rfl (gW _ _ rfl))) (cs (aZ (bJ rfl (aQR p))) (cs (aZ (bJ rfl (aQS p))) ?_));cases p with
  | true=>exact bT (bJ rfl (aOL true)) (aS (aOJ (cU (bM (v0_ (Cn.noL _)) rfl (iB _ _ _ a.noL)) (v1_ (aG _)) (v2_ B) M) (cU (bM (v0_ (Cn.noL _)) rfl (wC _ _ _ _ b.noL)) (v1_ (aG _)) (v2_ B) c2)))|false=>exact cs (aZ (bJ rfl (aOL false))) (bT (bJ rfl (aQT false)) (aS (aGa (cU (bM (v0_ (Cn.noL _)) rfl (iB _ _ _ a.noL)) (v1_ (aG _)) (v2_ B) M) (cU (bM (v0_ (Cn.noL _)) rfl (wC _ _ _ _ b.noL)) (v1_ (aG _)) (v2_ B) c2))))
end HpS
namespace K35
open Hp
abbrev eC0:E:=.c (.int 0)
abbrev eC1:E:=.c (.int 1)
abbrev eC2:E:=.c (.int 2)
abbrev eC3:E:=.c (.int 3)
abbrev eC4:E:=.c (.int 4)
abbrev eC5:E:=.c (.int 5)
abbrev eC6:E:=.c (.int 6)
abbrev eC7:E:=.c (.int 7)
abbrev eC8:E:=.c (.int 8)
abbrev eC9:E:=.c (.int 9)
abbrev aOM:E:=.c (.int 16)
abbrev aQU:E:=.c (.int 24)
abbrev aQV:E:=.c (.int 30)
abbrev aON:E:=.c (.int 31)
abbrev aLO:E:=.c (.int 34)
abbrev aQW:E:=.c (.int 40)
abbrev aOO:E:=.c (.int 41)
abbrev aLP:E:=.c (.int 50)
abbrev aOP:E:=.c (.int 72)
abbrev aOQ:E:=.c (.int 128)
abbrev aOR:E:=.c (.int 216)
abbrev aLQ:E:=.c (.int 1000)
abbrev aIq:E:=.c (.int 48271)
abbrev wG:E:=.c (.int 2147483629)
abbrev wH:E:=.c (.int 2147483647)
abbrev eV0:E:=.v 0
abbrev eV1:E:=.v 1
abbrev eV2:E:=.v 2
abbrev eV3:E:=.v 3
abbrev eV4:E:=.v 4
abbrev eV5:E:=.v 5
abbrev eV6:E:=.v 6
abbrev eV7:E:=.v 7
abbrev eV8:E:=.v 8
abbrev eV9:E:=.v 9
abbrev iC:E:=.v 10
abbrev aAZ:E:=.v 11
abbrev aBa:E:=.v 12
abbrev aDJ:E:=.v 13
abbrev rZ:E:=.v 14
abbrev aLR:E:=.v 15
abbrev aQX:E:=.v 16
abbrev eCn:E:=.c .non
abbrev eL1(a:E):Es:=.cons a .nil
abbrev eL2(a b:E):Es:=.cons a (.cons b .nil)
abbrev eL3(a b c:E):Es:=.cons a (.cons b (.cons c .nil))
abbrev eL4(a b c d:E):Es:=.cons a (.cons b (.cons c (.cons d .nil)))
abbrev eL5(a b c d e:E):Es:=.cons a (.cons b (.cons c (.cons d (.cons e .nil))))
abbrev eL7(a b c d e f g:E):Es:=.cons a (.cons b (.cons c (.cons d (.cons e (.cons f (.cons g .nil))))))
abbrev eL8(a b c d e f g h:E):Es:=.cons a (.cons b (.cons c (.cons d (.cons e (.cons f (.cons g (.cons h .nil)))))))
noncomputable def f0:Hp.Fn:=⟨3,6,
 (.cons (.set (.n 3) (.idx eV0 eC0))
 (.cons (.iff (.cmp .Eq eV3 (.c (.str "number")))
  (.cons (.ret (.idx eV0 eC1))
  .nil)
  .nil)
 (.cons (.iff (.cmp .Eq eV3 (.c (.str "box")))
  (.cons (.ret (.idx eV1 (.idx eV0 eC1)))
  .nil)
  .nil)
 (.cons (.iff (.cmp .Eq eV3 (.c (.str "after")))
  (.cons (.ret (.idx eV2 (.idx eV0 eC1)))
  .nil)
  .nil)
 (.cons (.set (.n 4) (.call 0 (eL3 (.idx eV0 eC1) eV1 eV2)))
 (.cons (.set (.n 5) (.call 0 (eL3 (.idx eV0 eC2) eV1 eV2)))
 (.cons (.ret (.ife (.cmp .Eq eV3 (.c (.str "plus"))) (.op .Add eV4 eV5) (.op .Sub eV4 eV5)))
 .nil)))))))⟩
noncomputable def f1:Hp.Fn:=⟨3,6,
 (.cons (.set (.n 3) (.idx eV0 eC0))
 (.cons (.iff (.cmp .Eq eV3 (.c (.str "yes")))
  (.cons (.ret (.c (.bl true)))
  .nil)
  .nil)
 (.cons (.iff (.cmp .Eq eV3 (.c (.str "not")))
  (.cons (.ret (.nt (.call 1 (eL3 (.idx eV0 eC1) eV1 eV2))))
  .nil)
  .nil)
 (.cons (.iff (.cmp .Eq eV3 (.c (.str "both")))
  (.cons (.ret (.an (.call 1 (eL3 (.idx eV0 eC1) eV1 eV2)) (.call 1 (eL3 (.idx eV0 eC2) eV1 eV2))))
  .nil)
  .nil)
 (.cons (.iff (.cmp .Eq eV3 (.c (.str "either")))
  (.cons (.ret (.orr (.call 1 (eL3 (.idx eV0 eC1) eV1 eV2)) (.call 1 (eL3 (.idx eV0 eC2) eV1 eV2))))
  .nil)
  .nil)
 (.cons (.set (.n 4) (.call 0 (eL3 (.idx eV0 eC1) eV1 eV2)))
 (.cons (.set (.n 5) (.call 0 (eL3 (.idx eV0 eC2) eV1 eV2)))
 (.cons (.ret (.ife (.cmp .Eq eV3 (.c (.str "is"))) (.cmp .Eq eV4 eV5) (.cmp .Lt eV4 eV5)))
 .nil))))))))⟩
noncomputable def f2:Hp.Fn:=⟨3,7,
 (.cons (.iff (.nt (.call 1 (eL3 (.idx eV1 eC0) eV2 eCn)))
  (.cons (.ret eCn)
  .nil)
  .nil)
 (.cons (.set (.n 3) (.bi .list (eL1 eV2)))
 (.cons (.for (.t [4,5]) (.seq (.idx eV1 eC1))
  (.cons (.set (.n 6) (.call 0 (eL3 eV5 eV2 eCn)))
  (.cons (.iff (.nt (.cmp2 .LtE .LtE eC0 eV6 (.idx (.idx eV0 eV4) eC1)))
   (.cons (.ret eCn)
   .nil)
   .nil)
  (.cons (.setIx 3 eV4 eV6)
  .nil))))
 (.cons (.ret (.bi .tuple (eL1 eV3)))
 .nil))))⟩
noncomputable def f3:Hp.Fn:=⟨1,1,
 (.cons (.ret (.an (.isi eV0 [.tInt]) (.nt (.isi eV0 [.tBool]))))
 .nil)⟩
noncomputable def f4:Hp.Fn:=⟨3,3,
 (.cons (.ret (.an (.call 3 (eL1 eV0)) (.cmp2 .LtE .LtE eV1 eV0 eV2)))
 .nil)⟩
noncomputable def f5:Hp.Fn:=⟨1,6,
 (.cons (.set (.n 1) (.lst (eL1 (.tup .nil))))
 (.cons (.for (.t [2,3]) (.seq eV0)
  (.cons (.set (.n 4) (.lst .nil))
  (.cons (.for (.n 5) (.seq eV1)
   (.cons (.ext 4 (.comp 1 [5] (.n 0) (.rng eC0 (.op .Add eV3 eC1)) .nil (.op .Add eV1 (.tup (eL1 eV0)))))
   .nil))
  (.cons (.mov 1 4)
  .nil))))
 (.cons (.retv 1)
 .nil)))⟩
noncomputable def f6:Hp.Fn:=⟨2,2,
 (.cons (.iff (.orr (.nt (.isi eV1 [.tTuple])) (.cmp .NotEq (.bi .len (eL1 eV1)) (.bi .len (eL1 eV0))))
  (.cons (.ret (.c (.bl false)))
  .nil)
  .nil)
 (.cons (.ret (.bi .all (eL1 (.comp 2 [] (.t [0,1]) (.zip eV0 eV1) .nil (.call 4 (eL3 eV1 eC0 (.idx eV0 eC1)))))))
 .nil))⟩
noncomputable def f7:Hp.Fn:=⟨2,2,
 (.cons (.ret (.comp 1 [1] (.n 0) (.seq (.call 5 (eL1 eV0))) (eL1 (.call 1 (eL3 eV1 eV0 eCn))) eV0))
 .nil)⟩
noncomputable def f8:Hp.Fn:=⟨2,2,
 (.cons (.ret (.ife (.cmp2 .LtE .Lt eC0 eV1 (.bi .len (eL1 eV0))) (.idx eV0 eV1) (.lst .nil)))
 .nil)⟩
noncomputable def f9:Hp.Fn:=⟨1,1,
 (.cons (.ret (.op .Add (.bi .len (eL1 eV0)) eC1))
 .nil)⟩
noncomputable def f10:Hp.Fn:=⟨1,4,
 (.cons (.ret (.grp 0)) .nil)⟩
noncomputable def f11:Hp.Fn:=⟨7,7,
 (.cons (.ret (.call 12 (eL3 (.mk 0 (eL5 eV0 eV1 eV2 eV3 eV4)) eV5 eV6)))
 .nil)⟩
noncomputable def f12:Hp.Fn:=⟨3,8,
 (.cons (.ex (.call 13 (eL2 eV0 eV2)))
 (.cons (.for (.n 3) (.seq (.call 7 (eL2 (.fld 0 "boxes") eV1)))
  (.cons (.iff (.cmp .NotIn eV3 (.idx eV2 eC0))
   (.cons (.ret (.tup (eL2 (.c (.str "begin")) eV3)))
   .nil)
   .nil)
  .nil))
 (.cons (.for (.t [4,5]) (.enum eV2)
  (.cons (.for (.n 6) (.seq eV5)
   (.cons (.set (.n 7) (.call 15 (eL4 eV0 eV2 eV4 eV6)))
   (.cons (.iff (.cmp .IsNot eV7 eCn)
    (.cons (.retv 7)
    .nil)
    .nil)
   .nil)))
  .nil))
 (.cons (.ret eCn)
 .nil))))⟩
noncomputable def f13:Hp.Fn:=⟨2,3,
 (.cons (.iff (.orr (.nt (.isi eV1 [.tList])) (.cmp .NotEq (.bi .len (eL1 eV1)) (.call 9 (eL1 (.fld 0 "hand")))))
  (.cons (.rse 1 false (eL1 (.c (.str "a paper is a list with a list of stands for each place"))))
  .nil)
  .nil)
 (.cons (.for (.n 2) (.seq eV1)
  (.cons (.ex (.call 14 (eL2 (.fld 0 "boxes") eV2)))
  .nil))
 .nil))⟩
noncomputable def f14:Hp.Fn:=⟨2,2,
 (.cons (.iff (.orr (.nt (.isi eV1 [.tList])) (.nt (.bi .all (eL1 (.comp 1 [0] (.n 0) (.seq eV1) .nil (.call 6 (eL2 eV1 eV0)))))))
  (.cons (.rse 1 false (eL1 (.c (.str "a paper has a list of stands of the boxes for each place"))))
  .nil)
  .nil)
 (.cons (.iff (.cmp .NotEq eV1 (.sset eV1))
  (.cons (.rse 1 false (eL1 (.c (.str "a paper's stands are rising, each once"))))
  .nil)
  .nil)
 .nil))⟩
noncomputable def f15:Hp.Fn:=⟨4,8,
 (.cons (.iff (.nt (.mcl 0 "noted" (eL2 eV2 eV3)))
  (.cons (.ret (.tup (eL3 (.c (.str "note")) eV2 eV3)))
  .nil)
  .nil)
 (.cons (.for (.t [4,5,6]) (.seq (.mcl 0 "own_from" (eL2 eV2 eV3)))
  (.cons (.iff (.cmp .NotIn eV6 (.idx eV1 eV5))
   (.cons (.ret (.tup (eL4 (.c (.str "own")) eV2 eV3 eV4)))
   .nil)
   .nil)
  (.cons (.iff (.nt (.mcl 0 "keeps" (eL2 eV3 eV6)))
   (.cons (.ret (.tup (eL4 (.c (.str "promise")) eV2 eV3 eV4)))
   .nil)
   .nil)
  .nil)))
 (.cons (.for (.t [7,6]) (.seq (.mcl 0 "others_from" (eL1 eV3)))
  (.cons (.iff (.cmp .NotIn eV6 (.idx eV1 eV2))
   (.cons (.ret (.tup (eL5 (.c (.str "other")) eV2 eV3 eV7 eV6)))
   .nil)
   .nil)
  .nil))
 (.cons (.ret eCn)
 .nil))))⟩
noncomputable def f16:Hp.Fn:=⟨2,3,
 (.cons (.set (.n 2) (.op .Mod (.op .Mult (.op .Add (.op .Add eV0 eV1) eC1) (.op .Add aIq (.op .Mult (.op .Mult eC2 eV1) eV1))) wH))
 (.cons (.ret (.op .Mod (.op .Mult eV2 eV2) wG))
 .nil))⟩
noncomputable def f17:Hp.Fn:=⟨2,2,
 (.cons (.iff (.cmp .Eq (.bi .len (eL1 eV0)) eC0)
  (.cons (.ret (.call 16 (eL2 eC7 eV1)))
  .nil)
  .nil)
 (.cons (.ret (.call 16 (eL2 (.idx eV0 (.op .Mod eV1 (.bi .len (eL1 eV0)))) eV1)))
 .nil))⟩
noncomputable def f18:Hp.Fn:=⟨1,7,
 (.cons (.set (.n 1) (.lst (eL1 (.tup .nil))))
 (.cons (.for (.t [2,3]) (.seq eV0)
  (.cons (.set (.n 4) (.lst .nil))
  (.cons (.for (.n 5) (.seq eV1)
   (.cons (.for (.n 6) (.rng eC0 (.op .Add eV3 eC1))
    (.cons (.app 4 (.op .Add eV5 (.tup (eL1 eV6))))
    .nil))
   .nil))
  (.cons (.mov 1 4)
  .nil))))
 (.cons (.retv 1)
 .nil)))⟩
noncomputable def f19:Hp.Fn:=⟨2,5,
 (.cons (.set (.n 2) (.tup (eL2 (.c (.str "box")) (.op .Mod eV0 eV1))))
 (.cons (.set (.n 3) (.tup (eL2 (.c (.str "box")) (.op .Mod (.op .FloorDiv eV0 eC4) eV1))))
 (.cons (.set (.n 4) (.lst (eL4 (.tup (eL2 (.c (.str "number")) (.op .Mod (.op .FloorDiv eV0 aOM) eC8))) eV2 (.tup (eL3 (.c (.str "plus")) eV2 (.tup (eL2 (.c (.str "number")) eC1)))) (.tup (eL3 (.c (.str "minus")) eV2 (.tup (eL2 (.c (.str "number")) eC1)))))))
 (.cons (.set (.n 4) (.op .Add eV4 (.lst (eL2 (.tup (eL3 (.c (.str "plus")) eV2 eV3)) (.tup (eL3 (.c (.str "minus")) eV3 eV2))))))
 (.cons (.ret (.idx eV4 (.op .Mod (.op .FloorDiv eV0 aOQ) eC6)))
 .nil)))))⟩
noncomputable def f20:Hp.Fn:=⟨2,5,
 (.cons (.set (.n 2) (.call 19 (eL2 (.call 16 (eL2 eV0 eC1)) eV1)))
 (.cons (.set (.n 3) (.call 19 (eL2 (.call 16 (eL2 eV0 eC2)) eV1)))
 (.cons (.set (.n 4) (.idx (.lst (eL4 (.tup (eL1 (.c (.str "yes")))) (.tup (eL3 (.c (.str "less")) eV2 eV3)) (.tup (eL3 (.c (.str "is")) eV2 eV3)) (.tup (eL3 (.c (.str "less")) eV2 (.tup (eL2 (.c (.str "number")) eC3)))))) (.op .Mod eV0 eC4)))
 (.cons (.iff (.cmp .Eq (.op .Mod (.op .FloorDiv eV0 eC4) eC4) eC0)
  (.cons (.ret (.tup (eL2 (.c (.str "not")) eV4)))
  .nil)
  .nil)
 (.cons (.iff (.cmp .Eq (.op .Mod (.op .FloorDiv eV0 eC4) eC4) eC1)
  (.cons (.ret (.tup (eL3 (.c (.str "either")) eV4 (.tup (eL3 (.c (.str "less")) eV3 (.tup (eL2 (.c (.str "number")) (.op .Add eC1 (.op .Mod (.op .FloorDiv eV0 aOM) eC4)))))))))
  .nil)
  .nil)
 (.cons (.iff (.cmp .Eq (.op .Mod (.op .FloorDiv eV0 eC4) eC4) eC2)
  (.cons (.retv 4)
  .nil)
  .nil)
 (.cons (.ret (.tup (eL3 (.c (.str "both")) (.tup (eL2 (.c (.str "not")) (.tup (eL3 (.c (.str "is")) eV2 eV3)))) eV4)))
 .nil)))))))⟩
noncomputable def f21:Hp.Fn:=⟨3,6,
 (.cons (.set (.n 3) (.lst .nil))
 (.cons (.for (.n 4) (.rng eC0 eV1)
  (.cons (.iff (.cmp .Eq (.op .Mod (.call 16 (eL2 eV0 (.op .Add eV4 eC3))) eC3) eC0)
   (.cons (.app 3 (.tup (eL2 eV4 (.call 19 (eL2 (.call 16 (eL2 eV0 (.op .Add eV4 eC9))) eV1)))))
   .nil)
   .nil)
  .nil))
 (.cons (.set (.n 5) (.tup (eL1 (.c (.str "yes")))))
 (.cons (.iff (.cmp .Gt (.op .Mod eV0 eC3) eC0)
  (.cons (.set (.n 5) (.call 20 (eL2 (.op .FloorDiv eV0 eC3) eV1)))
  .nil)
  .nil)
 (.cons (.ret (.tup (eL3 eV5 (.bi .tuple (eL1 eV3)) (.op .Mod (.op .FloorDiv eV0 aLQ) eV2))))
 .nil)))))⟩
noncomputable def f22:Hp.Fn:=⟨2,7,
 (.cons (.set (.n 2) (.op .Mod (.call 17 (eL2 eV0 eC1)) eC5))
 (.cons (.set (.n 3) (.lst .nil))
 (.cons (.for (.n 4) (.rng eC0 eV2)
  (.cons (.set (.n 5) (.lst .nil))
  (.cons (.for (.n 6) (.rng eC0 (.op .Add eC1 (.op .Mod (.call 17 (eL2 eV0 (.op .Add eC2 eV4))) eC4)))
   (.cons (.app 5 (.call 21 (eL3 (.call 17 (eL2 eV0 (.op .Add (.op .Add eC8 (.op .Mult eC4 eV4)) eV6))) eV1 (.op .Add eV2 eC1))))
   .nil))
  (.cons (.app 3 eV5)
  .nil))))
 (.cons (.retv 3)
 .nil))))⟩
noncomputable def f23:Hp.Fn:=⟨3,8,
 (.cons (.set (.n 3) (.lst .nil))
 (.cons (.for (.n 4) (.seq eV1)
  (.cons (.for (.n 5) (.seq eV1)
   (.cons (.set (.n 6) (.bi .len (eL1 (.comp 1 [4,5] (.n 0) (.rng eC0 (.bi .len (eL1 eV4))) (eL1 (.cmp .NotEq (.idx eV1 eV0) (.idx eV2 eV0))) eV0))))
   (.cons (.set (.n 7) (.call 16 (eL2 eV0 (.op .Add (.op .Add (.bi .len (eL1 eV3)) (.op .Mult (.idx eV4 eC0) eC5)) (.op .Mult (.idx eV5 (.neg eC1)) eC3)))))
   (.cons (.iff (.an (.cmp .Gt eV6 eC0) (.orr (.cmp .Eq eV2 eC2) (.orr (.an (.cmp .Eq eV2 eC1) (.cmp .Eq eV6 eC1)) (.cmp .Eq (.op .Mod eV7 eC6) eC0))))
    (.cons (.app 3 (.tup (eL2 eV4 eV5)))
    .nil)
    .nil)
   .nil))))
  .nil))
 (.cons (.retv 3)
 .nil)))⟩
noncomputable def f24:Hp.Fn:=⟨2,4,
 (.cons (.iff (.cmp .Eq (.idx eV0 eC0) (.c (.str "number")))
  (.cons (.ret (.idx eV0 eC1))
  .nil)
  .nil)
 (.cons (.iff (.cmp .Eq (.idx eV0 eC0) (.c (.str "box")))
  (.cons (.ret (.idx eV1 (.idx eV0 eC1)))
  .nil)
  .nil)
 (.cons (.set (.n 2) (.call 24 (eL2 (.idx eV0 eC1) eV1)))
 (.cons (.set (.n 3) (.call 24 (eL2 (.idx eV0 eC2) eV1)))
 (.cons (.iff (.cmp .Eq (.idx eV0 eC0) (.c (.str "plus")))
  (.cons (.ret (.op .Add eV2 eV3))
  .nil)
  .nil)
 (.cons (.ret (.op .Sub eV2 eV3))
 .nil))))))⟩
noncomputable def f25:Hp.Fn:=⟨2,4,
 (.cons (.iff (.cmp .Eq (.idx eV0 eC0) (.c (.str "yes")))
  (.cons (.ret (.c (.bl true)))
  .nil)
  .nil)
 (.cons (.iff (.cmp .Eq (.idx eV0 eC0) (.c (.str "not")))
  (.cons (.ret (.nt (.call 25 (eL2 (.idx eV0 eC1) eV1))))
  .nil)
  .nil)
 (.cons (.iff (.cmp .Eq (.idx eV0 eC0) (.c (.str "is")))
  (.cons (.ret (.cmp .Eq (.call 24 (eL2 (.idx eV0 eC1) eV1)) (.call 24 (eL2 (.idx eV0 eC2) eV1))))
  .nil)
  .nil)
 (.cons (.iff (.cmp .Eq (.idx eV0 eC0) (.c (.str "less")))
  (.cons (.ret (.cmp .Lt (.call 24 (eL2 (.idx eV0 eC1) eV1)) (.call 24 (eL2 (.idx eV0 eC2) eV1))))
  .nil)
  .nil)
 (.cons (.set (.n 2) (.call 25 (eL2 (.idx eV0 eC1) eV1)))
 (.cons (.set (.n 3) (.call 25 (eL2 (.idx eV0 eC2) eV1)))
 (.cons (.iff (.cmp .Eq (.idx eV0 eC0) (.c (.str "both")))
  (.cons (.ret (.an eV2 eV3))
  .nil)
  .nil)
 (.cons (.ret (.orr eV2 eV3))
 .nil))))))))⟩
noncomputable def f26:Hp.Fn:=⟨3,6,
 (.cons (.iff (.nt (.call 25 (eL2 (.idx eV1 eC0) eV2)))
  (.cons (.ret eCn)
  .nil)
  .nil)
 (.cons (.set (.n 3) (.bi .list (eL1 eV2)))
 (.cons (.for (.t [4,5]) (.seq (.idx eV1 eC1))
  (.cons (.setIx 3 eV4 (.call 24 (eL2 eV5 eV2)))
  (.cons (.iff (.orr (.cmp .Lt (.idx eV3 eV4) eC0) (.cmp .Gt (.idx eV3 eV4) (.idx (.idx eV0 eV4) eC1)))
   (.cons (.ret eCn)
   .nil)
   .nil)
  .nil)))
 (.cons (.ret (.bi .tuple (eL1 eV3)))
 .nil))))⟩
noncomputable def f27:Hp.Fn:=⟨8,12,
 (.cons (.iff (.nt (.call 25 (eL2 (.idx eV4 eV6) eV7)))
  (.cons (.ret (.tup (eL3 (.c (.str "note")) eV6 eV7)))
  .nil)
  .nil)
 (.cons (.set (.n 8) (.lst .nil))
 (.cons (.iff (.cmp .Lt eV6 (.bi .len (eL1 eV1)))
  (.cons (.set (.n 8) (.idx eV1 eV6))
  .nil)
  .nil)
 (.cons (.for (.n 9) (.rng eC0 (.bi .len (eL1 eV8)))
  (.cons (.set (.n 10) (.call 26 (eL3 eV0 (.idx eV8 eV9) eV7)))
  (.cons (.iff (.an (.cmp .IsNot iC eCn) (.cmp .NotIn iC (.idx eV5 (.idx (.idx eV8 eV9) eC2))))
   (.cons (.ret (.tup (eL4 (.c (.str "own")) eV6 eV7 eV9)))
   .nil)
   .nil)
  (.cons (.iff (.an (.cmp .IsNot iC eCn) (.an (.cmp .NotEq iC eV7) (.cmp .NotIn (.tup (eL2 eV7 iC)) eV2)))
   (.cons (.ret (.tup (eL4 (.c (.str "promise")) eV6 eV7 eV9)))
   .nil)
   .nil)
  .nil))))
 (.cons (.for (.n 9) (.rng eC0 (.bi .len (eL1 eV3)))
  (.cons (.for (.t [11,10]) (.seq (.idx eV3 eV9))
   (.cons (.iff (.an (.cmp .Eq aAZ eV7) (.cmp .NotIn iC (.idx eV5 eV6)))
    (.cons (.ret (.tup (eL5 (.c (.str "other")) eV6 eV7 eV9 iC)))
    .nil)
    .nil)
   .nil))
  .nil))
 (.cons (.ret eCn)
 .nil))))))⟩
noncomputable def f28:Hp.Fn:=⟨8,11,
 (.cons (.for (.n 8) (.seq eV1)
  (.cons (.iff (.an (.call 25 (eL2 eV6 eV8)) (.cmp .NotIn eV8 (.idx eV7 eC0)))
   (.cons (.ret (.tup (eL2 (.c (.str "begin")) eV8)))
   .nil)
   .nil)
  .nil))
 (.cons (.for (.n 9) (.rng eC0 (.bi .len (eL1 eV7)))
  (.cons (.for (.n 8) (.seq (.idx eV7 eV9))
   (.cons (.set (.n 10) (.call 27 (eL8 eV0 eV2 eV3 eV4 eV5 eV7 eV9 eV8)))
   (.cons (.iff (.cmp .IsNot iC eCn)
    (.cons (.retv 10)
    .nil)
    .nil)
   .nil)))
  .nil))
 (.cons (.ret eCn)
 .nil)))⟩
noncomputable def f29:Hp.Fn:=⟨2,2,
 (.cons (.iff (.cmp .Lt (.op .Mod eV0 eC4) eC2)
  (.cons (.ret (.bi .list (eL1 eV1)))
  .nil)
  .nil)
 (.cons (.iff (.cmp .Eq (.op .Mod eV0 eC4) eC2)
  (.cons (.ret (.comp 1 [0,1] (.n 0) (.seq eV1) (eL1 (.cmp .NotEq eV0 (.idx eV2 (.op .Mod (.op .FloorDiv eV1 eC4) (.bi .len (eL1 eV2)))))) eV0))
  .nil)
  .nil)
 (.cons (.ret (.comp 1 [0,1] (.n 0) (.rng eC0 (.bi .len (eL1 eV1))) (eL1 (.cmp .Eq (.op .Mod (.call 16 (eL2 eV1 eV0)) eC5) eC0)) (.idx eV2 eV0)))
 .nil)))⟩
noncomputable def f30:Hp.Fn:=⟨2,3,
 (.cons (.iff (.orr (.cmp .Is eV1 eCn) (.cmp .Is eV0 eCn))
  (.cons (.ret (.an (.cmp .Is eV0 eCn) (.cmp .Is eV1 eCn)))
  .nil)
  .nil)
 (.cons (.iff (.orr (.nt (.isi eV0 [.tTuple])) (.orr (.cmp .NotEq (.bi .len (eL1 eV0)) (.bi .len (eL1 eV1))) (.nt (.isi (.idx eV0 eC0) [.tStr]))))
  (.cons (.ret (.c (.bl false)))
  .nil)
  .nil)
 (.cons (.for (.n 2) (.seq (.sli eV0 (eL1 eC1) .nil))
  (.cons (.iff (.orr (.isi eV2 [.tBool]) (.nt (.isi eV2 [.tInt,.tTuple])))
   (.cons (.ret (.c (.bl false)))
   .nil)
   .nil)
  .nil))
 (.cons (.ret (.cmp .Eq eV0 eV1))
 .nil))))⟩
noncomputable def f31:Hp.Fn:=⟨4,7,
 (.cons (.set2 4 0)
 (.cons (.set (.n 5) (.op .Mod eV2 (.bi .len (eL1 eV0))))
 (.cons (.set (.n 6) (.idx eV1 (.op .Mod (.op .FloorDiv eV2 eC8) (.bi .len (eL1 eV1)))))
 (.cons (.iff (.an eV3 (.in2 .NotIn eV6 4 eV5))
  (.cons (.put2 4 eV5 (.srt (.add2 4 eV5 (.lst (eL1 eV6)))))
  .nil)
  .nil)
 (.cons (.iff (.an (.nt eV3) (.in2 .In eV6 4 eV5))
  (.cons (.rem2 4 eV5 eV6)
  .nil)
  .nil)
 (.cons (.retv 4)
 .nil))))))⟩
noncomputable def f32:Hp.Fn:=⟨1,17,
 (.cons (.set (.n 1) (.call 17 (eL2 eV0 eC0)))
 (.cons (.set (.n 2) (.idx (.lst (eL8 (.lst (eL1 eC5)) (.lst (eL2 eC2 eC1)) (.lst (eL2 eC2 eC2)) (.lst (eL2 eC3 eC2)) (.lst (eL3 eC1 eC1 eC1)) (.lst (eL3 eC2 eC1 eC1)) (.lst (eL2 eC2 eC3)) (.lst (eL4 eC1 eC1 eC1 eC1)))) (.op .Mod eV1 eC8)))
 (.cons (.set (.n 3) (.comp 1 [2] (.n 0) (.rng eC0 (.bi .len (eL1 eV2))) .nil (.tup (eL2 (.idx (.c (.str "abcd")) eV0) (.idx eV1 eV0)))))
 (.cons (.set (.n 4) (.call 18 (eL1 eV3)))
 (.cons (.set (.n 5) (.call 22 (eL2 eV0 (.bi .len (eL1 eV2)))))
 (.cons (.set (.n 6) (.op .Mod (.op .FloorDiv eV1 eC8) eC3))
 (.cons (.set (.n 7) (.call 23 (eL3 (.call 17 (eL2 eV0 aQV)) eV4 (.bi .max (eL2 eV6 (.op .Mod (.op .FloorDiv eV1 aQU) eC3))))))
 (.cons (.set (.n 8) (.comp 1 [0,4,6] (.n 0) (.rng eC0 (.op .Mod (.op .FloorDiv eV1 aOP) eC3)) .nil (.call 23 (eL3 (.call 17 (eL2 eV1 (.op .Add aON eV0))) eV2 eV3))))
 (.cons (.set (.n 9) (.comp 1 [] (.n 0) (.rng eC0 (.op .Add (.bi .len (eL1 eV5)) eC1)) .nil (.tup (eL1 (.c (.str "yes"))))))
 (.cons (.for (.n 10) (.rng eC0 (.bi .len (eL1 eV9)))
  (.cons (.iff (.cmp .Eq (.op .Mod (.call 17 (eL2 eV0 (.op .Add aLO iC))) eC4) eC0)
   (.cons (.setIx 9 iC (.call 20 (eL2 (.op .FloorDiv (.call 17 (eL2 eV0 (.op .Add aLO iC))) eC4) (.bi .len (eL1 eV2)))))
   .nil)
   .nil)
  .nil))
 (.cons (.set (.n 11) (.call 20 (eL2 (.call 17 (eL2 eV0 aQW)) (.bi .len (eL1 eV2)))))
 (.cons (.set (.n 12) (.comp 1 [0,1,4] (.n 0) (.rng eC0 (.op .Add (.bi .len (eL1 eV5)) eC1)) .nil (.call 29 (eL2 (.op .Add (.call 17 (eL2 eV1 (.op .Add aOO eV0))) (.op .Mult eC2 (.op .Mod (.op .FloorDiv eV2 aOR) eC2))) eV3))))
 (.cons (.for (.n 13) (.rng eC0 eC3)
  (.cons (.set (.n 14) (.lst (eL4 (.comp 1 [] (.n 0) (.seq eV5) .nil (.bi .list (eL1 eV0))) (.bi .list (eL1 eV7)) (.comp 1 [] (.n 0) (.seq eV8) .nil (.bi .list (eL1 eV0))) (.bi .list (eL1 eV9)))))
  (.cons (.set (.n 15) (.comp 1 [] (.n 0) (.seq aBa) .nil (.bi .list (eL1 eV0))))
  (.cons (.set (.n 16) (.call 11 (eL7 (.bi .list (eL1 eV3)) (.idx rZ eC0) (.idx rZ eC1) (.idx rZ eC2) (.idx rZ eC3) aAZ aLR)))
  (.cons (.iff (.nt (.call 30 (eL2 aQX (.call 28 (eL8 eV3 eV4 eV5 eV7 eV8 eV9 aAZ aBa)))))
   (.cons (.ret (.c (.bl false)))
   .nil)
   .nil)
  (.cons (.iff (.orr (.cmp .NotEq rZ (.lst (eL4 eV5 eV7 eV8 eV9))) (.cmp .NotEq aLR aBa))
   (.cons (.ret (.c (.bl false)))
   .nil)
   .nil)
  (.cons (.set (.n 12) (.call 31 (eL4 aBa eV4 (.call 17 (eL2 eV0 (.op .Add aLP aDJ))) (.cmp .Eq aDJ eC0))))
  .nil)))))))
 (.cons (.ret (.c (.bl true)))
 .nil))))))))))))))⟩
noncomputable def f33:Hp.Fn:=⟨6,6,
 (.cons (.sfl "boxes" eV1)
 (.cons (.sfl "hand" eV2)
 (.cons (.sfl "promised" (.call 10 (eL1 eV3)))
 (.cons (.sfl "others" (.comp 1 [] (.n 0) (.seq eV4) .nil (.call 10 (eL1 eV0))))
 (.cons (.sfl "notes" eV5)
 (.cons .ini .nil))))))⟩
noncomputable def f34:Hp.Fn:=⟨3,3,
 (.cons (.ret (.call 1 (eL3 (.idx (.fld 0 "notes") eV1) eV2 eCn)))
 .nil)⟩
noncomputable def f35:Hp.Fn:=⟨3,3,
 (.cons (.ret (.orr (.cmp .Eq eV1 eV2) (.cmp .In eV2 (.dgl (.fld 0 "promised") eV1))))
 .nil)⟩
noncomputable def f36:Hp.Fn:=⟨3,7,
 (.cons (.set (.n 3) (.lst .nil))
 (.cons (.for (.t [4,5]) (.enum (.call 8 (eL2 (.fld 0 "hand") eV1)))
  (.cons (.set (.n 6) (.call 2 (eL3 (.fld 0 "boxes") eV5 eV2)))
  (.cons (.iff (.cmp .IsNot eV6 eCn)
   (.cons (.app 3 (.tup (eL3 eV4 (.idx eV5 eC2) eV6)))
   .nil)
   .nil)
  .nil)))
 (.cons (.retv 3)
 .nil)))⟩
noncomputable def f37:Hp.Fn:=⟨2,5,
 (.cons (.set (.n 2) (.lst .nil))
 (.cons (.for (.t [3,4]) (.enum (.fld 0 "others"))
  (.cons (.ext 2 (.comp 1 [3] (.n 0) (.seq (.dgl eV4 eV1)) .nil (.tup (eL2 eV1 eV0))))
  .nil))
 (.cons (.retv 2)
 .nil)))⟩
noncomputable def pg:Hp.Pg:=⟨[f0,f1,f2,f3,f4,f5,f6,f7,f8,f9,f10,f11,f12,f13,f14,f15,f16,f17,f18,f19,f20,f21,f22,f23,f24,f25,f26,f27,f28,f29,f30,f31,f32,f33,f34,f35,f36,f37],[[.own 0,.tValueError],[.own 1,.own 0,.tValueError]],[],[("Duty",["boxes", "hand", "promised", "others", "notes"],[("__init__",33),("noted",34),("keeps",35),("own_from",36),("others_from",37)])]⟩
end K35
namespace K35
open Hp HpS PySem
noncomputable def drp:Nat->Ss->Ss
 | 0,s=>s|n+1,.cons _ s=>drp n s|_+1,.nil=>.nil
noncomputable def hdS:Ss->S
 | .cons s _=>s|.nil=>.pass
structure Way where
 g:Cn
 ps:List (Nat×Sm)
 nx:Int
noncomputable def iQ(p:Nat×Sm):D:=.tup [.int p.1,p.2.d]
noncomputable def Way.d(w:Way):D:=.tup [w.g.d,.tup (w.ps.map iQ),.int w.nx]
noncomputable def Up(ps:List (Nat×Sm)):Prop:=ps.Pairwise λp q=>p.1<q.1
structure nV (m:Nat) (p:Nat×Sm):Prop where
 box:p.1<m
 wf:p.2.wf m true
 sz:p.2.sz<=3
structure qX (m:Nat) (w:Way):Prop where
 g:w.g.wf m true
 gs:w.g.sz<=31
 ps:∀p∈w.ps,nV m p
 up:Up w.ps
theorem aCq(p:Nat×Sm):noL (iQ p)=true:=oV rfl p.2.noL
theorem jK(ps:List (Nat×Sm)):noLs (ps.map iQ)=true:=cC aCq ps
theorem gX(w:Way):noL w.d=true:=by simp[Way.d,noL,noLs,w.g.noL,jK]
theorem aDK(ws:List Way):noLs (ws.map Way.d)=true:=cC gX ws
theorem wJ(i:Nat){ds:List D}(h:noLs ds=true):biD .tuple [⟨.lst ds,false,false,[i]⟩]=.ok (.cl (.tup ds)):=by show R.ok (Vl.mk (.tup ds) false (false&&!noLs ds) (if noLs ds=true then [] else [i]))=_;rw[h];rfl
theorem stp{P:Pg}{cl:Caller}{σ σ':Sg}{s:S}{ss:Ss}(h:ex P cl σ s=.next σ'):exs P cl σ (.cons s ss)=exs P cl σ' ss:=by rw[cW,h,aLC]
noncomputable def mH(bs:List (Str×Int))(k:Nat):Int:=(bs.map (·.2)).getD k 0
noncomputable def putF(bs:List (Str×Int))(st:List Int):List Int->List (Nat×Sm)->Option (List Int)
 | acc,[]=>some acc|acc,p::ps=>if 0<=p.2.val st st/\p.2.val st st<=mH bs p.1 then putF bs st (acc.set p.1 (p.2.val st st)) ps else none
noncomputable def behF(bs:List (Str×Int))(w:Way)(st:List Int):Option (List Int):=if w.g.hold st st then putF bs st st w.ps else none
noncomputable def stD:Option (List Int)->D
 | none=>.non|some r=>aB r
theorem aLS{P:Pg}{cl:Caller}{σ:Sg}{a b:E}{x y:Int}(B:ev P cl σ a=.ok (.cl (.int x)))(G:ev P cl σ b=.ok (.cl (.int y))):tst P cl σ (.cmp2 .LtE .LtE eC0 a b)=.ok (decide (0<=x)&&decide (x<=y)):=by
 rw[zA,aI,aA,B,aA,dR,dR,aLM];cases decide (0<=x) with
 | true=>simp_all|false=>rfl
theorem aCr{bs:List (Str×Int)}{k:Nat}(h:k<bs.length):∃b:D,noL b=true/\eA ⟨.lst (aN bs),false,true,[]⟩ (.cl (.int (k:Int)))=.ok (.cl b)/\eA (.cl b) (.cl (.int 1))=.ok (.cl (.int (mH bs k))):=by
 refine⟨box bs[k],aCj _,?_,?_⟩;have B:(aN bs).length=bs.length:=by simp[aN]
 have e:(aN bs)[k]? = some (box bs[k]):=by simp[aN,h]
 unfold eA;simp only[dR,B,cP h,e,Vl.sub,aCj,if_true];have:=iB (.str bs[k].1) (.int bs[k].2) [] rfl;unfold box mH;rw[this];simp[h]
theorem aGd(n:Nat){bs:List (Str×Int)}{st:List Int}(hs:st.length=bs.length){s:Sm}(w:s.wf bs.length true)(z:s.sz<=3):call pg (n+3) 0 [s.d,aB st,.non]=.ok (.int (s.val st st),false,false):=by have:=iP (P:=pg) (f:=0) rfl (bd:=.non) (pl:=true) hs hs rfl (λh=>nomatch h) s (n+3-s.sz) w;rwa [show n+3-s.sz+s.sz=n+3 by omega] at this
theorem qY(n:Nat){bs:List (Str×Int)}{st:List Int}(hs:st.length=bs.length){q:Cn}(w:q.wf bs.length true)(z:q.sz<=31):call pg (n+31) 1 [q.d,aB st,.non]=.ok (.bl (q.hold st st),false,false):=by have:=mF (P:=pg) (f:=1) rfl rfl (bd:=.non) (pl:=true) hs hs rfl (λh=>nomatch h) q (n+31-q.sz) w;rwa [show n+31-q.sz+q.sz=n+31 by omega] at this
abbrev aGe:Ss:=match hdS (drp 2 f2.body) with|.for _ _ b=>b|_=>.nil
theorem aIr{p:Nat×Sm}{B s1 s2 G L M I:Sl}:bP [B,s1,s2,G,L,M,I] (.cl (iQ p)) (.t [4,5])=.ok [B,s1,s2,G,.sh false (.int p.1),.sh false p.2.d,I]:=by unfold bP iQ;simp only[dR,lC,lN,if_true,Ba,ES,BD,Gb,dS p.2.noL,dS (show noL (.int (p.1:Int))=true from rfl),jI,lS,lZ]
theorem aGf(B:List Int)(k:Nat)(v:Int):(B.map D.int).set k (.int v)=(B.set k v).map D.int:=by rw[F8]
theorem aGg(n:Nat){bs:List (Str×Int)}{st B:List Int}(hs:st.length=bs.length)(ha:B.length=bs.length)(hb:bs.length<=5){p:Nat×Sm}(o:nV bs.length p)(s1 s4 s5 M:Sl) :
 exs pg (call pg (n+3)) [.sh true (.lst (aN bs)),s1,.sh true (aB st),.own false (B.map D.int),.sh false (.int p.1),.sh false p.2.d,M] aGe =
  if 0<=p.2.val st st/\p.2.val st st<=mH bs p.1 then .next [.sh true (.lst (aN bs)),s1,.sh true (aB st),.own false ((B.set p.1 (p.2.val st st)).map D.int),.sh false (.int p.1),.sh false p.2.d,.sh false (.int (p.2.val st st))] else .ret (.cl .non):=by
 have L:=aGd n hs o.wf o.sz;generalize p.2.val st st=v at L;obtain⟨b,b1,U,Z⟩:=aCr o.box;have e1:ex pg (call pg (n+3)) [.sh true (.lst (aN bs)),s1,.sh true (aB st),.own false (B.map D.int),.sh false (.int p.1),.sh false p.2.d,M] (hdS aGe)=.next [.sh true (.lst (aN bs)),s1,.sh true (aB st),.own false (B.map D.int),.sh false (.int p.1),.sh false p.2.d,.sh false (.int v)]:=by simp only[aGe,hdS,drp,f2,nG,fM,aE,bW,oI,aI,cB,gS,gZ,aCk,(gU 2 true (aG st)),aA,mC,mN,dR,L,aAT,cF,qU,fO,aCl,jI,lS,lZ]
 have tt:=aLS (P:=pg) (cl:=call pg (n+3)) (σ:=[.sh true (.lst (aN bs)),s1,.sh true (aB st),.own false (B.map D.int),.sh false (.int p.1),.sh false p.2.d,.sh false (.int v)]) (a:=.v 6) (b:=.idx (.idx eV0 eV4) eC1) (y:=mH bs p.1) rfl (by
  simp only[qQ,oI,aI,cB,gS,gZ,aIi,vX,aA,U,Z])
 refine(stp e1).trans ?_;show exs pg (call pg (n+3)) _ (.cons (.iff (.nt _) _ _) (.cons (.setIx 3 eV4 eV6) .nil))=_;by_cases G:0<=v/\v<=mH bs p.1;have hd:(decide (0<=v)&&decide (v<=mH bs p.1))=true:=by rw[Av G.1,Av G.2];rfl
 rw[if_pos G];have hx:ixN B.length (p.1:Int)=some p.1:=cP (by rw[ha];exact o.box);have I:B.length<=lim:=by unfold lim;omega
 simp only[cW,vV,kU,qR,tt,aA,hd,D2,cF,bF,if_false,aLC,qT,oI,cB,gS,gZ,vX,dR,put,qU,fO,nQ,hx,aGf,lM,A1,I,if_true,aFY,ET,lS,lZ];have hd:(decide (0<=v)&&decide (v<=mH bs p.1))=false:=by
  cases h:(decide (0<=v)&&decide (v<=mH bs p.1)) with
  | false=>rfl|true=>simp only[bA,AJ] at h;exact absurd h G
 rw[if_neg G];simp only[cW,vV,kU,qR,tt,aA,hd,EA,cF,if_true,vU,aI,aFR]
theorem zD(n:Nat){bs:List (Str×Int)}{st:List Int}(hs:st.length=bs.length)(U:bs.length<=5)(s1:Sl):∀(ps:List (Nat×Sm)) (B:List Int) (G I L:Sl),(∀p∈ps,nV bs.length p)->B.length=bs.length ->
 ∃t4 t5 t6,dO (λσ x=>O.from σ (bP σ x (.t [4,5])) λσ'=>exs pg (call pg (n+3)) σ' aGe) (ps.map λp=>Vl.cl (iQ p)) [.sh true (.lst (aN bs)),s1,.sh true (aB st),.own false (B.map D.int),G,I,L] =
  (match putF bs st B ps with|none=>.ret (.cl .non)|some r=>.next [.sh true (.lst (aN bs)),s1,.sh true (aB st),.own false (r.map D.int),t4,t5,t6])
 | [],B,G,I,L,_,_=>⟨G,I,L,rfl⟩
 | p::ps,B,G,I,L,h,ha=>by rw[mC,dO,aIr,cF,(aGg n hs ha U (h p Am) s1 G I L),putF];by_cases M:0<=p.2.val st st/\p.2.val st st<=mH bs p.1;rw[if_pos M,if_pos M];exact zD n hs U s1 ps (B.set p.1 (p.2.val st st)) _ _ _ (λq Z=>h q (Ag _ Z)) (by rw[A1];exact ha);rw[if_neg M,if_neg M];exact⟨G,I,L,rfl⟩
theorem qZ{v:Vl}(ps:List (Nat×Sm)):items v (ps.map iQ)=ps.map λp=>Vl.cl (iQ p):=dP aCq ps
theorem aBb(n:Nat){bs:List (Str×Int)}{st:List Int}(hs:st.length=bs.length)(hb:bs.length<=5){w:Way}(o:qX bs.length w):call pg (n+32) 2 [.lst (aN bs),w.d,aB st]=.ok (stD (behF bs w st),false,false):=by
 have ch:=qY n hs o.g o.gs;have G:=gU 1 true (gX w);have I:=gU 2 true (aG st);have M:eA (.cl w.d) (.cl (.int 0))=.ok (.cl w.g.d):=gW w.g.d _ w.g.noL;have i1:eA (.cl w.d) (.cl (.int 1))=.ok (.cl (.tup (w.ps.map iQ))):=iB w.g.d (.tup (w.ps.map iQ)) _ (by rw[noL];exact jK _);refine aK rfl rfl (v:=.cl (stD (behF bs w st))) ?_;show exs pg (call pg (n+31)) [.sh true (.lst (aN bs)),.sh true w.d,.sh true (aB st),.dead,.dead,.dead,.dead] _=_;unfold behF;cases L:w.g.hold st st with
 | false=>rw[L] at ch;simp only[f2,cW,kU,qR,qS,aE,bW,qQ,oI,aI,cB,gS,gZ,G,I,aA,M,mC,mN,dR,ch,aAT,aFZ,EA,cF,if_true,vU,aFR,bF,if_false,stD]|true=>
  rw[L] at ch;obtain⟨t4,t5,t6,hl⟩:=zD (n+28) hs hb (.sh true w.d) w.ps st .dead .dead .dead o.ps hs;have U:ex pg (call pg (n+31)) [.sh true (.lst (aN bs)),.sh true w.d,.sh true (aB st),.dead,.dead,.dead,.dead] (hdS f2.body)=.next [.sh true (.lst (aN bs)),.sh true w.d,.sh true (aB st),.dead,.dead,.dead,.dead]:=by simp only[hdS,f2,vV,kU,qR,qS,aE,bW,qQ,oI,aI,cB,gS,gZ,G,I,aA,M,mC,mN,dR,ch,aAT,aFZ,D2,cF,bF,if_false]
  have Z:ex pg (call pg (n+31)) [.sh true (.lst (aN bs)),.sh true w.d,.sh true (aB st),.dead,.dead,.dead,.dead] (hdS (drp 1 f2.body))=.next [.sh true (.lst (aN bs)),.sh true w.d,.sh true (aB st),.own false (st.map D.int),.dead,.dead,.dead]:=by
   have B:biD .list [.cl (aB st)]=.ok ⟨.lst (st.map D.int),true,false,[]⟩:=by show R.ok (Vl.mk (.lst (st.map D.int)) true (false&&!noLs (st.map D.int)) (if noLs (st.map D.int)=true then [] else []))=_;rw[gD];rfl
   simp only[hdS,drp,f2,nG,aFS,aE,bW,oI,cB,gS,gZ,I,aA,B,cF,fO,aCl,aIh,lS,lZ]
  have hw:walk pg (call pg (n+31)) [.sh true (.lst (aN bs)),.sh true w.d,.sh true (aB st),.own false (st.map D.int),.dead,.dead,.dead] (.seq (.idx eV1 eC1))=.ok (w.ps.map (λp=>Vl.cl (iQ p)),[]):=by simp only[cG,qQ,oI,aI,cB,gS,gZ,G,aA,i1,dR,qZ,qU]
  refine(stp U).trans ((stp Z).trans ?_);show exs pg (call pg (n+31)) _ (.cons (.for (.t [4,5]) (.seq (.idx eV1 eC1)) aGe) _)=_;rw[cW,aAS,hw,cF];show(dO _ _ _).on _=_;rw[fO,hl,if_pos rfl];cases putF bs st st w.ps with
  | none=>rfl|some r=>show exs pg (call pg (n+31)) [.sh true (.lst (aN bs)),.sh true w.d,.sh true (aB st),.own false (r.map D.int),t4,t5,t6] (.cons (.ret (.bi .tuple (eL1 eV3))) .nil)=_;rw[cW,vU,aFS,aE,oI];simp only[cB,gS,gZ,aIj];simp only[bW,aA,wJ 3 (gD r),aFR];rfl
section
variable {P:Pg} {cl:Caller} {σ:Sg}
theorem zF(σ:Sg){i j:Nat}{a b:D}(B:noL a=true)(G:noL b=true):bP σ (.cl (.tup [a,b])) (.t [i,j])=.ok ((σ.set i (.sh false a)).set j (.sh false b)):=by unfold bP;simp only[dR,lC,lN,if_true,Ba,ES,BD,Gb,dS B,dS G,jI]
theorem dF(σ:Sg){i:Nat}{d:D}:bP σ (.cl d) (.n i)=.ok (σ.set i (.sh false d)):=by rw[aCl,jI]
theorem aIs{f:Nat}{a b c:E}{x y z:Vl}{k:Bool}(B:ev P cl σ a=.ok x)(G:ev P cl σ b=.ok y)(I:ev P cl σ c=.ok z)(L:cl f [x.d,y.d,z.d]=.ok (.bl k,false,false)):tst P cl σ (.call f (.cons a (.cons b (.cons c .nil))))=.ok k:=by simp_all
theorem fZ{a:E}{k:Bool}(h:tst P cl σ a=.ok k):tst P cl σ (.nt a)=.ok (!k):=by rw[qR,h];rfl
theorem aW{f:Nat}{a b:E}{x y:Vl}{d:D}(B:ev P cl σ a=.ok x)(G:ev P cl σ b=.ok y)(I:cl f [x.d,y.d]=.ok (d,false,false)):ev P cl σ (.call f (.cons a (.cons b .nil)))=.ok (.cl d):=by simp_all
theorem dL{a b:E}{x y:D}(B:ev P cl σ a=.ok (.cl x))(G:ev P cl σ b=.ok (.cl y)):ev P cl σ (.tup (.cons a (.cons b .nil)))=.ok (.cl (.tup [x,y])):=by rw[vT,aE,B,aA,aE,G];rfl
theorem eI{a b c:E}{x y z:D}(B:ev P cl σ a=.ok (.cl x))(G:ev P cl σ b=.ok (.cl y))(I:ev P cl σ c=.ok (.cl z)):ev P cl σ (.tup (.cons a (.cons b (.cons c .nil))))=.ok (.cl (.tup [x,y,z])):=by rw[vT,aE,B,aA,aE,G,aA,aE,I];rfl
end
theorem rA{v:Vl}{α:Type}{f:α->D}{xs:List α}{k:Nat}{x:α}(I:v.d=.lst (xs.map f))(B:xs[k]? = some x):eA v (.cl (.int (k:Int)))=.ok (Vl.sub v (f x)):=by
 have G:k<(xs.map f).length:=by rw[lM];exact(Ai.mp B).1
 have e:(xs.map f)[k]? = some (f x):=by rw[Ar,B];rfl
 unfold eA;simp only[I,dR,cP G,e]
section
variable {P:Pg} {cl:Caller} {σ σ':Sg}
theorem aOS{i:Nat}{e:E}{v:Vl}{pa:Bool}{ds:List D}(h:ev P cl σ e=.ok v)(hi:(freeze σ v.al)[i]? = some (.own pa ds))(B:ds.length<lim):ex P cl σ (.app i e)=.next ((freeze σ v.al).set i (.own (pa||v.pa) (ds++[v.d]))):=by rw[aLH,h,cF];unfold put nQ;rw[hi];grind
theorem rB{i:Nat}{e:E}{v:Vl}{ds ds':List D}(h:ev P cl σ e=.ok v)(hi:(freeze σ v.al)[i]? = some (.own false ds))(G:ds.length<lim)(I:v.pa=false)(B:ds'=ds++[v.d]):ex P cl σ (.app i e)=.next ((freeze σ v.al).set i (.own false ds')):=by rw[aOS h hi G,I,B];rfl
theorem eT{i:Nat}{e:E}{ds:List D}(h:ev P cl σ e=.ok ⟨.lst ds,true,false,[]⟩):ex P cl σ (.set (.n i) e)=.next (σ.set i (.own false ds)):=by rw[nG,h];rfl
theorem zG{c:E}{a b:Ss}(h:tst P cl σ c=.ok true)(r:exs P cl σ a=.next σ'):ex P cl σ (.iff c a b)=.next σ':=by rw[kU,h,cF,if_pos rfl,r]
theorem nH{a b:E}{x y:Bool}(B:tst P cl σ a=.ok x)(G:tst P cl σ b=.ok y):tst P cl σ (.an a b)=.ok (x&&y):=by rw[aFT,B,aA];cases x;rfl;exact G
theorem bZ{o:CmpOp}{a b:E}{x y:Vl}{k:Bool}(h:ev P cl σ a=.ok x)(g:ev P cl σ b=.ok y)(e:cT o x.d y.d=some k):tst P cl σ (.cmp o a b)=.ok k:=by rw[aCi,h,aA,g,aA,e]
end
theorem zH{P:Pg}{cl:Caller}{σ:Sg}{s:S}{ss:Ss}{v:Vl}(h:ex P cl σ s=.ret v):exs P cl σ (.cons s ss)=.ret v:=by rw[cW,h];rfl
theorem mI{P:Pg}{cl:Caller}{σ:Sg}{f:Nat}{a:E}{x:Vl}{d:D}{fr:Bool}(B:ev P cl σ a=.ok x)(G:cl f [x.d]=.ok (d,fr,false)):ev P cl σ (.call f (.cons a .nil))=.ok ⟨d,fr,false,[]⟩:=by
 have e:evs P cl σ (.cons a .nil)=.ok [x]:=by rw[aE,B];rfl
 rw[fM,e,aA,show [x].map (·.d)=[x.d] from rfl,G];rfl
section
variable {P:Pg} {cl:Caller} {σ σ':Sg}
theorem aOT(σ:Sg){i j k:Nat}{a b c:D}(B:noL a=true)(G:noL b=true)(I:noL c=true):bP σ (.cl (.tup [a,b,c])) (.t [i,j,k])=.ok (((σ.set i (.sh false a)).set j (.sh false b)).set k (.sh false c)):=by unfold bP;simp only[dR,lC,lN,if_true,Ba,ES,BD,Gb,dS B,dS G,dS I,jI]
theorem aJl{a b:E}(h:tst P cl σ a=.ok true):tst P cl σ (.orr a b)=.ok true:=by rw[aCh,h];rfl
theorem iA{a b:E}{k:Bool}(h:tst P cl σ a=.ok false)(g:tst P cl σ b=.ok k):tst P cl σ (.orr a b)=.ok k:=by rw[aCh,h,aA,if_neg bN,g]
theorem zI{f:Nat}{a b c:E}{x y z:Vl}{d:D}(B:ev P cl σ a=.ok x)(G:ev P cl σ b=.ok y)(I:ev P cl σ c=.ok z)(L:cl f [x.d,y.d,z.d]=.ok (d,true,false)):ev P cl σ (.call f (.cons a (.cons b (.cons c .nil))))=.ok ⟨d,true,false,[]⟩:=by simp_all
theorem rC{f:Nat}{a b:E}{x y:Vl}{d:D}(B:ev P cl σ a=.ok x)(G:ev P cl σ b=.ok y)(I:cl f [x.d,y.d]=.ok (d,true,false)):ev P cl σ (.call f (.cons a (.cons b .nil)))=.ok ⟨d,true,false,[]⟩:=by simp_all
theorem aLT{i:Nat}{e:E}{d:D}(h:ev P cl σ e=.ok ⟨d,false,true,[]⟩):ex P cl σ (.set (.n i) e)=.next (σ.set i (.sh true d)):=by rw[nG,h];rfl
theorem aGh{t:T}{it:It}{b:Ss}{xs:List Vl}(B:walk P cl σ it=.ok (xs,[])):ex P cl σ (.for t it b)=dO (λσ x=>O.from σ (bP σ x t) λσ'=>exs P cl σ' b) xs σ:=by rw[aAS,B];rfl
theorem aIt{i j:Nat}{k e:E}{B:List Int}{v:Int}(I:ev P cl σ e=.ok (.cl (.int v)))(M:ev P cl σ k=.ok (.cl (.int (j:Int))))(hi:σ[i]? = some (.own false (B.map D.int)))(L:j<B.length)(U:B.length<=100):ex P cl σ (.setIx i k e)=.next (σ.set i (.own false ((B.set j v).map D.int))):=by
 have G:B.length<=lim:=by unfold lim;omega
 simp only[qT,I,M,cF,dR,put,qU,fO,nQ,hi,lM,(cP L),A1,G,if_true,aFY,ET,F8]
end
theorem aQY{p q:Prop}[Decidable p][Decidable q](h:¬ (p/\q)):(decide p&&decide q)=false:=by
 cases z:(decide p&&decide q) with
 | false=>rfl|true=>grind
theorem aQZ{p q:Prop}[Decidable p][Decidable q](h:p/\q):(decide p&&decide q)=true:=by rw[Av h.1,Av h.2];rfl
theorem aGi(st:List Int):biD .list [.cl (aB st)]=.ok ⟨.lst (st.map D.int),true,false,[]⟩:=by show R.ok (Vl.mk (.lst (st.map D.int)) true (false&&!noLs (st.map D.int)) (if noLs (st.map D.int)=true then [] else []))=_;rw[gD];rfl
abbrev sA(ws:List Way):D:=.lst (ws.map Way.d)
abbrev bY(h:List (List Way)):List D:=h.map sA
structure aJm (m e:Nat) (ws:List Way):Prop where
 one:1<=ws.length
 few:ws.length<=4
 ok:∀w∈ws,qX m w/\0<=w.nx/\w.nx<(e:Int)+1
structure wK (m:Nat) (h:List (List Way)):Prop where
 few:h.length<=8
 ok:∀ws∈h,aJm m h.length ws
theorem gE{α:Type}{P:α->Prop}{l:List α}{x:α}(h:∀y∈l,P y)(B:P x):∀y∈l++[x],P y:=λy G=>by grind
section
variable {P:Pg} {cl:Caller} {σ:Sg}
theorem aOU{e:E}{v:Vl}(h:ev P cl σ e=.ok v):ex P cl σ (.ex e)=.next σ:=by rw[aOK,h];rfl
theorem bU{s:S}{σ':Sg}(h:ex P cl σ s=.next σ'):exs P cl σ (.cons s .nil)=.next σ':=cs h rfl
theorem mJ{a:E}{cs:List Cl}{v:Vl}{k:Bool}(h:ev P cl σ a=.ok v)(e:isI cs P v.d=some k):tst P cl σ (.isi a cs)=.ok k:=by simp_all
theorem aT(i:Nat){d:D}(h:σ[i]? = some (.sh true d))(n:noL d=true):ev P cl σ (.v i)=.ok (.cl d):=by show cB σ i=_;unfold cB;rw[h];exact gU i true n
theorem aM(i:Nat){ds:List D}(h:σ[i]? = some (.sh true (.lst ds))):ev P cl σ (.v i)=.ok ⟨.lst ds,false,true,[]⟩:=by show cB σ i=_;unfold cB;rw[h];rfl
theorem aJn{a b c:E}{x y z:Int}{k:Bool}(B:ev P cl σ a=.ok (.cl (.int x)))(G:ev P cl σ b=.ok (.cl (.int y)))(I:ev P cl σ c=.ok (.cl (.int z)))(p:x<=y)(q:decide (y<z)=k):tst P cl σ (.cmp2 .LtE .Lt a b c)=.ok k:=by rw[zA,B,aA,G,aA];simp_all
end
theorem aCs{α:Type}(k:Nat)(caps:List Nat)(f:α->D):∀h:List α,fB k caps [] (h.map λx=>Vl.mk (f x) true false [])=⟨.lst (h.map f),true,false,[]⟩:=λh=>by
 have G:(h.map λx=>Vl.mk (f x) true false []).map (·.d)=h.map f:=by rw[A7];rfl
 have I:dN (h.map λx=>Vl.mk (f x) true false [])=false:=by
  induction h with
  | nil=>rfl|cons x h B=>unfold dN at B ⊢;rw[mC,J3,B (by rw[A7];rfl)];rfl
 have L:bQ (h.map λx=>Vl.mk (f x) true false [])=[]:=by
  clear G I
  induction h with
  | nil=>rfl|cons x h B=>unfold bQ at B ⊢;rw[mC,BM,B];rfl
 unfold fB;rw[G,I,L];split <;> rfl
noncomputable def InR(bs:List (Str×Int))(acc:List Int):Prop:=∀(j:Nat) (a:Int) (b:Str×Int),acc[j]? = some a->bs[j]? = some b->0<=a/\a<=b.2
theorem aGj{bs:List (Str×Int)}{st:List Int}{b:Str×Int}{h:Nat}(M:st.length=bs.length)(H:InR bs st)(U:h<(b.2+1).toNat):InR (bs++[b]) (st++[(h:Int)]):=by
 intro j x c G B;by_cases L:j<bs.length;rw[A0 (by omega)] at G;rw[A0 L] at B;exact H j x c G B;rw[A3 (by omega)] at G;rw[A3 (by omega)] at B;have I:j-bs.length=0:=by have:=(Ai.mp B).1;simp at this;omega
 rw[M,I] at G;rw[I] at B;cases G;cases B;omega
theorem zJ{bs:List (Str×Int)}:∀i,i<=bs.length->∀st∈fN (bs.take i),st.length=i/\InR (bs.take i) st
 | 0,_,st,h=>by
  have:st=[]:=by simpa[fN] using h
  subst this;exact⟨rfl,λj a b I _=>by simp at I⟩
 | i+1,hi,st,h=>by rw[vW hi] at h;obtain⟨b,L,B⟩:=Fe.mp h;obtain⟨m,M,rfl⟩:=AE.mp B;obtain⟨G,U⟩:=zJ i (by omega) b L;refine⟨by simp[G],?_⟩;rw[DR hi];exact aGj (by rw[G,Be];omega) U (by simpa using M)
theorem rD{bs:List (Str×Int)}{st:List Int}(h:st∈fN bs):st.length=bs.length/\InR bs st:=by have:=zJ bs.length (An _) st (by rw[CD];exact h);rwa [CD] at this
noncomputable def bO(ws:List Way)(i:Nat):Way:=ws.getD i ⟨.yes,[],0⟩
abbrev iD(i:Nat):D:=.int (i:Int)
theorem aCt(i:Nat):noL (iD i)=true:=rfl
theorem oW{ws:List Way}{i:Nat}(h:i<ws.length):bO ws i∈ws/\ws[i]? = some (bO ws i):=by unfold bO;rw[Ak,Ac h];exact⟨AM h,rfl⟩
theorem zK:∀(ws:List Way) (a:Nat),fA (a:Int) (ws.map Way.d)=(Au ws.length).map λi=>.tup [iD (a+i),(bO ws i).d]
 | [],_=>rfl|w::ws,a=>by rw[lC,DN,mC,mC,A7];show .tup [.int (a:Int),w.d]::fA ((a:Int)+1) (ws.map Way.d)=_;rw[show((a:Int)+1)=((a+1:Nat):Int) by omega,zK ws (a+1)];refine congrArg _ (B9 λi _=>?_);rw[show a+1+i=a+(i+1) by omega];rfl
theorem aJo{o:Option (List Int)}:cT .IsNot (stD o) .non=some o.isSome:=by cases o <;> rfl
theorem wL{P:Pg}{cl:Caller}{σ:Sg}{a:E}{v:Vl}{ds:List D}(h:ev P cl σ a=.ok v)(e:v.d=.lst ds):walk P cl σ (.enum a)=.ok (items v (fA 0 ds),v.al):=by show(ev P cl σ a >>= λx=>(match xS x.d with|some as=>R.ok (items x (fA 0 as),x.al)|none=>.bad))=_;rw[h,aA,e];rfl
noncomputable def okE:Nat->D->Bool
 | 0,_=>false|n+1,d=>match d with|.tup ds=>ds.all (okE n)|.lst ds=>ds.all (okE n)|.err _ _=>false|_=>true
theorem mK:∀(n:Nat) (d:D),okE n d=true->eqF n d d=some true
 | 0,_,h=>by cases h|n+1,d,h=>by
  have hs:∀ds:List D,ds.all (okE n)=true->dU n ds ds=some true:=λds=>by
   induction ds with
   | nil=>intro _;rfl|cons x r B=>intro h;rw[Ea,bA] at h;unfold dU;rw[mK n x h.1,B h.2];rfl
  cases d with
  | non=>rfl|bl b=>exact congrArg some (beq_self_eq_true b)|int i=>exact congrArg some (beq_self_eq_true i)|str s=>exact congrArg some (beq_self_eq_true s)|tup ds=>show eqL (eqF n) ds ds=_;rw[pE,hs ds h]|lst ds=>show(if ds.length=ds.length then eqL (eqF n) ds ds else some false)=_;rw[if_pos rfl,pE,hs ds h]|err _ _=>cases h
theorem rE:∀(s:Sm) (n:Nat),okE (n+s.sz+1) s.d=true
 | .num _,n=>rfl|.box _,n=>rfl|.aft _,n=>rfl|.two p a b,n=>by have B:=rE a (n+b.sz);rw[show n+b.sz+a.sz+1=n+a.sz+b.sz+1 by omega] at B;show okE (n+(1+a.sz+b.sz)+1) (.tup [.str (aAX p),a.d,b.d])=true;rw[show n+(1+a.sz+b.sz)+1=n+a.sz+b.sz+1+1 by omega];show(true&&(okE _ a.d&&(okE _ b.d&&true)))=true;rw[B,(rE b (n+a.sz))];rfl
theorem wM:∀(s:Cn) (n:Nat),okE (n+s.sz+1) s.d=true
 | .yes,n=>rfl|.cmp i a b,n=>by have B:=rE a (n+b.sz);rw[show n+b.sz+a.sz+1=n+a.sz+b.sz+1 by omega] at B;show okE (n+(1+a.sz+b.sz)+1) (.tup [.str (zC i),a.d,b.d])=true;rw[show n+(1+a.sz+b.sz)+1=n+a.sz+b.sz+1+1 by omega];show(true&&(okE _ a.d&&(okE _ b.d&&true)))=true;rw[B,(rE b (n+a.sz))];rfl|.nt x,n=>by show okE (n+(1+x.sz)+1) (.tup [.str "not",x.d])=true;rw[show n+(1+x.sz)+1=n+x.sz+1+1 by omega];show(true&&(okE _ x.d&&true))=true;rw[(wM x n)];rfl|.two p a b,n=>by have B:=wM a (n+b.sz);rw[show n+b.sz+a.sz+1=n+a.sz+b.sz+1 by omega] at B;show okE (n+(1+a.sz+b.sz)+1) (.tup [.str (qW p),a.d,b.d])=true;rw[show n+(1+a.sz+b.sz)+1=n+a.sz+b.sz+1+1 by omega];show(true&&(okE _ a.d&&(okE _ b.d&&true)))=true;rw[B,(wM b (n+a.sz))];rfl
theorem aGk{x:D}(h:eqD x x=some true):cT .NotEq x x=some false:=by rw[aAU,h];rfl
section
variable {P:Pg} {cl:Caller} {σ:Sg}
theorem aH(i:Nat){d:D}(h:σ[i]? = some (.sh false d)):ev P cl σ (.v i)=.ok (.cl d):=by show cB σ i=_;unfold cB;rw[h];exact aCk i d
theorem cD(i:Nat){pa:Bool}{ds:List D}(h:σ[i]? = some (.own pa ds)):ev P cl σ (.v i)=.ok ⟨.lst ds,false,pa,[i]⟩:=by show cB σ i=_;unfold cB;rw[h];rfl
theorem fQ:evs P cl σ .nil=.ok (([]:List D).map Vl.cl):=rfl
theorem aV{a:E}{es:Es}{d:D}{ds:List D}(h:ev P cl σ a=.ok (.cl d))(t:evs P cl σ es=.ok (ds.map Vl.cl)):evs P cl σ (.cons a es)=.ok ((d::ds).map Vl.cl):=by rw[aE,h,aA,t];rfl
theorem aBc(ds:List D):dN (ds.map Vl.cl)=false:=by
 induction ds with
 | nil=>rfl|cons d ds B=>unfold dN at B ⊢;rw[mC,J3,B];rfl
theorem aBd(ds:List D):bQ (ds.map Vl.cl)=[]:=by
 induction ds with
 | nil=>rfl|cons d ds B=>unfold bQ at B ⊢;rw[mC,BM,B];rfl
theorem aGl(ds:List D):(ds.map Vl.cl).map (·.d)=ds:=by rw[A7];exact EQ _
theorem iR{es:Es}{ds:List D}(h:evs P cl σ es=.ok (ds.map Vl.cl)):ev P cl σ (.tup es)=.ok (.cl (.tup ds)):=by rw[vT,h,aA];show R.ok (Vl.mk (.tup ((ds.map Vl.cl).map (·.d))) false (dN (ds.map Vl.cl)) (bQ (ds.map Vl.cl)))=_;rw[aBc,aBd,aGl];rfl
theorem nI{es:Es}{ds:List D}(h:evs P cl σ es=.ok (ds.map Vl.cl)):ev P cl σ (.lst es)=.ok ⟨.lst ds,true,false,[]⟩:=by rw[aLG,h,aA];show R.ok (Vl.mk (.lst ((ds.map Vl.cl).map (·.d))) true (dN (ds.map Vl.cl)) (bQ (ds.map Vl.cl)))=_;rw[aBc,aBd,aGl]
theorem cL{a b:E}{x n:Int}(h:ev P cl σ a=.ok (.cl (.int x)))(k:ev P cl σ b=.ok (.cl (.int n)))(p:0<n):ev P cl σ (.op .Mod a b)=.ok (.cl (.int (x % n))):=aDH h k (aIn p)
theorem dG{a b:E}{x n:Int}(h:ev P cl σ a=.ok (.cl (.int x)))(k:ev P cl σ b=.ok (.cl (.int n))):ev P cl σ (.op .Add a b)=.ok (.cl (.int (x+n))):=aDH h k (add_int _ _)
theorem dX{a:E}{v:Vl}{ds:List D}(h:ev P cl σ a=.ok v)(e:v.d=.lst ds):ev P cl σ (.bi .len (.cons a .nil))=.ok (.cl (.int ds.length)):=fP h (by
 obtain⟨d,f,p,al⟩:=v;simp_all)
theorem nW{α:Type}{f:α->D}{a b:E}{v:Vl}{xs:List α}{k:Nat}{x:α}(h:ev P cl σ a=.ok v)(I:v.d=.lst (xs.map f))(B:ev P cl σ b=.ok (.cl (.int (k:Int))))(L:xs[k]? = some x)(G:noL (f x)=true):ev P cl σ (.idx a b)=.ok (.cl (f x)):=
 bM h B ((rA I L).trans (congrArg R.ok (dS G)))
theorem aJp{a b:E}{v:Vl}{xs:List Int}{k:Nat}(h:ev P cl σ a=.ok v)(I:v.d=.lst (xs.map D.int))(B:ev P cl σ b=.ok (.cl (.int (k:Int))))(G:k<xs.length):ev P cl σ (.idx a b)=.ok (.cl (.int (xs.getD k 0))):=
 bM h B (aIp I G)
theorem aRa{a b:List D}{v w:Vl}(M:v.d=.lst a)(U:w.d=.lst b)(G:noLs a=true)(I:noLs b=true)(L:a.length+b.length<=lim):opD .Add v w=.ok ⟨.lst (a++b),true,false,[]⟩:=by obtain⟨_,f,p,al⟩:=v;obtain⟨_,f',Z,B⟩:=w;cases M;cases U;show R.iff (decide (a.length+b.length<=lim)) (.ok (Vl.mk (.lst (a++b)) true ((p&&!noLs a)||(Z&&!noLs b)) ((if noLs a then [] else al)++(if noLs b then [] else B))))=_;rw[Av L,G,I];simp_all
end
theorem jR(x:Int){n:Nat}(h:0<n):∃k:Nat,x % (n:Int)=(k:Int)/\k<n:=by have B:=I9 x (show(n:Int)≠0 by omega);have G:=GA x (show(0:Int)<n by omega);exact⟨(x % n).toNat,by omega,by omega⟩
section
variable {P:Pg} {cl:Caller} {σ:Sg}
theorem aLU{α:Type}{f:α->D}{B:List α}{G a:E}{v:Vl}{x:Int}(hz:ev P cl σ G=.ok v)(U:v.d=.lst (B.map f))(Z:ev P cl σ a=.ok (.cl (.int x)))(hl:1<=B.length)(nf:∀t,noL (f t)=true) :
 ∃t∈B,ev P cl σ (.idx G (.op .Mod a (.bi .len (.cons G .nil))))=.ok (.cl (f t)):=by have I:=dX hz U;rw[lM] at I;obtain⟨k,e,L⟩:=jR x (n:=B.length) (by omega);have M:=cL Z I (by omega);rw[e] at M;exact⟨B[k],AM L,nW hz U M (Ac L) (nf _)⟩
end
theorem uB(n:Nat):∀as bs:List Int,dU (n+1) (as.map D.int) (bs.map D.int)=some (as==bs)
 | [],[]=>rfl|[],_::_=>rfl|_::_,[]=>rfl|a::as,b::bs=>by rw[mC,mC,dU,aIk,uB n as bs];rfl
theorem mL(n:Nat)(a b:List Int):eqF (n+2) (aB a) (aB b)=some (a==b):=by unfold aB;rw[aCm,uB]
theorem gG(a b:List Int):eqD (aB a) (aB b)=some (a==b):=mL 118 a b
theorem uC{α:Type}(g:α->D)(n:Nat)(h:∀a,eqF n (g a) (g a)=some true):∀as:List α,dU n (as.map g) (as.map g)=some true
 | []=>rfl|a::as=>by rw[mC,dU,h a,uC g n h as];rfl
section
variable {P:Pg} {cl:Caller} {σ:Sg}
theorem aOV{a b:E}{x n:Int}(h:ev P cl σ a=.ok (.cl (.int x)))(k:ev P cl σ b=.ok (.cl (.int n))):ev P cl σ (.op .Sub a b)=.ok (.cl (.int (x-n))):=aDH h k (sub_int _ _)
theorem fR{a b:E}{x n:Int}(h:ev P cl σ a=.ok (.cl (.int x)))(k:ev P cl σ b=.ok (.cl (.int n)))(p:xQ n=true):ev P cl σ (.op .FloorDiv a b)=.ok (.cl (.int (x / n))):=aDH h k (aIm p)
theorem iS{a b:E}{x y:Int}(B:ev P cl σ a=.ok (.cl (.int x)))(G:ev P cl σ b=.ok (.cl (.int y)))(L:0<=y)(I:y<=1000000000000000):ev P cl σ (.op .Mult a b)=.ok (.cl (.int (x*y))):=by refine aDH B G (mul_int ?_);simp only[xP,Cf,bA,AJ];right;omega
theorem jW{a b:E}{x y:Int}(h:ev P cl σ a=.ok (.cl (.int x)))(k:ev P cl σ b=.ok (.cl (.int y))):tst P cl σ (.cmp .Eq a b)=.ok (x==y):=bZ h k (oT x y)
theorem bD{i:Nat}{pa:Bool}{k:Int}(h:σ[i]? = some (.sh pa (.int k))):ev P cl σ (.v i)=.ok (.cl (.int k)):=by show cB σ i=_;unfold cB;rw[h];exact vX i pa k
end
noncomputable def mixF(x k:Int):Int:=((x+k+1)*(48271+2*k*k) % 2147483647)*((x+k+1)*(48271+2*k*k) % 2147483647) % 2147483629
theorem dQ(n:Nat)(x:Int){k:Int}(B:0<=k)(G:k<=100000):call pg (n+1) 16 [.int x,.int k]=.ok (.int (mixF x k),false,false):=by
 have L:=GA ((x+k+1)*(48271+2*k*k)) (show(0:Int)<2147483647 by decide);have I:0<=2*k*k/\2*k*k<=20000000000:=by
  constructor;exact Int.mul_nonneg (by omega) B
  . calc 2*k*k<=2*k*100000:=Int.mul_le_mul_of_nonneg_left G (by omega)
     _<=20000000000:=by omega
 have M:ex pg (call pg n) [.sh true (.int x),.sh true (.int k),.dead] (hdS f16.body)=.next [.sh true (.int x),.sh true (.int k),.sh false (.int ((x+k+1)*(48271+2*k*k) % 2147483647))]:=
  bL (cL (iS (dG (dG (bD rfl) (bD rfl)) (aI _)) (dG (aI (.int 48271)) (iS (iS (aI (.int 2)) (bD rfl) B (by omega)) (bD rfl) B (by omega))) (by omega) (by omega)) (aI (.int 2147483647)) (by decide))
 exact aK (F:=f16) rfl rfl (cs M (aS (cL (iS (bD rfl) (bD rfl) (I9 ((x+k+1)*(48271+2*k*k)) (show(2147483647:Int)≠0 by decide)) (by omega)) (aI (.int 2147483629)) (by decide))))
noncomputable def eM(ns:List Int)(k:Nat):Int:=if ns.length=0 then mixF 7 k else mixF (ns.getD (k % ns.length) 0) k
theorem dH(n:Nat)(ns:List Int){k:Nat}(U:k<=1000):call pg (n+2) 17 [.lst (ns.map D.int),.int k]=.ok (.int (eM ns k),false,false):=by
 let σ:Sg:=[.sh true (.lst (ns.map D.int)),.sh true (.int k)]
 have M:=aM (P:=pg) (cl:=call pg (n+1)) (σ:=σ) 0 rfl;have I:ev pg (call pg (n+1)) σ eV1=.ok (.cl (.int k)):=bD rfl;have G:=dX M rfl;rw[lM] at G;have B:=jW G (aI (.int 0));refine aK rfl rfl (v:=.cl (.int (eM ns k))) ?_;unfold eM;by_cases hz:ns.length=0;rw[if_pos hz];rw[show((ns.length:Int)==0)=true by rw[hz];rfl] at B;exact bT B (aS (aW (aI (.int 7)) I (dQ n 7 (by omega) (by omega))));rw[if_neg hz];rw[show((ns.length:Int)==0)=false by simpa using hz] at B;have L:=cL I G (by omega);rw[show(k:Int) % (ns.length:Int)=((k % ns.length:Nat):Int) from rfl] at L;exact cs (aZ B) (aS (aW (aJp M rfl L (DA _ (by omega))) I (dQ n _ (by omega) (by omega))))
theorem wN(x:Int){m:Nat}(U:1<=m):∃s:Sm,s.wf m true/\s.sz<=3/\∀n,call pg (n+1) 19 [.int x,.int m]=.ok (s.d,false,false):=by
 obtain⟨a,Z,G⟩:=jR x U;obtain⟨b,eb,M⟩:=jR (x / 4) U;obtain⟨c,ec,hc⟩:=jR (x / 16) (n:=8) (by decide);obtain⟨q,eq,L⟩:=jR (x / 128) (n:=6) (by decide)
 let B:List Sm:=[.num c,.box a,.two true (.box a) (.num 1),.two false (.box a) (.num 1),.two true (.box a) (.box b),.two false (.box b) (.box a)]
 have ok:∀s∈B,s.wf m true/\s.sz<=3:=by intro s hs;simp only[B,Ax,Fm,Kj] at hs;rcases hs with rfl|rfl|rfl|rfl|rfl|rfl;exact⟨⟨by omega,by omega⟩,by simp[Sm.sz]⟩;exact⟨G,by simp[Sm.sz]⟩;exact⟨⟨G,by decide,by decide⟩,by simp[Sm.sz]⟩;exact⟨⟨G,by decide,by decide⟩,by simp[Sm.sz]⟩;exact⟨⟨G,M⟩,by simp[Sm.sz]⟩;exact⟨⟨M,G⟩,by simp[Sm.sz]⟩
 refine⟨B[q],(ok _ (AM L)).1,(ok _ (AM L)).2,λn=>?_⟩;have k1:ex pg (call pg n) [.sh true (.int x),.sh true (.int m),.dead,.dead,.dead] (hdS f19.body)=.next [.sh true (.int x),.sh true (.int m),.sh false (.tup [.str "box",.int a]),.dead,.dead]:=
  bL (dL (aI _) ((cL (bD rfl) (bD rfl) (by omega)).trans (by rw[Z])))
 have k2:ex pg (call pg n) [.sh true (.int x),.sh true (.int m),.sh false (.tup [.str "box",.int a]),.dead,.dead] (hdS (drp 1 f19.body))=.next [.sh true (.int x),.sh true (.int m),.sh false (.tup [.str "box",.int a]),.sh false (.tup [.str "box",.int b]),.dead]:=
  bL (dL (aI _) ((cL (fR (bD rfl) (aI _) (by decide)) (bD rfl) (by omega)).trans (by rw[eb])))
 have I:∀s:Sl,ev pg (call pg n) [.sh true (.int x),.sh true (.int m),.sh false (.tup [.str "box",.int a]),.sh false (.tup [.str "box",.int b]),s] eV2=.ok (.cl (.tup [.str "box",.int a])):=λs=>aH 2 rfl;have k3:ex pg (call pg n) [.sh true (.int x),.sh true (.int m),.sh false (.tup [.str "box",.int a]),.sh false (.tup [.str "box",.int b]),.dead] (hdS (drp 2 f19.body))=.next [.sh true (.int x),.sh true (.int m),.sh false (.tup [.str "box",.int a]),.sh false (.tup [.str "box",.int b]),.own false ((B.take 4).map Sm.d)]:=
  eT (nI (aV (dL (aI _) ((cL (fR (bD rfl) (aI _) (by decide)) (aI _) (by decide)).trans (by rw[show(x / 16) % 8=(c:Int) from ec]))) (aV (I _) (aV (eI (aI _) (I _) ((λs=>dL (aI _) (aI _)) _)) (aV (eI (aI _) (I _) ((λs=>dL (aI _) (aI _)) _)) fQ)))))
 have k4:ex pg (call pg n) [.sh true (.int x),.sh true (.int m),.sh false (.tup [.str "box",.int a]),.sh false (.tup [.str "box",.int b]),.own false ((B.take 4).map Sm.d)] (hdS (drp 3 f19.body))=.next [.sh true (.int x),.sh true (.int m),.sh false (.tup [.str "box",.int a]),.sh false (.tup [.str "box",.int b]),.own false (B.map Sm.d)]:=
  eT (aDH (cD 4 rfl) (nI (aV (eI (aI _) (I _) ((λs=>aH 3 rfl) _)) (aV (eI (aI _) ((λs=>aH 3 rfl) _) (I _)) fQ))) (aRa (a:=(B.take 4).map Sm.d) rfl rfl (cC Sm.noL _) (cC Sm.noL _) (by show 4+2<=lim;decide)))
 exact aK (F:=f19) rfl rfl (v:=.cl B[q].d) (cs k1 (cs k2 (cs k3 (cs k4 (aS (nW (f:=Sm.d) (cD 4 rfl) rfl ((cL (fR (bD rfl) (aI _) (by decide)) (aI _) (by decide)).trans (by rw[show(x / 128) % 6=(q:Int) from eq])) (Ac L) (Sm.noL _)))))))
theorem aBe{P:Pg}{cl:Caller}{σ:Sg}{a:E}{x:D}(B:ev P cl σ a=.ok (.cl x)):ev P cl σ (.tup (.cons a .nil))=.ok (.cl (.tup [x])):=by rw[vT,aE,B];rfl
theorem rF(x:Int){m:Nat}(Z:1<=m):∃c:Cn,c.wf m true/\c.sz<=31/\∀n,call pg (n+2) 20 [.int x,.int m]=.ok (c.d,false,false):=by
 obtain⟨s1,w1,z1,r1⟩:=wN (mixF x 1) Z;obtain⟨s2,w2,z2,r2⟩:=wN (mixF x 2) Z;obtain⟨p,ep,hp⟩:=jR x (n:=4) (by decide);obtain⟨q,eq,hq⟩:=jR (x / 4) (n:=4) (by decide);obtain⟨u,eu,hu⟩:=jR (x / 16) (n:=4) (by decide)
 let U:List Cn:=[.yes,.cmp false s1 s2,.cmp true s1 s2,.cmp false s1 (.num 3)]
 have n3:(Sm.num 3).wf m true/\(Sm.num 3).sz<=3:=⟨⟨by decide,by decide⟩,by decide⟩
 have ok:∀s∈U,s.wf m true/\s.sz<=7:=by intro s hs;simp only[U,Ax,Fm,Kj] at hs;rcases hs with rfl|rfl|rfl|rfl;exact⟨trivial,by simp[Cn.sz]⟩;exact⟨⟨w1,w2⟩,by show 1+s1.sz+s2.sz<=7;omega⟩;exact⟨⟨w1,w2⟩,by show 1+s1.sz+s2.sz<=7;omega⟩;exact⟨⟨w1,n3.1⟩,by show 1+s1.sz+1<=7;omega⟩
 obtain⟨I,o2⟩:=ok _ (AM hp)
 let pl:=U[p]
 have o2:pl.sz<=7:=o2
 let G:Sg:=[.sh true (.int x),.sh true (.int m),.sh false s1.d,.sh false s2.d,.sh false pl.d]
 have run:∀(n:Nat) (v:Vl),exs pg (call pg (n+1)) G (drp 3 f20.body)=.ret v->exs pg (call pg (n+1)) [.sh true (.int x),.sh true (.int m),.dead,.dead,.dead] f20.body=.ret v:=λn v hv=>by
  have k1:ex pg (call pg (n+1)) [.sh true (.int x),.sh true (.int m),.dead,.dead,.dead] (hdS f20.body)=.next [.sh true (.int x),.sh true (.int m),.sh false s1.d,.dead,.dead]:=
   bL (aW (aW (bD rfl) (aI _) (dQ n x (by decide) (by decide))) (bD rfl) (r1 n))
  have k2:ex pg (call pg (n+1)) [.sh true (.int x),.sh true (.int m),.sh false s1.d,.dead,.dead] (hdS (drp 1 f20.body))=.next [.sh true (.int x),.sh true (.int m),.sh false s1.d,.sh false s2.d,.dead]:=
   bL (aW (aW (bD rfl) (aI _) (dQ n x (by decide) (by decide))) (bD rfl) (r2 n))
  have k3:ex pg (call pg (n+1)) [.sh true (.int x),.sh true (.int m),.sh false s1.d,.sh false s2.d,.dead] (hdS (drp 2 f20.body))=.next G:=
   bL (nW (nI (aV (aBe (aI _)) (aV (eI (aI _) (aH 2 rfl) (aH 3 rfl)) (aV (eI (aI _) (aH 2 rfl) (aH 3 rfl)) (aV (eI (aI _) (aH 2 rfl) (dL (aI _) (aI _))) fQ))))) rfl ((cL (bD rfl) (aI _) (by decide)).trans (by rw[show x % 4=(p:Int) from ep])) (Ac hp) (Cn.noL _))
  exact cs k1 (cs k2 (cs k3 hv))
 have B:∀(n:Nat) (j:Int),tst pg (call pg (n+1)) G (.cmp .Eq (.op .Mod (.op .FloorDiv eV0 eC4) eC4) (.c (.int j)))=.ok ((q:Int)==j):=λn j=>jW ((cL (fR (bD rfl) (aI _) (by decide)) (aI _) (by decide)).trans (by rw[show(x / 4) % 4=(q:Int) from eq])) (aI _);have L:∀n,ev pg (call pg (n+1)) G eV4=.ok (.cl pl.d):=λn=>aH 4 rfl;have M:q=0\/q=1\/q=2\/q=3:=by omega
 rcases M with rfl|rfl|rfl|rfl;exact⟨.nt pl,I,by show 1+pl.sz<=31;omega,λn=>aK (F:=f20) rfl rfl (v:=.cl (Cn.nt pl).d) (run n _ (bT (B n 0) (aS (dL (aI _) (L n)))))⟩;refine⟨.two false pl (.cmp false s2 (.num (1+u))),⟨I,w2,by omega,by omega⟩,by show 1+pl.sz+(1+s2.sz+1)<=31;omega,λn=>aK (F:=f20) rfl rfl (v:=.cl (Cn.two false pl (.cmp false s2 (.num (1+u)))).d) (run n _ (cs (aZ (B n 0)) (bT (B n 1) (aS (eI (aI _) (L n) (eI (aI _) ((λn=>aH 3 rfl) n) (dL (aI _) (dG (aI _) ?_))))))))⟩;exact(cL (fR (bD rfl) (aI _) (by decide)) (aI _) (by decide)).trans (by rw[show(x / 16) % 4=(u:Int) from eu]);exact⟨pl,I,by omega,λn=>aK (F:=f20) rfl rfl (v:=.cl pl.d) (run n _ (cs (aZ (B n 0)) (cs (aZ (B n 1)) (bT (B n 2) (zH (by rw[aIe];exact congrArg (λz=>O.from G z .ret) (L n)))))))⟩;exact⟨.two true (.nt (.cmp true s1 s2)) pl,⟨⟨w1,w2⟩,I⟩,by show 1+(1+(1+s1.sz+s2.sz))+pl.sz<=31;omega,λn=>aK (F:=f20) rfl rfl (v:=.cl (Cn.two true (.nt (.cmp true s1 s2)) pl).d) (run n _ (cs (aZ (B n 0)) (cs (aZ (B n 1)) (cs (aZ (B n 2)) (aS (eI (aI _) (dL (aI _) (eI (aI _) ((λn=>aH 2 rfl) n) ((λn=>aH 3 rfl) n))) (L n)))))))⟩
theorem aGm{ps:List (Nat×Sm)}{p:Nat×Sm}(h:Up ps)(I:∀q∈ps,q.1<p.1):Up (ps++[p]):=by unfold Up at h ⊢;rw[FY];exact⟨h,DD _ _,λa B b G=>by rw[A8.mp G];exact I a B⟩
abbrev wF(x:Int)(m e:Nat)(ps:List (Nat×Sm))(s4 s5:Sl):Sg:=[.sh true (.int x),.sh true (.int m),.sh true (.int e),.own false (ps.map iQ),s4,s5]
abbrev wB:Ss:=match hdS (drp 1 f21.body) with|.for _ _ b=>b|_=>.nil
theorem aGn(n:Nat)(x:Int){m e i:Nat}(hm:1<=m)(h5:m<=5)(hi:i<m){ps:List (Nat×Sm)}(G:∀p∈ps,nV m p/\p.1<i)(M:Up ps)(h3:ps.length<=i) :
 ∃B:List (Nat×Sm),(∀p∈B,nV m p/\p.1<i+1)/\Up B/\B.length<=i+1/\exs pg (call pg (n+2)) (wF x m e ps (.sh false (.int i)) .dead) wB=.next (wF x m e B (.sh false (.int i)) .dead):=by
 obtain⟨s,w,z,r⟩:=wN (mixF x (i+9)) hm;have L:ev pg (call pg (n+2)) (wF x m e ps (.sh false (.int i)) .dead) eV4=.ok (.cl (.int i)):=bD rfl;have Z:ev pg (call pg (n+2)) (wF x m e ps (.sh false (.int i)) .dead) eV0=.ok (.cl (.int x)):=bD rfl;have t:=jW (cL (aW Z (dG L (aI (.int 3))) (dQ (n+1) x (by omega) (by omega))) (aI (.int 3)) (by decide)) (aI (.int 0));cases U:(mixF x ((i:Int)+3) % 3==0) with
 | false=>rw[U] at t;exact⟨ps,λp I=>⟨(G p I).1,by have:=(G p I).2;omega⟩,M,by omega,bU (aZ t)⟩|true=>rw[U] at t;exact⟨ps++[(i,s)],gE (λp I=>⟨(G p I).1,by have:=(G p I).2;omega⟩) ⟨⟨hi,w,z⟩,B3 i⟩,aGm M λq hq=>(G q hq).2,by simp;omega,bU (zG t (bU (rB (dL L (aW (aW Z (dG L (aI (.int 9))) (dQ (n+1) x (by omega) (by omega))) (bD rfl) (r (n+1)))) rfl (by rw[lM];unfold lim;omega) rfl (by simp;rfl))))⟩
theorem aIu(n:Nat)(x:Int){m e:Nat}(hm:1<=m)(h5:m<=5)(he:1<=e):∃w:Way,qX m w/\0<=w.nx/\w.nx<e/\call pg (n+3) 21 [.int x,.int m,.int e]=.ok (w.d,false,false):=by
 obtain⟨σ',ef,ps,B,G,I,L,rfl⟩:=fE (t:=.n 4) (λi σ=>∃(ps:List (Nat×Sm)) (B:Sl),(∀p∈ps,nV m p/\p.1<i)/\Up ps/\ps.length<=i/\σ=wF x m e ps B .dead) (eH (bD (i:=1) rfl) rfl (by omega)) ⟨[],_,λ_ z=>(by cases z),EM,An 0,rfl⟩ (λi hi σ ⟨ps,B,G,I,L,M⟩=>by
  subst M;obtain⟨U,g1,g2,g3,g4⟩:=aGn n x hm h5 (by simpa using hi) G I L;refine⟨wF x m e ps (.sh false (.int i)) .dead,_,?_,g4,U,_,g1,g2,g3,rfl⟩;rw[Bs,BQ,dF];rfl)
 rw[lM,AK] at G L;have v0:∀Z,ev pg (call pg (n+2)) (wF x m e ps B Z) eV0=.ok (.cl (.int x)):=λ_=>bD rfl;have v2:∀Z,ev pg (call pg (n+2)) (wF x m e ps B Z) eV2=.ok (.cl (.int e)):=λ_=>bD rfl;obtain⟨q,eq,hq⟩:=jR (x / 1000) he;have k3:ex pg (call pg (n+2)) (wF x m e ps B .dead) (hdS (drp 2 f21.body))=.next (wF x m e ps B (.sh false Cn.yes.d)):=bL (aBe (aI _));obtain⟨c,w,z,r⟩:=rF (x / 3) hm;have tg:tst pg (call pg (n+2)) (wF x m e ps B (.sh false Cn.yes.d)) (.cmp .Gt (.op .Mod eV0 eC3) eC0)=.ok (decide (0<x % 3)):=bZ (cL (v0 _) (aI _) (by decide)) (aI _) (aAW _ _);obtain⟨g,gw,gz,k4⟩:∃g:Cn,g.wf m true/\g.sz<=31/\ex pg (call pg (n+2)) (wF x m e ps B (.sh false Cn.yes.d)) (hdS (drp 3 f21.body))=.next (wF x m e ps B (.sh false g.d)):=by
  cases hk:decide (0<x % 3) with
  | false=>rw[hk] at tg;exact⟨.yes,trivial,by simp[Cn.sz],aZ tg⟩|true=>rw[hk] at tg;exact⟨c,w,z,zG tg (bU (bL (aW (fR (v0 _) (aI _) (by decide)) ((λ_=>bD rfl) _) (r n))))⟩
 have e3:=cL (fR (v0 (.sh false g.d)) (aI (.int 1000)) (by decide)) (v2 _) (by omega);rw[eq] at e3;exact⟨⟨g,ps,q⟩,⟨gw,gz,λp hp=>(G p hp).1,I⟩,EB q,by show(q:Int)<e;omega,aK rfl rfl (v:=.cl (Way.d ⟨g,ps,q⟩)) (cs rfl (cs ef (cs k3 (cs k4 (aS (eI (aH 5 rfl) (fP (cD 3 rfl) (wJ 3 (jK ps))) e3))))))⟩
abbrev hF(ns:List Int)(m r:Nat)(h:List (List Way))(s4 s5 s6:Sl):Sg:=[.sh true (.lst (ns.map D.int)),.sh true (.int m),.sh false (.int r),.own false (bY h),s4,s5,s6]
abbrev hB:Ss:=match hdS (drp 2 f22.body) with|.for _ _ b=>b|_=>.nil
abbrev hC:Ss:=match hdS (drp 1 hB) with|.for _ _ b=>b|_=>.nil
theorem aGo(n:Nat)(ns:List Int){m:Nat}(hm:1<=m)(h5:m<=5):∃h:List (List Way),h.length<=4/\wK m h/\call pg (n+4) 22 [.lst (ns.map D.int),.int m]=.ok (.lst (bY h),true,false):=by
 obtain⟨r,er,hr⟩:=jR (eM ns 1) (n:=5) (by decide);have er:eM ns 1 % 5=(r:Int):=er;have k1:ex pg (call pg (n+3)) [.sh true (.lst (ns.map D.int)),.sh true (.int m),.dead,.dead,.dead,.dead,.dead] (hdS f22.body)=.next [.sh true (.lst (ns.map D.int)),.sh true (.int m),.sh false (.int r),.dead,.dead,.dead,.dead]:=
  bL ((cL (aW (aM 0 rfl) (aI _) (dH (n+1) ns (by decide))) (aI (.int 5)) (by decide)).trans (by rw[er]))
 obtain⟨σ',ef,h,s4,L,G,I,g2,rfl⟩:=fE (t:=.n 4) (b:=hB) (λi σ=>∃(h:List (List Way)) (s4 L G:Sl),h.length=i/\(∀ws∈h,aJm m r ws)/\σ=hF ns m r h s4 L G) (eH (bD (i:=2) rfl) rfl (by omega)) ⟨[],_,_,_,rfl,λ_ z=>(by cases z),rfl⟩ (λi hi σ ⟨h,s4,L,G,I,g2,B⟩=>by
  have q2:i<r:=by simpa using hi
  subst B;obtain⟨c,U,hc⟩:=jR (eM ns (2+i)) (n:=4) (by decide);have U:eM ns (2+i) % 4=(c:Int):=U;have wr:ev pg (call pg (n+3)) (hF ns m r h (.sh false (.int i)) (.own false (([]:List Way).map Way.d)) G) (.op .Add eC1 (.op .Mod (.call 17 (eL2 eV0 (.op .Add eC2 eV4))) eC4))=.ok (.cl (.int ((1+c:Nat):Int))):=by have:=dG (P:=pg) (σ:=hF ns m r h (.sh false (.int i)) (.own false (([]:List Way).map Way.d)) G) (aI (.int 1)) (cL (aW (aM 0 rfl) ((dG (aI (.int 2)) (bD (i:=4) rfl)).trans (by rw[show(2:Int)+(i:Int)=((2+i:Nat):Int) by omega])) (dH (n+1) ns (k:=2+i) (by omega))) (aI (.int 4)) (by decide));rw[U,show(1:Int)+(c:Int)=((1+c:Nat):Int) by omega] at this;exact this
  obtain⟨q4,Z,ws,M,j1,j2,rfl⟩:=fE (t:=.n 6) (b:=hC) (λj σ=>∃(ws:List Way) (M:Sl),ws.length=j/\(∀w∈ws,qX m w/\0<=w.nx/\w.nx<(r:Int)+1)/\σ=hF ns m r h (.sh false (.int i)) (.own false (ws.map Way.d)) M) (eH wr rfl (by omega)) ⟨[],_,rfl,λ_ z=>(by cases z),rfl⟩ (λj hj σ ⟨ws,M,j1,j2,B⟩=>by
   have q3:j<1+c:=by simpa using hj
   subst B;obtain⟨w,o1,o2,o3,q1⟩:=aIu n (eM ns (8+4*i+j)) (e:=r+1) hm h5 (by omega);have e5:ev pg (call pg (n+3)) (hF ns m r h (.sh false (.int i)) (.own false (ws.map Way.d)) (.sh false (.int j))) (.op .Add eV2 eC1)=.ok (.cl (.int ((r+1:Nat):Int))):=by rw[show((r+1:Nat):Int)=(r:Int)+1 by omega];exact dG (bD rfl) (aI (.int 1))
   have e6:ev pg (call pg (n+3)) (hF ns m r h (.sh false (.int i)) (.own false (ws.map Way.d)) (.sh false (.int j))) (.op .Add (.op .Add eC8 (.op .Mult eC4 eV4)) eV6)=.ok (.cl (.int ((8+4*i+j:Nat):Int))):=by have:=dG (P:=pg) (cl:=call pg (n+3)) (σ:=hF ns m r h (.sh false (.int i)) (.own false (ws.map Way.d)) (.sh false (.int j))) (dG (aI (.int 8)) (iS (aI (.int 4)) (bD (i:=4) rfl) (by omega) (by omega))) (bD (i:=6) rfl);rw[show(8:Int)+4*(i:Int)+(j:Int)=((8+4*i+j:Nat):Int) by omega] at this;exact this
   refine⟨hF ns m r h (.sh false (.int i)) (.own false (ws.map Way.d)) (.sh false (.int j)),hF ns m r h (.sh false (.int i)) (.own false ((ws++[w]).map Way.d)) (.sh false (.int j)),?_,bU (rB (cU (aW (aM 0 rfl) e6 (dH (n+1) ns (by omega))) (bD rfl) e5 q1) rfl (by rw[lM];unfold lim;omega) rfl (by rw[B2];rfl)),ws++[w],_,by rw[lA,j1];rfl,gE j2 ⟨o1,o2,by omega⟩,rfl⟩;rw[Bs,BQ,dF];rfl)
  rw[lM,AK] at j1;refine⟨hF ns m r h (.sh false (.int i)) L G,hF ns m r (h++[ws]) (.sh false (.int i)) (.sh false (sA ws)) M,?_,cs (eT (nI fQ)) (cs Z (bU (rB (cD 5 rfl) rfl (by rw[lM];unfold lim;omega) rfl (by grind)))),h++[ws],_,_,_,by rw[lA,I];rfl,gE g2 ⟨by omega,by omega,j2⟩,rfl⟩;rw[Bs,BQ,dF];rfl)
 rw[lM,AK] at I;refine⟨h,by omega,⟨by omega,λws q0=>I▸g2 ws q0⟩,aK (F:=f22) rfl rfl (cs k1 (cs (σ':=hF ns m r [] .dead .dead .dead) rfl (cs ef (zH rfl))))⟩
noncomputable def cX:List (List Int):=[[5],[2,1],[2,2],[3,2],[1,1,1],[2,1,1],[2,3],[1,1,1,1]]
noncomputable def aRb(k:Nat):Str:=⟨#[("abcd" : Str).cps.toList.getD k 0]⟩
noncomputable def bsO(t:List Int):List (Str×Int):=(Au t.length).map λk=>(aRb k,t.getD k 0)
abbrev ssO(t:List Int):List (List Int):=fN (bsO t)
theorem rG{t:List Int}(h:t∈cX){p:List Int->Prop}(B:p [5])(G:p [2,1])(I:p [2,2])(L:p [3,2])(M:p [1,1,1])(U:p [2,1,1])(Z:p [2,3])(h7:p [1,1,1,1]):p t:=by simp only[cX,Ax,Fm,Kj] at h;rcases h with rfl|rfl|rfl|rfl|rfl|rfl|rfl|rfl <;> assumption
theorem wP(t:List Int):(bsO t).length=t.length:=by unfold bsO;rw[lM,AK]
section
variable {t:List Int}
theorem aIv(h:t∈cX):aQt (bsO t):=by apply rG h <;> exact⟨by decide +kernel,by decide +kernel,by decide +kernel⟩
theorem rH(h:t∈cX):1<=(bsO t).length/\(bsO t).length<=4:=by rw[wP];apply rG h <;> decide
theorem rJ(h:t∈cX):6<=(ssO t).length/\(ssO t).length<=16:=by apply rG h <;> decide +kernel
noncomputable def aGp:List (List Int)->Bool
 | []=>true|x::r=>r.all (λy=>lexI x y)&&aGp r
theorem aCu:∀{l:List (List Int)},aGp l=true->l.Pairwise (lexI · ·=true)
 | [],_=>.nil|x::r,h=>by simp only[aGp,bA,AB] at h;exact .cons h.1 (aCu h.2)
theorem aIw(h:t∈cX):(ssO t).Pairwise (lexI · ·=true):=by refine aCu ?_;apply rG h <;> decide +kernel
theorem zL(n:Nat)(h:t∈cX):call pg (n+1) 18 [.lst (aN (bsO t))]=.ok (.lst ((ssO t).map aB),true,false):=by apply rG h <;> kernel_rfl
theorem iT(h:t∈cX){s:List Int}(hs:s∈ssO t):s.length=(bsO t).length/\∀x∈s,0<=x/\x<=7:=by
 obtain⟨I,L⟩:=rD hs;refine⟨I,λx M=>?_⟩;obtain⟨j,G⟩:=BX M;have B:j<(bsO t).length:=by have:=(Ai.mp G).1;omega
 have:=L j x (bsO t)[j] G (Ac B);have:=(aIv h).one _ (AM B);omega
end
abbrev Pr:=List Int×List Int
noncomputable def bH(p:Pr):D:=.tup [aB p.1,aB p.2]
theorem rK(p:Pr):noL (bH p)=true:=oV (aG _) (aG _)
theorem aLV{b:List Int}(h:1<=b.length):eA (.cl (aB b)) (.cl (.int (-1)))=.ok (.cl (.int (b.getD (b.length-1) 0))):=by
 have B:ixN (b.map D.int).length (-1)=some (b.length-1):=by
  rw[(lM _)];unfold ixN;rw[if_neg (by decide),if_pos (by omega)]
  congr 1
  omega
 have e:(b.map D.int)[b.length-1]? = some (.int (b.getD (b.length-1) 0)):=by rw[Ar,Ac (by omega),Ak,Ac (by omega)];rfl
 unfold eA aB;simp only[dR,B,e,Vl.sub,Hp.noL,if_true]
abbrev sF(x:Int)(ss:List (List Int))(kd:Int)(ps:List Pr)(s4 s5 s6 s7:Sl):Sg:=[.sh true (.int x),.sh true (.lst (ss.map aB)),.sh true (.int kd),.own false (ps.map bH),s4,s5,s6,s7]
abbrev sB:Ss:=match hdS (drp 1 f23.body) with|.for _ _ b=>b|_=>.nil
abbrev sC:Ss:=match hdS sB with|.for _ _ b=>b|_=>.nil
theorem aCv{s:List Int}{k:Nat}(h:∀x∈s,0<=x/\x<=7):0<=s.getD k 0/\s.getD k 0<=7:=by
 rw[Ak];cases e:s[k]? with
 | none=>exact⟨by decide,by decide⟩|some x=>exact h x (mG e)
theorem aDL(n:Nat){t:List Int}(ht:t∈cX)(x B:Int){a b:List Int}(ha:a∈ssO t)(hb:b∈ssO t){ps:List Pr}(hl:ps.length<=1000)(L G:Sl) :
 ∃M t6 t7,(M=ps\/M=ps++[(a,b)])/\exs pg (call pg (n+1)) (sF x (ssO t) B ps (.sh false (aB a)) (.sh false (aB b)) L G) sC=.next (sF x (ssO t) B M (.sh false (aB a)) (.sh false (aB b)) t6 t7):=by
 obtain⟨la,ra⟩:=iT ht ha;obtain⟨lb,rb⟩:=iT ht hb;have l1:=rH ht
 let Z:Sg:=sF x (ssO t) B ps (.sh false (aB a)) (.sh false (aB b)) L G
 have v4:∀L G,ev pg (call pg (n+1)) (sF x (ssO t) B ps (.sh false (aB a)) (.sh false (aB b)) L G) eV4=.ok (.cl (aB a)):=λ_ _=>aH 4 rfl;have lt:ev pg (call pg (n+1)) Z (.bi .len (eL1 eV4))=.ok (.cl (.int a.length)):=by have:=fP (v4 L G) (oU _);rw[lM] at this;exact this
 have hc:ev pg (call pg (n+1)) Z (.comp 1 [4,5] (.n 0) (.rng eC0 (.bi .len (eL1 eV4))) (eL1 (.cmp .NotEq (.idx eV1 eV0) (.idx eV2 eV0))) eV0)=.ok ⟨.lst (((Au a.length).filter λk=>!(a.getD k 0==b.getD k 0)).map λk:Nat=>D.int (k:Int)),true,false,[]⟩:=by
  refine vZ (λk:Nat=>Vl.cl (.int (k:Int))) (λk:Nat=>D.int (k:Int)) (λk=>!(a.getD k 0==b.getD k 0)) (λ_=>rfl) (eH lt rfl (by omega)) (by rw[AK];unfold lim;omega) λk hk=>⟨[.sh false (.int k),.sh false (aB a),.sh false (aB b)],rfl,?_,bD rfl⟩
  have hk:=AV.mp hk;exact bZ (bM (aH 1 rfl) (bD rfl) (jJ hk)) (bM (aH 2 rfl) (bD rfl) (jJ (by omega))) (by rw[aAU,dR,dR,oT];rfl)
 generalize hu:(((Au a.length).filter λk=>!(a.getD k 0==b.getD k 0)).map λk:Nat=>D.int (k:Int))=us at hc;obtain⟨a0,a7⟩:=aCv (k:=0) ra;obtain⟨b0,b7⟩:=aCv (k:=b.length-1) rb;have ll:∀L G,ev pg (call pg (n+1)) (sF x (ssO t) B ps (.sh false (aB a)) (.sh false (aB b)) L G) (.bi .len (eL1 eV3))=.ok (.cl (.int ps.length)):=λL G=>by have:=dX (cD (P:=pg) (cl:=call pg (n+1)) (σ:=sF x (ssO t) B ps (.sh false (aB a)) (.sh false (aB b)) L G) 3 rfl) rfl;rwa [lM] at this
 have ar:ev pg (call pg (n+1)) (sF x (ssO t) B ps (.sh false (aB a)) (.sh false (aB b)) (.sh false (.int us.length)) G) (.op .Add (.op .Add (.bi .len (eL1 eV3)) (.op .Mult (.idx eV4 eC0) eC5)) (.op .Mult (.idx eV5 (.neg eC1)) eC3))=.ok (.cl (.int ((ps.length:Int)+a.getD 0 0*5+b.getD (b.length-1) 0*3))):=
  dG (dG (ll _ _) (iS (bM (v4 _ _) (aI _) (jJ (k:=0) (by omega))) (aI _) (by decide) (by decide))) (iS (bM ((λ_ _=>aH 5 rfl) _ _) (show ev pg (call pg (n+1)) _ (.neg eC1)=.ok (.cl (.int (-1))) from rfl) (aLV (by omega))) (aI _) (by decide) (by decide))
 have v0:∀L G,ev pg (call pg (n+1)) (sF x (ssO t) B ps (.sh false (aB a)) (.sh false (aB b)) L G) eV0=.ok (.cl (.int x)):=λ_ _=>bD rfl;have k2:ex pg (call pg (n+1)) (sF x (ssO t) B ps (.sh false (aB a)) (.sh false (aB b)) (.sh false (.int us.length)) G) (hdS (drp 1 sC))=.next (sF x (ssO t) B ps (.sh false (aB a)) (.sh false (aB b)) (.sh false (.int us.length)) (.sh false (.int (mixF x ((ps.length:Int)+a.getD 0 0*5+b.getD (b.length-1) 0*3))))):=bL (aW (v0 (.sh false (.int us.length)) G) ar (dQ n x (by omega) (by omega)));generalize mixF x ((ps.length:Int)+a.getD 0 0*5+b.getD (b.length-1) 0*3)=y at k2
 let I:Sg:=sF x (ssO t) B ps (.sh false (aB a)) (.sh false (aB b)) (.sh false (.int us.length)) (.sh false (.int y))
 have w2:ev pg (call pg (n+1)) I eV2=.ok (.cl (.int B)):=bD rfl;have w6:ev pg (call pg (n+1)) I eV6=.ok (.cl (.int us.length)):=bD rfl;have w7:ev pg (call pg (n+1)) I eV7=.ok (.cl (.int y)):=bD rfl;have U:∀{p q:E} {u v:Bool},tst pg (call pg (n+1)) I p=.ok u->tst pg (call pg (n+1)) I q=.ok v->tst pg (call pg (n+1)) I (.orr p q)=.ok (u||v):=λ{p q u v} h1 h2=>by
  cases u with
  | true=>exact aJl h1|false=>exact iA h1 h2
 have tt:=nH (bZ w6 (aI (.int 0)) (aAW _ _)) (U (jW w2 (aI (.int 2))) (U (nH (jW w2 (aI (.int 1))) (jW w6 (aI (.int 1)))) (jW (cL w7 (aI (.int 6)) (by decide)) (aI (.int 0)))));generalize (decide ((0:Int)<us.length)&&(B==2||(B==1&&(us.length:Int)==1||y % 6==0)))=k at tt;cases k with
 | false=>exact⟨ps,_,_,.inl rfl,cs (bL (fP hc (aCn _ _ _ _))) (cs k2 (bU (aZ tt)))⟩|true=>exact⟨ps++[(a,b)],_,_,.inr rfl,cs (bL (fP hc (aCn _ _ _ _))) (cs k2 (bU (zG tt (bU (rB (dL (v4 _ _) ((λ_ _=>aH 5 rfl) _ _)) rfl (by rw[lM];unfold lim;omega) rfl (by rw[B2];rfl))))))⟩
theorem mM{v:Vl}(ss:List (List Int)):items v (ss.map aB)=ss.map λs=>Vl.cl (aB s):=dP aG ss
theorem jL{P:Pg}{cl:Caller}{σ:Sg}{i:Nat}{ss:List (List Int)}(h:σ[i]? = some (.sh true (.lst (ss.map aB)))):walk P cl σ (.seq (.v i))=.ok (ss.map (λs=>Vl.cl (aB s)),[]):=by rw[cG,aM i h,aA];show R.ok (items _ (ss.map aB),[])=_;rw[mM]
theorem uD(n:Nat){t:List Int}(ht:t∈cX)(x I:Int):∃ps:List Pr,ps.length<=256/\(∀p∈ps,p.1∈ssO t/\p.2∈ssO t)/\call pg (n+2) 23 [.int x,.lst ((ssO t).map aB),.int I]=.ok (.lst (ps.map bH),true,false):=by
 have q3:=(rJ ht).2;obtain⟨σ',ef,ps,s4,s5,s6,s7,g1,g2,rfl⟩:=fE (t:=.n 4) (λi σ=>∃(ps:List Pr) (s4 s5 s6 s7:Sl),ps.length<=i*16/\(∀p∈ps,p.1∈ssO t/\p.2∈ssO t)/\σ=sF x (ssO t) I ps s4 s5 s6 s7) (jL (i:=1) rfl) ⟨[],_,_,_,_,A9 _,λ_ z=>(by cases z),rfl⟩ (λi hi σ ⟨ps,s4,s5,s6,s7,g1,g2,G⟩=>by
  have q0:i<(ssO t).length:=by simpa using hi
  subst G;have ha:(ssO t)[i]∈ssO t:=AM q0;obtain⟨q4,Z,q2,t5,M,U,j1,L,rfl⟩:=fE (t:=.n 5) (λj σ=>∃(B:List Pr) (t5 M U:Sl),B.length<=i*16+j/\(∀p∈B,p.1∈ssO t/\p.2∈ssO t)/\σ=sF x (ssO t) I B (.sh false (aB (ssO t)[i])) t5 M U) (jL (i:=1) rfl) ⟨ps,_,_,_,g1,g2,rfl⟩ (λj hj σ ⟨B,t5,M,U,j1,L,G⟩=>by
   have q1:j<(ssO t).length:=by simpa using hj
   subst G;have hb:(ssO t)[j]∈ssO t:=AM q1;obtain⟨qs,u6,u7,hq,r⟩:=aDL n ht x I ha hb (ps:=B) (by omega) M U;refine⟨_,_,by rw[Bs,dF];rfl,r,qs,_,_,_,?_,?_,rfl⟩;rcases hq with rfl|rfl;omega;rw[lA];show _+1<=_;omega;rcases hq with rfl|rfl;exact L;exact gE L ⟨ha,hb⟩)
  rw[lM] at j1;exact⟨_,_,by rw[Bs,dF];rfl,bU Z,q2,_,_,_,_,by omega,L,rfl⟩)
 rw[lM] at g1;exact⟨ps,by omega,g2,aK rfl rfl (v:=⟨.lst (ps.map bH),true,false,[]⟩) (cs (σ':=sF x (ssO t) I [] .dead .dead .dead .dead) rfl (cs ef (zH rfl)))⟩
theorem aGq(n:Nat){t:List Int}(ht:t∈cX)(x:Int):∃l:List (List Int),l.Sublist (ssO t)/\call pg (n+2) 29 [.int x,.lst ((ssO t).map aB)]=.ok (.lst (l.map aB),true,false):=by
 obtain⟨l6,q0⟩:=rJ ht;obtain⟨q,eq,hq⟩:=jR x (n:=4) (by decide);have eq:x % 4=(q:Int):=eq
 let σ:Sg:=[.sh true (.int x),.sh true (.lst ((ssO t).map aB))]
 have U:=aM (P:=pg) (cl:=call pg (n+1)) (σ:=σ) 1 rfl;have M:ev pg (call pg (n+1)) σ (.op .Mod eV0 eC4)=.ok (.cl (.int q)):=(cL (bD rfl) (aI (.int 4)) (by decide)).trans (by rw[eq]);have I:=bZ M (aI (.int 2)) (aAV _ _);have L:=jW M (aI (.int 2));by_cases h2:q<2;rw[Av (by omega)] at I;refine⟨ssO t,KH _,aK (F:=f29) rfl rfl (v:=⟨.lst ((ssO t).map aB),true,false,[]⟩) (bT I (aS (fP U ?_)))⟩;show R.ok (Vl.mk (.lst ((ssO t).map aB)) true (true&&!noLs ((ssO t).map aB)) (if noLs ((ssO t).map aB)=true then [] else []))=_;rw[nU];rfl;rw[Aw (by omega)] at I;by_cases h3:q=2;rw[show((q:Int)==2)=true by rw[h3];rfl] at L;obtain⟨k,Z,B⟩:=jR (x / 4) (n:=(ssO t).length) (by omega);refine⟨(ssO t).filter λs=>!(s==(ssO t)[k]),Gk,aK (F:=f29) rfl rfl (cs (aZ I) (bT L (aS (vZ (λs=>Vl.cl (aB s)) aB (λs=>!(s==(ssO t)[k])) aG (jL rfl) (by unfold lim;omega) λs hs=>⟨[.sh false (aB s),.sh true (.int x),.sh true (.lst ((ssO t).map aB))],rfl,?_,aH 0 rfl⟩))))⟩;have G:=dX (aM (P:=pg) (cl:=call pg (n+1)) (σ:=[.sh false (aB s),.sh true (.int x),.sh true (.lst ((ssO t).map aB))]) 2 rfl) rfl;rw[lM] at G;have hi:=cL (fR (bD (i:=1) rfl) (aI (.int 4)) (by decide)) G (by omega);rw[Z] at hi;exact bZ (aH 0 rfl) (nW (aM 2 rfl) rfl hi (Ac B) (aG _)) (by rw[aAU,dR,dR,gG];rfl)
 . rw[show((q:Int)==2)=false by simp;omega] at L;have G:=dX U rfl;rw[lM] at G
   let g:Nat->List Int:=λk=>(ssO t).getD k []
   have hc:=vZ (k:=1) (caps:=[0,1]) (T:=.n 0) (λk:Nat=>Vl.cl (.int (k:Int))) (λk=>aB (g k)) (λk=>mixF x k % 5==0) (λk=>aG _) (eH G rfl (by omega)) (by rw[AK];unfold lim;omega) λk B=>by have B:=AV.mp B;exact⟨[.sh false (.int k),.sh true (.int x),.sh true (.lst ((ssO t).map aB))],rfl,jW (cL (aW (bD (i:=1) rfl) (bD (i:=0) rfl) (dQ n x (by omega) (by omega))) (aI _) (by decide)) (aI _),(nW (aM 2 rfl) rfl (bD (i:=0) rfl) (by show(ssO t)[k]? = some ((ssO t).getD k []);rw[Ak,Ac B];rfl) (aG _))⟩
   refine⟨((Au (ssO t).length).filter λk:Nat=>mixF x k % 5==0).map g,?_,aK (F:=f29) rfl rfl (v:=⟨.lst ((((Au (ssO t).length).filter λk:Nat=>mixF x k % 5==0).map g).map aB),true,false,[]⟩) (cs (aZ I) (cs (aZ L) (aS (hc.trans (by rw[A7];rfl)))))⟩;have e:(Au (ssO t).length).map g=ssO t:=by apply Dd;intro i;rw[Ar];by_cases hi:i<(ssO t).length;rw[Dq hi];show some ((ssO t).getD i [])=_;rw[Ak,Ac hi];rfl;rw[AR (by simpa using hi),AR (by omega)];rfl
   conv=>rhs;rw[<-e]
   exact KO g Gk
theorem gH(m:Nat){st:List Int}:∀(s:Sm) (n:Nat),s.wf st.length true->call pg (n+s.sz) 24 [s.d,aB st]=.ok (.int (s.val st st),false,false)
 | .num k,n,w=>by exact aK (F:=f24) rfl rfl (bT (bJ (bM (aT 0 rfl rfl) (aI _) (gW _ _ rfl)) (by grind)) (aS (bM (aT 0 rfl rfl) (aI _) (iB _ _ _ rfl))))|.box k,n,w=>by exact aK (F:=f24) rfl rfl (cs (aZ (bJ (bM (aT 0 rfl rfl) (aI _) (gW _ _ rfl)) (by decide +kernel))) (bT (bJ (bM (aT 0 rfl rfl) (aI _) (gW _ _ rfl)) (by grind)) (aS (bM (aT 1 rfl (aG _)) (bM (aT 0 rfl rfl) (aI _) (iB _ _ _ rfl)) (jJ w)))))|.aft k,n,w=>by cases w.2|.two p a b,n,w=>by
  have hs:n+(Sm.two p a b).sz=(n+a.sz+b.sz)+1:=by show n+(1+a.sz+b.sz)=_;omega
  rw[hs];have G:=gH m a (n+b.sz) w.1;rw[show n+b.sz+a.sz=n+a.sz+b.sz by omega] at G;have nd:noL (Sm.two p a b).d=true:=Sm.noL _;have B:∀s2 I,ev pg (call pg (n+a.sz+b.sz)) [.sh true (Sm.two p a b).d,.sh true (aB st),s2,I] (.idx eV0 eC0)=.ok (.cl (.str (aAX p))):=λ_ _=>bM ((λ_ _=>aT 0 rfl nd) _ _) (aI _) (gW _ _ rfl);refine aK rfl rfl (v:=.cl (.int ((Sm.two p a b).val st st))) (cs (aZ (bJ (B _ _) (by cases p <;> decide +kernel))) (cs (aZ (bJ (B _ _) (by cases p <;> decide +kernel))) (cs (bL (aW (bM ((λ_ _=>aT 0 rfl nd) _ _) (aI _) (iB _ _ _ a.noL)) ((λ_ _=>aT 1 rfl (aG _)) _ _) G)) (cs (bL (aW (bM ((λ_ _=>aT 0 rfl nd) _ _) (aI _) (wC _ _ _ _ b.noL)) ((λ_ _=>aT 1 rfl (aG _)) _ _) (gH m b (n+a.sz) w.2))) ?_))));cases p with
  | true=>exact bT (bJ (B _ _) (by decide +kernel)) (aS (dG (bD rfl) (bD rfl)))|false=>exact cs (aZ (bJ (B _ _) (by decide +kernel))) (aS (aOV (bD rfl) (bD rfl)))
theorem aDM(n:Nat){st:List Int}{s:Sm}(w:s.wf st.length true)(z:s.sz<=3):call pg (n+3) 24 [s.d,aB st]=.ok (.int (s.val st st),false,false):=by have:=gH 0 s (n+3-s.sz) w;rwa [show n+3-s.sz+s.sz=n+3 by omega] at this
theorem jM{st:List Int}:∀(c:Cn) (n:Nat),c.wf st.length true->call pg (n+c.sz) 25 [c.d,aB st]=.ok (.bl (c.hold st st),false,false)
 | .yes,n,w=>by exact aK (F:=f25) rfl rfl (bT (bJ (bM (aT 0 rfl rfl) (aI _) (gW _ _ rfl)) (by grind)) (aS (aI _)))|.nt c,n,w=>by rw[show n+(Cn.nt c).sz=(n+c.sz)+1 by show n+(1+c.sz)=_;omega];have G:ev pg (call pg (n+c.sz)) [.sh true (Cn.nt c).d,.sh true (aB st),.dead,.dead] eV0=.ok (.cl (Cn.nt c).d):=aT 0 rfl (Cn.noL _);have B:=bM G (aI (.int 0)) (gW (.str "not") _ rfl);exact aK (F:=f25) rfl rfl (cs (aZ (bJ B (by decide +kernel))) (bT (bJ B (by grind)) (aS (aOI (aW (bM G (aI _) (iB _ _ _ c.noL)) (aT 1 rfl (aG _)) (jM c n w))))))|.cmp i a b,n,w=>by
  rw[show n+(Cn.cmp i a b).sz=(n+a.sz+b.sz)+1 by show n+(1+a.sz+b.sz)=_;omega];have I:=gH 0 a (n+b.sz) w.1;rw[show n+b.sz+a.sz=n+a.sz+b.sz by omega] at I;have G:ev pg (call pg (n+a.sz+b.sz)) [.sh true (Cn.cmp i a b).d,.sh true (aB st),.dead,.dead] eV0=.ok (.cl (Cn.cmp i a b).d):=aT 0 rfl (Cn.noL _);have B:=bM G (aI (.int 0)) (gW (.str (zC i)) _ rfl);have L:=aW (bM G (aI (.int 1)) (iB _ _ _ a.noL)) (aT 1 rfl (aG _)) I;have M:=aW (bM G (aI (.int 2)) (wC _ _ _ _ b.noL)) (aT 1 rfl (aG _)) (gH 0 b (n+a.sz) w.2);refine aK (F:=f25) rfl rfl (v:=.cl (.bl ((Cn.cmp i a b).hold st st))) (cs (aZ (bJ B (by cases i <;> decide +kernel))) (cs (aZ (bJ B (by cases i <;> decide +kernel))) ?_));cases i with
  | true=>exact bT (bJ B (by decide +kernel)) (aS (tZ L M (oT _ _)))|false=>exact cs (aZ (bJ B (by decide +kernel))) (bT (bJ B (by decide +kernel)) (aS (tZ L M (aAV _ _))))
 | .two p a b,n,w=>by
  rw[show n+(Cn.two p a b).sz=(n+a.sz+b.sz)+1 by show n+(1+a.sz+b.sz)=_;omega];have I:=jM a (n+b.sz) w.1;rw[show n+b.sz+a.sz=n+a.sz+b.sz by omega] at I;have nd:noL (Cn.two p a b).d=true:=Cn.noL _;have B:∀s2 U,ev pg (call pg (n+a.sz+b.sz)) [.sh true (Cn.two p a b).d,.sh true (aB st),s2,U] (.idx eV0 eC0)=.ok (.cl (.str (qW p))):=λ_ _=>bM ((λ_ _=>aT 0 rfl nd) _ _) (aI _) (gW _ _ rfl);refine aK rfl rfl (v:=.cl (.bl ((Cn.two p a b).hold st st))) (cs (aZ (bJ (B _ _) (by cases p <;> decide +kernel))) (cs (aZ (bJ (B _ _) (by cases p <;> decide +kernel))) (cs (aZ (bJ (B _ _) (by cases p <;> decide +kernel))) (cs (aZ (bJ (B _ _) (by cases p <;> decide +kernel))) (cs (bL (aW (bM ((λ_ _=>aT 0 rfl nd) _ _) (aI _) (iB _ _ _ a.noL)) ((λ_ _=>aT 1 rfl (aG _)) _ _) I)) (cs (bL (aW (bM ((λ_ _=>aT 0 rfl nd) _ _) (aI _) (wC _ _ _ _ b.noL)) ((λ_ _=>aT 1 rfl (aG _)) _ _) (jM b (n+a.sz) w.2))) ?_))))));cases p with
  | true=>exact bT (bJ (B _ _) (by decide +kernel)) (aS (aOJ (aH 2 rfl) (aH 3 rfl)))|false=>exact cs (aZ (bJ (B _ _) (by decide +kernel))) (aS (aGa (aH 2 rfl) (aH 3 rfl)))
theorem nJ(n:Nat){st:List Int}{c:Cn}(w:c.wf st.length true)(z:c.sz<=31):call pg (n+31) 25 [c.d,aB st]=.ok (.bl (c.hold st st),false,false):=by have:=jM c (n+31-c.sz) w;rwa [show n+31-c.sz+c.sz=n+31 by omega] at this
abbrev lB:Ss:=match hdS (drp 2 f26.body) with|.for _ _ b=>b|_=>.nil
abbrev lF(bs:List (Str×Int))(s1:Sl)(st acc:List Int)(s4 s5:Sl):Sg:=[.sh true (.lst (aN bs)),s1,.sh true (aB st),.own false (acc.map D.int),s4,s5]
theorem aDN(n:Nat){bs:List (Str×Int)}{st B:List Int}(hs:st.length=bs.length)(M:B.length=bs.length)(hb:bs.length<=5){p:Nat×Sm}(o:nV bs.length p)(s1:Sl) :
 exs pg (call pg (n+3)) (lF bs s1 st B (.sh false (.int p.1)) (.sh false p.2.d)) lB =
  if 0<=p.2.val st st/\p.2.val st st<=mH bs p.1 then .next (lF bs s1 st (B.set p.1 (p.2.val st st)) (.sh false (.int p.1)) (.sh false p.2.d)) else .ret (.cl .non):=by
 have U:=aDM n (by rw[hs];exact o.wf) o.sz;generalize p.2.val st st=v at U;have k1:ex pg (call pg (n+3)) (lF bs s1 st B (.sh false (.int p.1)) (.sh false p.2.d)) (hdS lB)=.next (lF bs s1 st (B.set p.1 v) (.sh false (.int p.1)) (.sh false p.2.d)):=
  aIt (aW (aH 5 rfl) (aT 2 rfl (aG _)) U) (bD rfl) rfl (by rw[M];exact o.box) (by omega)
 have hv:(B.set p.1 v).getD p.1 0=v:=by rw[Ak,Ay (by rw[M];exact o.box)];rfl
 have L:=aJp (P:=pg) (cl:=call pg (n+3)) (σ:=lF bs s1 st (B.set p.1 v) (.sh false (.int p.1)) (.sh false p.2.d)) (cD 3 rfl) rfl (bD (i:=4) rfl) (by rw[A1,M];exact o.box);rw[hv] at L;obtain⟨b,b1,b2,b3⟩:=aCr o.box;have G:tst pg (call pg (n+3)) (lF bs s1 st (B.set p.1 v) (.sh false (.int p.1)) (.sh false p.2.d)) (.cmp .Lt (.idx eV3 eV4) eC0)=.ok (decide (v<0)):=bZ L (aI _) (aAV _ _);have I:tst pg (call pg (n+3)) (lF bs s1 st (B.set p.1 v) (.sh false (.int p.1)) (.sh false p.2.d)) (.cmp .Gt (.idx eV3 eV4) (.idx (.idx eV0 eV4) eC1))=.ok (decide (mH bs p.1<v)):=bZ L (bM (bM (aM 0 rfl) (bD rfl) b2) (aI _) b3) (aAW _ _);refine cs k1 ?_;by_cases Z:v<0;rw[Av Z] at G;rw[if_neg (by omega)];exact bT (aJl G) (aS (aI _));rw[Aw Z] at G;by_cases h1:mH bs p.1<v;rw[Av h1] at I;rw[if_neg (by omega)];exact bT (iA G I) (aS (aI _));rw[Aw h1] at I;rw[if_pos (by omega)];exact bU (aZ (iA G I))
theorem aGr{p:Nat×Sm}{B s1 s2 G I L:Sl}:bP [B,s1,s2,G,I,L] (.cl (iQ p)) (.t [4,5])=.ok [B,s1,s2,G,.sh false (.int p.1),.sh false p.2.d]:=zF _ rfl p.2.noL
theorem uE(n:Nat){bs:List (Str×Int)}{st:List Int}(hs:st.length=bs.length)(M:bs.length<=5)(s1:Sl):∀(ps:List (Nat×Sm)) (B:List Int) (G I:Sl),(∀p∈ps,nV bs.length p)->B.length=bs.length ->
 ∃Z t5,dO (λσ x=>O.from σ (bP σ x (.t [4,5])) λσ'=>exs pg (call pg (n+3)) σ' lB) (ps.map λp=>Vl.cl (iQ p)) (lF bs s1 st B G I) =
  (match putF bs st B ps with|none=>.ret (.cl .non)|some r=>.next (lF bs s1 st r Z t5))
 | [],B,G,I,_,_=>⟨G,I,rfl⟩
 | p::ps,B,G,I,h,ha=>by rw[mC,dO,aGr,cF,(aDN n hs ha M (h p Am) s1),putF];by_cases L:0<=p.2.val st st/\p.2.val st st<=mH bs p.1;rw[if_pos L,if_pos L];exact uE n hs M s1 ps (B.set p.1 (p.2.val st st)) _ _ (λq U=>h q (Ag _ U)) (by rw[A1];exact ha);rw[if_neg L,if_neg L];exact⟨G,I,rfl⟩
theorem zM(n:Nat){bs:List (Str×Int)}{st:List Int}(hs:st.length=bs.length)(U:bs.length<=5){w:Way}(o:qX bs.length w):call pg (n+32) 26 [.lst (aN bs),w.d,aB st]=.ok (stD (behF bs w st),false,false):=by
 have ch:=nJ n (by rw[hs];exact o.g) o.gs
 let B:Sg:=[.sh true (.lst (aN bs)),.sh true w.d,.sh true (aB st),.dead,.dead,.dead]
 have v2:ev pg (call pg (n+31)) B eV2=.ok (.cl (aB st)):=aT 2 rfl (aG _);have i0:ev pg (call pg (n+31)) B (.idx eV1 eC0)=.ok (.cl w.g.d):=bM (aT 1 rfl (gX w)) (aI _) (gW w.g.d _ w.g.noL);have I:tst pg (call pg (n+31)) B (.call 25 (eL2 (.idx eV1 eC0) eV2))=.ok (w.g.hold st st):=by simp_all
 refine aK rfl rfl (v:=.cl (stD (behF bs w st))) ?_;unfold behF;cases L:w.g.hold st st with
 | false=>rw[L] at I;exact bT (fZ I) (aS (aI _))|true=>
  rw[L] at I;obtain⟨t4,t5,Z⟩:=uE (n+28) hs U (.sh true w.d) w.ps st .dead .dead o.ps hs;have hw:walk pg (call pg (n+31)) (lF bs (.sh true w.d) st st .dead .dead) (.seq (.idx eV1 eC1))=.ok (w.ps.map (λp=>Vl.cl (iQ p)),[]):=by rw[cG,bM (aT 1 rfl (gX w)) (aI _) (iB w.g.d (.tup (w.ps.map iQ)) _ (by rw[noL];exact jK _)),aA];show R.ok (items _ (w.ps.map iQ),[])=_;rw[qZ]
  rw[if_pos rfl];have G:=(aGh hw).trans Z;refine cs (aZ (fZ I)) (cs (eT (fP v2 (aGi st))) ?_);cases M:putF bs st st w.ps with
  | none=>rw[M] at G;exact zH G|some r=>rw[M] at G;exact cs G (aS (fP (cD 3 rfl) (wJ 3 (gD r))))
abbrev Pp:=List (List (List Int))
noncomputable def aGs(pl:Nat)(st:List Int):D:=.tup [.str "note",.int pl,aB st]
noncomputable def aRc(pl:Nat)(st:List Int)(k:Nat):D:=.tup [.str "own",.int pl,aB st,.int k]
noncomputable def aRd(pl:Nat)(st:List Int)(k:Nat):D:=.tup [.str "promise",.int pl,aB st,.int k]
noncomputable def aRe(pl:Nat)(st:List Int)(k:Nat)(a:List Int):D:=.tup [.str "other",.int pl,aB st,.int k,aB a]
noncomputable def aGt(st:List Int):D:=.tup [.str "begin",aB st]
noncomputable def wQ(bs:List (Str×Int))(pr:List Pr)(pp:Pp)(pl:Nat)(st:List Int)(k:Nat)(nx:Int)(a:List Int):Option D:=
 if a∉pp.getD nx.toNat [] then some (aRc pl st k) else if a≠st/\(st,a)∉pr then some (aRd pl st k) else none
noncomputable def kW(bs:List (Str×Int))(pr:List Pr)(pp:Pp)(pl:Nat)(st:List Int)(ws:List Way)(k:Nat):Option D:=match behF bs (bO ws k) st with|none=>none|some a=>wQ bs pr pp pl st k (bO ws k).nx a
noncomputable def sD(pp:Pp)(pl:Nat)(st:List Int)(k:Nat)(a:List Int):Option D:=if a∉pp.getD pl [] then some (aRe pl st k a) else none
noncomputable def othB(ot:List (List Pr))(pp:Pp)(pl:Nat)(st:List Int)(k:Nat):Option D:=(ot.getD k []).findSome? λp=>if p.1=st then sD pp pl st k p.2 else none
structure Cx0 where
 bs:List (Str×Int)
 h:List (List Way)
 pr:List Pr
 ot:List (List Pr)
 nt:List Cn
 bg:Cn
noncomputable def atB(c:Cx0)(pp:Pp)(pl:Nat)(st:List Int):Option D:=
 if (c.nt.getD pl .yes).hold st st=false then some (aGs pl st) else
 match (Au (c.h.getD pl []).length).findSome? (kW c.bs c.pr pp pl st (c.h.getD pl [])) with
 | some d=>some d|none=>(Au c.ot.length).findSome? (othB c.ot pp pl st)
noncomputable def begB(c:Cx0)(pp:Pp):Option D:=(fN c.bs).findSome? λs=>if c.bg.hold s s=true/\s∉pp.getD 0 [] then some (aGt s) else none
noncomputable def plB(c:Cx0)(pp:Pp)(pl:Nat):Option D:=(pp.getD pl []).findSome? (atB c pp pl)
noncomputable def nK(c:Cx0)(pp:Pp):Option D:=match begB c pp with|some d=>some d|none=>(Au pp.length).findSome? (plB c pp)
noncomputable def fF:Option D->D
 | none=>.non|some d=>d
theorem rL{f:Sg->Vl->O}{I:Sg->Prop}{α:Type}{e:α->Vl}{g:α->Option D}:∀(xs:List α),(∀x∈xs,∀σ,I σ->∃σ',I σ'/\f σ (e x)=(match g x with|some d=>.ret (.cl d)|none=>.next σ'))->∀σ,I σ->∃σ',I σ'/\dO f (xs.map e) σ=(match xs.findSome? g with|some d=>.ret (.cl d)|none=>.next σ')
 | [],_,σ,hI=>⟨σ,hI,rfl⟩
 | x::xs,h,σ,hI=>by
  obtain⟨B,G,L⟩:=h x Am σ hI;rw[mC,dO,L,Bk];cases g x with
  | some d=>exact⟨B,G,rfl⟩|none=>exact rL xs (λy M=>h y (Ag _ M)) B G
theorem cY{P:Pg}{cl:Caller}{σ:Sg}{t:T}{it:It}{b:Ss}{I:Sg->Prop}{α:Type}(xs:List α)(e:α->Vl)(g:α->Option D)(hw:walk P cl σ it=.ok (xs.map e,[]))(M:I σ)
 (h:∀x∈xs,∀σ,I σ->∃B σ',bP σ (e x) t=.ok B/\I σ'/\exs P cl B b=(match g x with|some d=>.ret (.cl d)|none=>.next σ')) :
 ∃σ',I σ'/\ex P cl σ (.for t it b)=(match xs.findSome? g with|some d=>.ret (.cl d)|none=>.next σ'):=by rw[aGh hw];refine rL xs (λx hx σ Z=>?_) σ M;obtain⟨B,σ',G,U,L⟩:=h x hx σ Z;exact⟨σ',U,by rw[G,cF,L]⟩
noncomputable def aGu(x:Option D)(o:O):O:=match x with|some d=>.ret (.cl d)|none=>o
theorem iU{P:Pg}{cl:Caller}{σ σ':Sg}{s:S}{ss:Ss}{x:Option D}{o:O}(h:ex P cl σ s=(match x with|some d=>.ret (.cl d)|none=>.next σ'))(r:aGu x (exs P cl σ' ss)=o):exs P cl σ (.cons s ss)=o:=by rw[cW,h,<-r];cases x <;> rfl
theorem gY{α B G:Type}(f:α->Option B)(g:B->Option G):∀l:List α,(l.filterMap f).findSome? g=l.findSome? λx=>(f x).bind g
 | []=>rfl|x::l=>by
  rw[B5,Bk];cases I:f x with
  | none=>exact gY f g l|some y=>
   rw[Bk];show _=(match g y with|some b=>some b|none=>_)
   cases g y with
   | none=>exact gY f g l|some z=>rfl
theorem uG{α B:Type}(g:α->Option B):∀a b:List α,(a++b).findSome? g=(match a.findSome? g with|some z=>some z|none=>b.findSome? g)
 | [],_=>rfl|x::a,b=>by
  rw[HV,Bk,Bk];cases g x with
  | none=>exact uG g a b|some z=>rfl
theorem rM{α B G:Type}(f:α->List B)(g:B->Option G):∀l:List α,(l.flatMap f).findSome? g=l.findSome? λx=>(f x).findSome? g
 | []=>rfl|x::l=>by rw[BM,uG,Bk,rM f g l];rfl
theorem aBf{st:List Int}{B:Type}(g:List Int->Option B)(k:Nat):∀ps:List Pr,(((ps.filter λp=>p.1==st).map λp=>(k,p.2)).findSome? λx=>g x.2)=ps.findSome? λp=>if p.1=st then g p.2 else none
 | []=>rfl|p::ps=>by
  rw[CI,Bk];by_cases h:p.1=st;rw[if_pos (beq_iff_eq.mpr h),if_pos h,mC,Bk];cases g p.2 with
  | none=>exact aBf g k ps|some z=>rfl
  rw[if_neg (λz=>h (beq_iff_eq.mp z)),if_neg h];exact aBf g k ps
theorem eN:∀js:List Int,bG (js.map D.int)=some js
 | []=>rfl|j::js=>by rw[mC,bG,eN js]
noncomputable def kY(ps:List Pr):D:=aAo (dW (ps.map λp=>(p.1,aB p.2)))
theorem rN:∀ps:List Pr,fT (ps.map bH)=some (ps.map λp=>(p.1,aB p.2))
 | []=>rfl|p::ps=>by rw[mC];show(match bG (p.1.map D.int),fT (ps.map bH) with|some js,some ps=>if noL (aB p.2) then some ((js,aB p.2)::ps) else none|_,_=>none)=_;rw[eN,rN ps];simp_all
theorem rO(js:List Int):∀g:List (List Int×List D),hJ js (g.flatMap λx=>[.tup (x.1.map D.int),.lst x.2])=(g.find? λx=>decide (x.1=js)).map λx=>.lst x.2
 | []=>rfl|x::g=>by rw[BM];show(if bG (x.1.map D.int)=some js then some (D.lst x.2) else hJ js (g.flatMap λx=>[.tup (x.1.map D.int),.lst x.2]))=_;rw[eN,CT];by_cases h:x.1=js;rw[if_pos (by rw[h]),Av h];rfl;rw[if_neg (by simpa using h),Aw h];exact rO js g
abbrev aCw(ps:List Pr):List D:=(dW (ps.map λp=>(p.1,aB p.2))).flatMap λx=>[.tup (x.1.map D.int),.lst x.2]
noncomputable def gI(js:List Int)(ps:List (List Int×D)):List D:=(ps.filter λp=>p.1==js).map (·.2)
theorem zN(js k:List Int)(d:D):∀g:List (List Int×List D),(g.map (fG k d)).find? (λx=>decide (x.1=js))=(g.find? λx=>decide (x.1=js)).map (fG k d)
 | []=>rfl|x::g=>by
  have e:(fG k d x).1=x.1:=by unfold fG;split <;> rfl
  rw[mC,CT,CT,e];cases decide (x.1=js) with
  | true=>rfl|false=>exact zN js k d g
theorem aGv(js k:List Int)(g:List (List Int×List D)):(insM g k).find? (λx=>decide (x.1=js))=(match g.find? λx=>decide (x.1=js) with|some x=>some x|none=>if k=js then some (k,[]) else none):=by unfold insM;grind
theorem aGw(js:List Int)(ps:List (List Int×D)):(dW ps).find? (λx=>decide (x.1=js))=if gI js ps=[] then none else some (js,gI js ps):=by
 have M:∀n,∀B:List (List Int×D),B.length=n->(dW B).find? (λx=>decide (x.1=js))=if gI js B=[] then none else some (js,gI js B):=by
  intro n
  induction n with
  | zero=>intro B h;rw[CC.mp h];rfl|succ n Z=>
   intro B h;have L:B≠[]:=λz=>by rw[z] at h;cases h
   have e:=List.dropLast_concat_getLast L;generalize B.dropLast=rs at e;generalize B.getLast L=p at e;subst e;have U:dW (rs++[p])=aAp (dW rs) p:=by unfold dW;rw[EO];rfl
   have ev:gI js (rs++[p])=gI js rs++if p.1=js then [p.2] else []:=by unfold gI;rw[List.filter_append,B2,CI];grind
   rw[U,ev];unfold aAp;rw[zN,aGv,Z rs (by rw[lA] at h;simpa using h)];by_cases G:p.1=js;rw[if_pos G,if_pos G,if_neg (List.append_ne_nil_of_right_ne_nil _ (List.cons_ne_nil _ _))];by_cases I:gI js rs=[]
   rw[if_pos I,I];show some (fG p.1 p.2 (p.1,[]))=_;unfold fG;rw[if_pos rfl,G];rw[if_neg I];show some (fG p.1 p.2 (js,gI js rs))=_;unfold fG;rw[if_pos G.symm];rw[if_neg G,if_neg G,Bd];by_cases I:gI js rs=[]
   rw[if_pos I];rfl;rw[if_neg I];show some (fG p.1 p.2 (js,gI js rs))=_;unfold fG;rw[if_neg λz=>G z.symm]
 exact M _ ps rfl
noncomputable def jS(ps:List Pr)(st:List Int):List (List Int):=(ps.filter λp=>p.1==st).map (·.2)
theorem aGx(ps:List Pr)(st:List Int):gI st (ps.map λp=>(p.1,aB p.2))=(jS ps st).map aB:=by
 unfold gI jS
 induction ps with
 | nil=>rfl|cons p ps B=>rw[mC,CI,CI];grind
theorem look_dic(ps:List Pr)(st:List Int):(hJ st (aCw ps)=some (.lst ((jS ps st).map aB)))\/(jS ps st=[]/\hJ st (aCw ps)=none):=by
 rw[rO,aGw,aGx];by_cases h:jS ps st=[]
 exact .inr ⟨h,by rw[h];rfl⟩;simp_all
theorem aJq{P:Pg}{cl:Caller}{σ:Sg}{o k:E}{x:Vl}{ps:List Pr}{st:List Int}(L:ev P cl σ o=.ok x)(M:x.d=kY ps)(B:x.al=[])(I:ev P cl σ k=.ok (.cl (aB st))):∃v,ev P cl σ (.dgl o k)=.ok v/\v.d=.lst ((jS ps st).map aB)/\v.al=[]:=by
 have e:ev P cl σ (.dgl o k)=(ev P cl σ o >>= λx=>ev P cl σ k >>= λy=>(match x.d,y.d with
  | .err _ (.non::ds),.tup is=>(match bG is with
   | some js=>(match hJ js ds with
    | some d=>R.ok (x.sub d)|none=>R.ok (Vl.cl (.lst [])))
   | none=>R.bad)
  | _,_=>R.bad)):=rfl
 rw[e,L,aA,I,aA,M];show ∃v,(match bG (st.map D.int) with
  | some js=>(match hJ js (aCw ps) with
   | some d=>R.ok (x.sub d)|none=>R.ok (Vl.cl (.lst [])))
  | none=>R.bad)=.ok v/\_
 rw[eN];show ∃v,(match hJ st (aCw ps) with
  | some d=>R.ok (x.sub d)|none=>R.ok (Vl.cl (.lst [])))=.ok v/\_
 rcases look_dic ps st with h|⟨G,h⟩
 rw[h];exact⟨_,rfl,rfl,B⟩;rw[h];exact⟨_,rfl,by rw[G];rfl,rfl⟩
noncomputable def bV(c:Cx0):D:=.err 0 [.str "Duty",.str "boxes",.lst (aN c.bs),.str "hand",.lst (bY c.h),.str "promised",kY c.pr,.str "others",.lst (c.ot.map kY),.str "notes",.lst (c.nt.map Cn.d)]
abbrev dV(c:Cx0):Vl:=⟨bV c,false,true,[]⟩
section
variable {cl:Caller} {σ:Sg} {c:Cx0}
theorem jN{i:Nat}(h:σ[i]? = some (.sh true (bV c))):cB σ i=.ok (dV c):=by unfold cB;rw[h];rfl
theorem aCx:uX pg "boxes" (dV c)=.ok ⟨.lst (aN c.bs),false,true,[]⟩:=by kernel_rfl
theorem aGy:uX pg "hand" (dV c)=.ok ⟨.lst (bY c.h),false,true,[]⟩:=by kernel_rfl
theorem aLW:uX pg "promised" (dV c)=.ok ⟨kY c.pr,false,true,[]⟩:=by kernel_rfl
theorem aOW:uX pg "others" (dV c)=.ok ⟨.lst (c.ot.map kY),false,true,[]⟩:=by kernel_rfl
theorem aIx:uX pg "notes" (dV c)=.ok ⟨.lst (c.nt.map Cn.d),false,true,[]⟩:=by kernel_rfl
theorem aIy:iF pg "noted" (bV c)=some 34:=by kernel_rfl
theorem aIz:iF pg "keeps" (bV c)=some 35:=by kernel_rfl
theorem aOX:iF pg "own_from" (bV c)=some 36:=by kernel_rfl
theorem aGz:iF pg "others_from" (bV c)=some 37:=by kernel_rfl
theorem rP{i:Nat}{f:Str}{v:Vl}(h:σ[i]? = some (.sh true (bV c)))(g:uX pg f (dV c)=.ok v):ev pg cl σ (.fld i f)=.ok v:=by show(cB σ i >>= λx=>uX pg f x)=_;rw[jN h,aA,g]
theorem aLX{i f:Nat}{m:Str}{a b:E}{x y:Vl}{d:D}{fr:Bool}(h:σ[i]? = some (.sh true (bV c)))(B:ev pg cl σ a=.ok x)(G:ev pg cl σ b=.ok y)(L:iF pg m (bV c)=some f)(I:cl f [bV c,x.d,y.d]=.ok (d,fr,false)):ev pg cl σ (.mcl i m (.cons a (.cons b .nil)))=.ok ⟨d,fr,false,[]⟩:=by
 have e:evs pg cl σ (.cons a (.cons b .nil))=.ok [x,y]:=by rw[aE,B,aA,aE,G,aA,bW];rfl
 show(cB σ i >>= λx=>evs pg cl σ (.cons a (.cons b .nil)) >>= λvs=>(match iF pg m x.d with|some f=>cl f (x.d::vs.map (·.d)) >>= λr=>R.ok (dC (x::vs) r)|none=>.bad))=_;rw[jN h,aA,e,aA];rw[L];show(cl f [bV c,x.d,y.d] >>= λr=>R.ok (dC [dV c,x,y] r))=_;rw[I];rfl
theorem aLY{i f:Nat}{m:Str}{a:E}{x:Vl}{d:D}{fr:Bool}(h:σ[i]? = some (.sh true (bV c)))(B:ev pg cl σ a=.ok x)(I:iF pg m (bV c)=some f)(G:cl f [bV c,x.d]=.ok (d,fr,false)):ev pg cl σ (.mcl i m (.cons a .nil))=.ok ⟨d,fr,false,[]⟩:=by
 have e:evs pg cl σ (.cons a .nil)=.ok [x]:=by rw[aE,B,aA,bW];rfl
 show(cB σ i >>= λx=>evs pg cl σ (.cons a .nil) >>= λvs=>(match iF pg m x.d with|some f=>cl f (x.d::vs.map (·.d)) >>= λr=>R.ok (dC (x::vs) r)|none=>.bad))=_;rw[jN h,aA,e,aA];rw[I];show(cl f [bV c,x.d] >>= λr=>R.ok (dC [dV c,x] r))=_;rw[G];rfl
theorem aGA{i f:Nat}{m:Str}{a b:E}{x y:Vl}{k:Bool}(h:σ[i]? = some (.sh true (bV c)))(B:ev pg cl σ a=.ok x)(G:ev pg cl σ b=.ok y)(L:iF pg m (bV c)=some f)(I:cl f [bV c,x.d,y.d]=.ok (.bl k,false,false)):tst pg cl σ (.mcl i m (.cons a (.cons b .nil)))=.ok k:=by
 have e:evs pg cl σ (.cons a (.cons b .nil))=.ok [x,y]:=by rw[aE,B,aA,aE,G,aA,bW];rfl
 show(cB σ i >>= λx=>evs pg cl σ (.cons a (.cons b .nil)) >>= λvs=>(match iF pg m x.d with|some f=>cl f (x.d::vs.map (·.d)) >>= λr=>gN (dC (x::vs) r)|none=>.bad))=_;rw[jN h,aA,e,aA];simp_all
end
theorem aGB(n:Nat){ps:List Pr}(h:ps.length<lim):call pg (n+1) 10 [.lst (ps.map bH)]=.ok (kY ps,false,false):=by refine aK rfl rfl (v:=.cl (kY ps)) (aS ?_);show(match fT (ps.map bH) with|some ps=>R.iff (decide (ps.length<lim)) (R.ok (Vl.cl (aAo (dW ps))))|none=>.bad)=_;rw[rN];show R.iff (decide ((ps.map λp=>(p.1,aB p.2)).length<lim)) _=_;rw[Av (by rw[lM];exact h)];rfl
theorem aIA{α:Type}(k:Nat)(caps:List Nat)(f:α->D):∀h:List α,fB k caps [] (h.map λx=>Vl.cl (f x))=⟨.lst (h.map f),true,false,[]⟩:=λh=>by
 have B:(h.map λx=>Vl.cl (f x)).map (·.d)=h.map f:=by rw[A7];rfl
 have G:dN (h.map λx=>Vl.cl (f x))=false:=by have:=aBc (h.map f);rwa [A7] at this
 have I:bQ (h.map λx=>Vl.cl (f x))=[]:=by have:=aBd (h.map f);rwa [A7] at this
 unfold fB;rw[B,G,I];split <;> rfl
abbrev dFl:List Str:=["boxes", "hand", "promised", "others", "notes"]
abbrev dMt:List (Str×Nat):=[("__init__",33),("noted",34),("keeps",35),("own_from",36),("others_from",37)]
abbrev Mk0(fs:List D):Sl:=.sh true (.err 0 (.int 0::.str "Duty" :: fs))
theorem aIB:pg.objs.lookup ("Duty" : Str)=some (dFl,dMt):=by kernel_rfl
theorem zO{cl:Caller}{r:Sg}{f:Str}{e:E}{v:Vl}{fs:List D}(G:ev pg cl (.dead::r) e=.ok v)(B:v.al=[])(I:dFl.contains f=true)(L:fs.length<1000)(M:hU f fs=true):ex pg cl (Mk0 fs::r) (.sfl f e)=.next (Mk0 (fs++[.str f,v.d])::r):=by
 show O.from _ (ev pg cl (.dead::r) e) (λv=>(match pg.objs.lookup ("Duty" : Str) with
  | some k=>if k.1.contains f&&v.al.isEmpty&&decide (fs.length<1000)&&hU f fs then .next (Mk0 (fs++[.str f,v.d])::r) else .bad|none=>.bad))=_
 rw[G,aIB];show(if dFl.contains f&&v.al.isEmpty&&decide (fs.length<1000)&&hU f fs then O.next (Mk0 (fs++[.str f,v.d])::r) else .bad)=_;rw[I,B,Av L,M];rfl
abbrev cR(ot:List (List Pr)):List D:=ot.map λps=>.lst (ps.map bH)
structure Lim (c:Cx0):Prop where
 pr:c.pr.length<=1000
 ot:∀ps∈c.ot,ps.length<=1000
 few:c.ot.length<=1000
theorem aGC(n:Nat){c:Cx0}(L:Lim c):call pg (n+2) 33 [.err 0 [.int 0,.str "Duty"],.lst (aN c.bs),.lst (bY c.h),.lst (c.pr.map bH),.lst (cR c.ot),.lst (c.nt.map Cn.d)]=.ok (bV c,false,true):=by
 let r:Sg:=[.sh true (.lst (aN c.bs)),.sh true (.lst (bY c.h)),.sh true (.lst (c.pr.map bH)),.sh true (.lst (cR c.ot)),.sh true (.lst (c.nt.map Cn.d))]
 have l1:=L.pr;have I:ev pg (call pg (n+1)) (.dead::r) (.comp 1 [] (.n 0) (.seq eV4) .nil (.call 10 (eL1 eV0)))=.ok ⟨.lst (c.ot.map kY),true,false,[]⟩:=by
  have Z:walk pg (call pg (n+1)) (.dead::r) (.seq eV4)=.ok (c.ot.map (λps=>(⟨.lst (ps.map bH),false,true,[]⟩:Vl)),[]):=by rw[cG,aM 4 rfl,aA];show R.ok (items _ (cR c.ot),[])=_;unfold items cR;rw[A7];rfl
  rw[mE,Z,aA];have M:∀(B:List (List Pr)),(∀ps∈B,ps.length<=1000)->cN (λx=>do
   let σ1<-bP (Aj 1 Sl.dead++([]:List Nat).map λi=>((freeze (.dead::r) [])[i]?).getD .dead) x (.n 0)
   let k<-tsts pg (call pg (n+1)) σ1 .nil
   if k then do let y<-ev pg (call pg (n+1)) σ1 (.call 10 (eL1 eV0));.ok (some y) else .ok none) (B.map λps=>(⟨.lst (ps.map bH),false,true,[]⟩:Vl))=.ok (B.map λps=>Vl.cl (kY ps)):=by
   intro B
   induction B with
   | nil=>intro _;rfl|cons ps B ih=>intro h;rw[mC,cN];show((ev pg (call pg (n+1)) [.sh true (.lst (ps.map bH))] (.call 10 (eL1 eV0)) >>= λy=>R.ok (some y)) >>= λy=>cN _ _ >>= λG=>(match y with|some y=>R.ok (y::G)|none=>R.ok G))=_;rw[(mI (aM 0 rfl) (aGB n (by have:=h ps Am;unfold lim;omega))),aA,aA,ih λq U=>h q (Ag _ U)];rfl
  rw[M c.ot L.ot,aA,Av (by rw[lM];have:=L.few;unfold lim;omega),yZ,aIA]
 have k2:ex pg (call pg (n+1)) (Mk0 [.str "boxes",.lst (aN c.bs)]::r) (.sfl "hand" eV2)=.next (Mk0 [.str "boxes",.lst (aN c.bs),.str "hand",.lst (bY c.h)]::r):=zO (aM 2 rfl) rfl (by kernel_rfl) (by simp) (by kernel_rfl);exact aK (F:=f33) rfl rfl (cs (zO (aM 1 rfl) rfl (by kernel_rfl) (by decide) rfl) (cs k2 (cs (zO (mI (aM 3 rfl) (aGB n (by unfold lim;omega))) rfl (by kernel_rfl) (by simp) (by kernel_rfl)) (cs (zO I rfl (by kernel_rfl) (by simp) (by kernel_rfl)) (cs (zO (aM 5 rfl) rfl (by kernel_rfl) (by simp) (by kernel_rfl)) (zH rfl))))))
theorem aLZ(n:Nat){c:Cx0}(L:Lim c):call pg (n+3) (pg.fns.length+0) [.lst (aN c.bs),.lst (bY c.h),.lst (c.pr.map bH),.lst (cR c.ot),.lst (c.nt.map Cn.d)]=.ok (bV c,false,true):=by rw[aBI rfl (by kernel_rfl),aGC n L];rfl
structure Ok (t:List Int) (c:Cx0):Prop where
 ht:t∈cX
 bs:c.bs=bsO t
 h:wK (bsO t).length c.h
 few:c.h.length<=4
 lim:Lim c
 nl:c.nt.length=c.h.length+1
 nt:∀q∈c.nt,q.wf (bsO t).length true/\q.sz<=31
 bg:c.bg.wf (bsO t).length true/\c.bg.sz<=31
structure POk (t:List Int) (c:Cx0) (pp:Pp):Prop where
 len:pp.length=c.h.length+1
 rise:∀l∈pp,l.Pairwise (lexI · ·=true)
 sub:∀l∈pp,∀x∈l,x∈ssO t
abbrev cE(pp:Pp):List D:=pp.map λl=>.lst (l.map aB)
theorem aCy(a:List Int):∀l:List (List Int),lP (aB a) (l.map aB)=some (decide (a∈l))
 | []=>rfl|x::l=>by rw[mC,lP,gG,aCy a l];grind
theorem aBg:∀l:List (List Int),noDics (l.map aB)=true
 | []=>rfl|x::l=>by
  have B:fW (aB x)=true:=by
   show noDics (x.map D.int)=true
   induction x with
   | nil=>rfl|cons i r G=>rw[mC,noDics,G];rfl
  rw[mC,noDics,B,aBg l];rfl
theorem aCz(a:List Int)(l:List (List Int)):inD (aB a) (.lst (l.map aB))=some (decide (a∈l)):=by show(if noDics (l.map aB)=true then lP (aB a) (l.map aB) else none)=_;rw[if_pos (aBg l),aCy]
theorem nL(a:List Int)(l:List (List Int)):cT .NotIn (aB a) (.lst (l.map aB))=some (decide (a∉l)):=by show(inD (aB a) (.lst (l.map aB))).map (!·)=_;rw[aCz];grind
theorem aIC{ps:List Pr}{st a:List Int}:a∈jS ps st↔(st,a)∈ps:=by unfold jS;rw[AE];simp_all
section
variable {t:List Int} {c:Cx0}
theorem aDO(n:Nat)(o:Ok t c){pl:Nat}(B:pl<c.nt.length){st:List Int}(hs:st∈ssO t):call pg (n+32) 34 [bV c,.int pl,aB st]=.ok (.bl ((c.nt.getD pl .yes).hold st st),false,false):=by
 have e:c.nt[pl]? = some (c.nt.getD pl .yes):=by rw[Ak,Ac B];rfl
 obtain⟨w,z⟩:=o.nt _ (mG e);exact aK (F:=f34) rfl rfl (aS (cU (nW (rP rfl aIx) rfl (bD rfl) e (Cn.noL _)) (aT 2 rfl (aG _)) (aI _) (qY n (iT o.ht hs).1 w z)))
theorem aDP(n:Nat){st a:List Int}:call pg (n+1) 35 [bV c,aB st,aB a]=.ok (.bl (decide (¬ (a≠st/\(st,a)∉c.pr))),false,false):=by
 let σ:Sg:=[.sh true (bV c),.sh true (aB st),.sh true (aB a)]
 obtain⟨v,B,G,I⟩:=aJq (σ:=σ) (rP (i:=0) rfl aLW) rfl rfl (aT 1 rfl (aG _));have r:=aGa (tZ (o:=.Eq) (aT 1 rfl (aG st)) (aT 2 rfl (aG a)) (gG st a)) (tZ (o:=.In) (aT 2 rfl (aG a)) B (by rw[G];exact aCz a _));refine(aK rfl rfl (aS r)).trans ?_;show R.ok (D.bl ((st==a)||decide (a∈jS c.pr st)),false,false)=_
 congr 3
 rw[El];simp only[ aIC];grind
abbrev Tr:=Nat×Int×List Int
noncomputable def trD(x:Tr):D:=.tup [.int x.1,.int x.2.1,aB x.2.2]
theorem aMa(x:Tr):noL (trD x)=true:=by simp[trD,noL,noLs]
noncomputable def jT(bs:List (Str×Int))(ws:List Way)(st:List Int)(i:Nat):List Tr:=(Au i).filterMap λk=>(behF bs (bO ws k) st).map λa=>(k,(bO ws k).nx,a)
theorem aGD(bs:List (Str×Int))(ws:List Way)(st:List Int)(i:Nat):(jT bs ws st i).length<=i:=by have:=List.length_filterMap_le (λk=>(behF bs (bO ws k) st).map λa=>(k,(bO ws k).nx,a)) (Au i);rwa [AK] at this
theorem aDQ(bs:List (Str×Int))(ws:List Way)(st:List Int)(i:Nat):jT bs ws st (i+1)=jT bs ws st i++(match behF bs (bO ws i) st with|some a=>[(i,(bO ws i).nx,a)]|none=>[]):=by
 unfold jT;rw[FD,FI]
 congr 1
 cases h:behF bs (bO ws i) st with
 | none=>rw[B5,h];rfl|some a=>rw[B5,h];rfl
theorem aID(n:Nat){h:List (List Way)}{p:Nat}(L:p<=h.length):∃fr pa,call pg (n+1) 8 [.lst (bY h),.int p]=.ok (sA (h.getD p []),fr,pa):=by
 let σ:Sg:=[.sh true (.lst (bY h)),.sh true (.int p)]
 have I:=aM (P:=pg) (cl:=call pg n) (σ:=σ) 0 rfl;have B:=dX I rfl;rw[lM] at B;by_cases G:p<h.length;have e:h[p]? = some (h.getD p []):=by rw[Ak,Ac G];rfl
 exact⟨false,true,aK (F:=f8) rfl rfl (v:=⟨sA (h.getD p []),false,true,[]⟩) (aS (aCo (aJn (aI (.int 0)) (bD rfl) B (by omega) (Av (by omega))) (bM I (bD rfl) (rA (f:=sA) rfl e))))⟩;have e:h.getD p []=[]:=by rw[Ak,AR (by omega)];rfl
 rw[e];exact⟨true,false,aK (F:=f8) rfl rfl (aS (aCo (aJn (aI (.int 0)) (bD rfl) B (by omega) (Aw (by omega))) (nI fQ)))⟩
theorem aIE{P:Pg}{cl:Caller}{σ:Sg}{f:Nat}{a b:E}{x y:Vl}{r:Rt}(B:ev P cl σ a=.ok x)(G:ev P cl σ b=.ok y)(L:x.al=[])(M:y.al=[])(I:cl f [x.d,y.d]=.ok r):∃v,ev P cl σ (.call f (.cons a (.cons b .nil)))=.ok v/\v.d=r.1/\v.al=[]:=by
 have e:evs P cl σ (.cons a (.cons b .nil))=.ok [x,y]:=by rw[aE,B,aA,aE,G,aA,bW];rfl
 refine⟨dC [x,y] r,by rw[fM,e,aA,show [x,y].map (·.d)=[x.d,y.d] from rfl,I];rfl,?_,?_⟩;unfold dC;split <;> rfl;unfold dC;split;show bQ [x,y]=[]
 unfold bQ;rw[BM,BM,L,M];rfl;rfl
abbrev oF(c:Cx0)(pl:Nat)(st:List Int)(l:List Tr)(s4 s5 s6:Sl):Sg:=[.sh true (bV c),.sh true (.int pl),.sh true (aB st),.own false (l.map trD),s4,s5,s6]
abbrev oB:Ss:=match hdS (drp 1 f36.body) with|.for _ _ b=>b|_=>.nil
theorem aBh(o:Ok t c){pl:Nat}{w:Way}(B:w∈c.h.getD pl []):qX (bsO t).length w/\0<=w.nx/\w.nx<(c.h.length:Int)+1:=by
 by_cases G:pl<c.h.length;have e:c.h[pl]? = some (c.h.getD pl []):=by rw[Ak,Ac G];rfl
 exact(o.h.ok _ (mG e)).ok w B;rw[Ak,AR (by omega)] at B;cases B
theorem aCA(o:Ok t c)(pl:Nat):(c.h.getD pl []).length<=4:=by
 by_cases B:pl<c.h.length;have e:c.h[pl]? = some (c.h.getD pl []):=by rw[Ak,Ac B];rfl
 exact(o.h.ok _ (mG e)).few;rw[Ak,AR (by omega)];exact A9 _
theorem aIF(n:Nat)(o:Ok t c){pl:Nat}(hp:pl<=c.h.length){st:List Int}(hs:st∈ssO t):call pg (n+33) 36 [bV c,.int pl,aB st]=.ok (.lst ((jT c.bs (c.h.getD pl []) st (c.h.getD pl []).length).map trD),true,false):=by
 have l4:=aCA o pl;have B:=λw M=>aBh o (pl:=pl) (w:=w) M;generalize hr:c.h.getD pl []=ws at l4 B;have b5:(bsO t).length<=5:=by have:=(rH o.ht).2;omega
 obtain⟨fr,pa,rr⟩:=aID (n+31) (h:=c.h) hp;rw[hr] at rr;obtain⟨v,e1,e2,e3⟩:=aIE (P:=pg) (cl:=call pg (n+32)) (σ:=oF c pl st [] .dead .dead .dead) (f:=8) (a:=.fld 0 "hand") (b:=.v 1) (rP (c:=c) (i:=0) rfl aGy) (bD (i:=1) rfl) rfl rfl rr;have M:walk pg (call pg (n+32)) (oF c pl st [] .dead .dead .dead) (.enum (.call 8 (eL2 (.fld 0 "hand") eV1)))=.ok ((Au ws.length).map (λi:Nat=>Vl.cl (.tup [iD i,(bO ws i).d])),[]):=by rw[wL e1 e2,e3,show(0:Int)=((0:Nat):Int) from rfl,zK ws 0];simp only[DQ];rw[dP (g:=λi:Nat=>.tup [iD i,(bO ws i).d]) λi=>oV (aCt _) (gX _)]
 obtain⟨σ',ef,Z,s5,G,rfl⟩:=fE (P:=pg) (cl:=call pg (n+32)) (σ:=oF c pl st [] .dead .dead .dead) (t:=.t [4,5]) (b:=oB) (λi σ=>∃Z s5 G:Sl,σ=oF c pl st (jT c.bs ws st i) Z s5 G) M ⟨_,_,_,rfl⟩ (λi hi σ ⟨Z,s5,G,U⟩=>by
  have L:i<ws.length:=by simpa using hi
  subst U;have hm:=oW L;have bb:=aBb n (bs:=bsO t) (st:=st) (iT o.ht hs).1 b5 (B _ hm.1).1;have k1:ex pg (call pg (n+32)) (oF c pl st (jT c.bs ws st i) (.sh false (iD i)) (.sh false (bO ws i).d) G) (hdS oB)=.next (oF c pl st (jT c.bs ws st i) (.sh false (iD i)) (.sh false (bO ws i).d) (.sh false (stD (behF c.bs (bO ws i) st)))):=by rw[o.bs];exact bL (cU ((rP (c:=c) (i:=0) rfl aCx).trans (by rw[o.bs])) (aH 5 rfl) (aT 2 rfl (aG _)) bb)
  have I:tst pg (call pg (n+32)) (oF c pl st (jT c.bs ws st i) (.sh false (iD i)) (.sh false (bO ws i).d) (.sh false (stD (behF c.bs (bO ws i) st)))) (.cmp .IsNot eV6 eCn)=.ok (behF c.bs (bO ws i) st).isSome:=bZ (aH 6 rfl) (aI _) aJo;refine⟨_,oF c pl st (jT c.bs ws st (i+1)) (.sh false (iD i)) (.sh false (bO ws i).d) (.sh false (stD (behF c.bs (bO ws i) st))),by rw[Bs,BQ];exact zF _ (aCt _) (gX _),?_,_,_,_,rfl⟩;have hl:=aGD c.bs ws st i;refine cs k1 (bU ?_);rw[aDQ];cases hb:behF c.bs (bO ws i) st with
  | none=>rw[hb] at I;rw[Bd];exact aZ I|some a=>
   rw[hb] at I;exact zG I (bU (rB (v:=.cl (trD (i,(bO ws i).nx,a))) (eI (aH 4 rfl) (bM (aH 5 rfl) (aI _) (wC _ _ _ [] rfl)) (aH 6 rfl)) rfl (by rw[lM];unfold lim;omega) rfl (by rw[B2];rfl))))
 rw[lM,AK] at ef;exact aK (F:=f36) rfl rfl (v:=⟨.lst ((jT c.bs ws st ws.length).map trD),true,false,[]⟩) (cs (σ':=oF c pl st [] .dead .dead .dead) rfl (cs ef (zH rfl)))
end
section
variable {P:Pg} {cl:Caller} {σ:Sg}
theorem aOY{i:Nat}{e:E}{ds ds' r:List D}(h:ev P cl σ e=.ok ⟨.lst ds',true,false,[]⟩)(n:noLs ds'=true)(hi:σ[i]? = some (.own false ds))(G:r.length<=lim)(B:r=ds++ds'):ex P cl σ (.ext i e)=.next (σ.set i (.own false r)):=by
 subst B;have s:aBB (⟨.lst ds',true,false,[]⟩:Vl)=some (.cl .non,ds'):=by show some (Vl.mk .non false (false&&!noLs ds') (if noLs ds'=true then [] else []),ds')=_;rw[n];rfl
 rw[aLI,h,cF,s];show put σ i (.cl .non) (λds=>some (ds++ds'))=_;unfold put nQ;rw[qU,fO,hi];simp_all
end
abbrev Ot:=Nat×List Int
noncomputable def otD(x:Ot):D:=.tup [.int x.1,aB x.2]
theorem aBi(x:Ot):noL (otD x)=true:=oV rfl (aG _)
noncomputable def mO(ot:List (List Pr))(st:List Int)(i:Nat):List Ot:=(Au i).flatMap λk=>(jS (ot.getD k []) st).map λa=>(k,a)
theorem uH(ot:List (List Pr))(st:List Int)(i:Nat):mO ot st (i+1)=mO ot st i++(jS (ot.getD i []) st).map λa=>(i,a):=by unfold mO;rw[FD,List.flatMap_append,BM,List.flatMap_nil,Bd]
theorem aCB(ps:List Pr)(st:List Int):(jS ps st).length<=ps.length:=by unfold jS;rw[lM];exact FJ _ _
theorem zP{ot:List (List Pr)}(h:∀ps∈ot,ps.length<=1000)(k:Nat):(ot.getD k []).length<=1000:=by
 rw[Ak];cases B:ot[k]? with
 | none=>exact A9 _|some ps=>exact h ps (mG B)
theorem zQ{ot:List (List Pr)}(h:∀ps∈ot,ps.length<=1000)(st:List Int):∀i,(mO ot st i).length<=i*1000
 | 0=>A9 _|i+1=>by have B:=zQ h st i;have G:=aCB (ot.getD i []) st;have I:=zP h i;rw[uH,lA,lM];omega
theorem rQ{α:Type}(f:α->D)(z:α):∀(xs:List α) (a:Nat),fA (a:Int) (xs.map f)=(Au xs.length).map λi=>.tup [iD (a+i),f (xs.getD i z)]
 | [],_=>rfl|x::xs,a=>by rw[lC,DN,mC,mC,A7];show .tup [.int (a:Int),f x]::fA ((a:Int)+1) (xs.map f)=_;rw[show((a:Int)+1)=((a+1:Nat):Int) by omega,rQ f z xs (a+1)];refine congrArg _ (B9 λi _=>?_);show D.tup [iD (a+1+i),_]=D.tup [iD (a+(i+1)),_];rw[show a+1+i=a+(i+1) by omega];rfl
section
variable {t:List Int} {c:Cx0}
abbrev xF(c:Cx0)(st:List Int)(l:List Ot)(s3 s4:Sl):Sg:=[.sh true (bV c),.sh true (aB st),.own false (l.map otD),s3,s4]
abbrev xB:Ss:=match hdS (drp 1 f37.body) with|.for _ _ b=>b|_=>.nil
theorem aBj(n:Nat)(L:Lim c){st:List Int}:call pg (n+1) 37 [bV c,aB st]=.ok (.lst ((mO c.ot st c.ot.length).map otD),true,false):=by
 have hw:walk pg (call pg n) (xF c st [] .dead .dead) (.enum (.fld 0 "others"))=.ok ((Au c.ot.length).map (λi:Nat=>(⟨.tup [iD i,kY (c.ot.getD i [])],false,true,[]⟩:Vl)),[]):=by rw[wL (rP rfl aOW) rfl,show(0:Int)=((0:Nat):Int) from rfl,rQ kY [] c.ot 0];simp only[DQ];unfold items;rw[A7];rfl
 obtain⟨σ',U,I,M,rfl⟩:=fE (t:=.t [3,4]) (b:=xB) (λi σ=>∃I M:Sl,σ=xF c st (mO c.ot st i) I M) hw ⟨_,_,rfl⟩ (λi hi σ ⟨I,M,G⟩=>by
  have q0:i<c.ot.length:=by simpa using hi
  subst G;have l1:=zQ L.ot st (i+1);have l2:=L.few;have l3:=aCB (c.ot.getD i []) st;have l4:=zP L.ot i;refine⟨xF c st (mO c.ot st i) (.sh false (iD i)) (.sh true (kY (c.ot.getD i []))),xF c st (mO c.ot st (i+1)) (.sh false (iD i)) (.sh true (kY (c.ot.getD i []))),by rw[Bs,BQ];rfl,?_,_,_,rfl⟩;obtain⟨v,Z,e2,e3⟩:=aJq (σ:=xF c st (mO c.ot st i) (.sh false (iD i)) (.sh true (kY (c.ot.getD i [])))) (o:=.v 4) rfl rfl rfl (aT 1 rfl (aG _));have B:walk pg (call pg n) (xF c st (mO c.ot st i) (.sh false (iD i)) (.sh true (kY (c.ot.getD i [])))) (.seq (.dgl eV4 eV1))=.ok ((jS (c.ot.getD i []) st).map (λa=>Vl.cl (aB a)),[]):=by rw[cG,Z,aA,e2];show R.ok (items v ((jS (c.ot.getD i []) st).map aB),v.al)=_;rw[mM,e3]
  exact bU (aOY (vY (λa=>Vl.cl (aB a)) (λa=>otD (i,a)) (λa=>aBi _) B (by unfold lim;omega) (λa ha=>⟨[.sh false (aB a),.sh false (iD i)],dF _,dL (aH 1 rfl) (aH 0 rfl)⟩)) (cC (λa=>aBi _) _) rfl (by rw[lM];unfold lim;omega) (by rw[uH,B2,A7];rfl)))
 rw[lM,AK] at U;exact aK rfl rfl (v:=⟨.lst ((mO c.ot st c.ot.length).map otD),true,false,[]⟩) (cs rfl (cs U (zH rfl)))
end
section
variable {t:List Int} {c:Cx0} {pp:Pp}
abbrev bF(c:Cx0)(pp:Pp)(pl:Nat)(st:List Int)(s4 s5 s6 s7:Sl):Sg:=[.sh true (bV c),.sh true (.lst (cE pp)),.sh true (.int pl),.sh true (aB st),s4,s5,s6,s7]
abbrev bB1:Ss:=match hdS (drp 1 f15.body) with|.for _ _ b=>b|_=>.nil
abbrev bB2:Ss:=match hdS (drp 2 f15.body) with|.for _ _ b=>b|_=>.nil
theorem nX(pp:Pp){k:Nat}(h:k<pp.length):pp[k]? = some (pp.getD k []):=by rw[Ak,Ac h];rfl
theorem kZ{cl:Caller}{σ:Sg}{a b:E}{v:Vl}{k:Nat}(h:ev pg cl σ a=.ok v)(I:v.d=.lst (cE pp))(B:ev pg cl σ b=.ok (.cl (.int (k:Int))))(G:k<pp.length):ev pg cl σ (.idx a b)=.ok ⟨.lst ((pp.getD k []).map aB),false,v.pa,v.al⟩:=
 bM h B (rA I (nX pp G))
theorem aMb{ws:List Way}{pl:Nat}{st:List Int}:(jT c.bs ws st ws.length).findSome? (λx=>wQ c.bs c.pr pp pl st x.1 x.2.1 x.2.2)=(Au ws.length).findSome? (kW c.bs c.pr pp pl st ws):=by
 unfold jT;rw[gY]
 congr 1
 funext k
 unfold kW;cases behF c.bs (bO ws k) st <;> rfl
theorem aMc{ot:List (List Pr)}{pl:Nat}{st:List Int}(i:Nat):(mO ot st i).findSome? (λx=>sD pp pl st x.1 x.2)=(Au i).findSome? (othB ot pp pl st):=by
 unfold mO;rw[rM]
 congr 1
 funext k
 have h:=aBf (st:=st) (λa=>sD pp pl st k a) k (ot.getD k []);rw[GB] at h;unfold jS;rw[A7,GB];exact h
theorem aOZ(o:Ok t c)(q:POk t c pp){pl:Nat}{st:List Int}{x:Tr}(B:x∈jT c.bs (c.h.getD pl []) st (c.h.getD pl []).length):x.2.1=(x.2.1.toNat:Int)/\x.2.1.toNat<pp.length:=by
 unfold jT at B;rw[B0] at B;obtain⟨k,I,e⟩:=B;have w:=aBh o (oW (AV.mp I)).1;cases G:behF c.bs (bO (c.h.getD pl []) k) st with
 | none=>rw[G] at e;cases e|some a=>rw[G] at e;have:=q.len;rw[<-(Ao e)];dsimp only;omega
theorem aGE(n:Nat){pl:Nat}{st:List Int}{x:Tr}(U:x.2.1=(x.2.1.toNat:Int))(Z:x.2.1.toNat<pp.length)(M:Sl) :
 exs pg (call pg (n+1)) (bF c pp pl st (.sh false (.int x.1)) (.sh false (.int x.2.1)) (.sh false (aB x.2.2)) M) bB1=(match wQ c.bs c.pr pp pl st x.1 x.2.1 x.2.2 with|some d=>.ret (.cl d)|none=>.next (bF c pp pl st (.sh false (.int x.1)) (.sh false (.int x.2.1)) (.sh false (aB x.2.2)) M)):=by
 obtain⟨k,nx,a⟩:=x;dsimp only at U Z ⊢
 let σ:=bF c pp pl st (.sh false (.int k)) (.sh false (.int nx)) (.sh false (aB a)) M
 have I:tst pg (call pg (n+1)) σ (.cmp .NotIn eV6 (.idx eV1 eV5))=.ok (decide (a∉pp.getD nx.toNat [])):=bZ (aH 6 rfl) (kZ (aM 1 rfl) rfl (by rw[<-U];exact aH 5 rfl) Z) (nL a _);have L:tst pg (call pg (n+1)) σ (.nt (.mcl 0 "keeps" (eL2 eV3 eV6)))=.ok (!decide (¬ (a≠st/\(st,a)∉c.pr))):=fZ (aGA rfl (aT 3 rfl (aG _)) (aH 6 rfl) aIz (aDP n));unfold wQ;by_cases B:a∉pp.getD nx.toNat [];rw[if_pos B];rw[Av B] at I;exact bT I (aS ((λw=>iR (aV (aI _) (aV (bD rfl) (aV (aT 3 rfl (aG _)) (aV (aH 4 rfl) fQ))))) _));rw[if_neg B];rw[Aw B] at I;refine cs (aZ I) ?_;by_cases G:a≠st/\(st,a)∉c.pr;rw[if_pos G];rw[Aw (λz=>z G)] at L;exact bT L (aS ((λw=>iR (aV (aI _) (aV (bD rfl) (aV (aT 3 rfl (aG _)) (aV (aH 4 rfl) fQ))))) _));rw[if_neg G];rw[Av G] at L;exact bU (aZ L)
theorem aGF(n:Nat){pl:Nat}(M:pl<pp.length){st:List Int}{x:Ot}(I L:Sl) :
 exs pg (call pg n) (bF c pp pl st I L (.sh false (aB x.2)) (.sh false (.int x.1))) bB2=(match sD pp pl st x.1 x.2 with|some d=>.ret (.cl d)|none=>.next (bF c pp pl st I L (.sh false (aB x.2)) (.sh false (.int x.1)))):=by
 obtain⟨k,a⟩:=x;dsimp only
 let σ:=bF c pp pl st I L (.sh false (aB a)) (.sh false (.int k))
 have G:tst pg (call pg n) σ (.cmp .NotIn eV6 (.idx eV1 eV2))=.ok (decide (a∉pp.getD pl [])):=bZ (aH 6 rfl) (kZ (aM 1 rfl) rfl (bD rfl) M) (nL a _);unfold sD;by_cases B:a∉pp.getD pl [];rw[if_pos B];rw[Av B] at G;exact bT G (aS (iR (aV (aI _) (aV (bD rfl) (aV (aT 3 rfl (aG _)) (aV (aH 7 rfl) (aV (aH 6 rfl) fQ)))))));rw[if_neg B];rw[Aw B] at G;exact bU (aZ G)
theorem aDR(n:Nat)(o:Ok t c)(q:POk t c pp){pl:Nat}(hp:pl<=c.h.length){st:List Int}(hs:st∈ssO t):call pg (n+34) 15 [bV c,.lst (cE pp),.int pl,aB st]=.ok (fF (atB c pp pl st),false,false):=by
 have q0:pl<pp.length:=by have:=q.len;omega
 refine aK rfl rfl (v:=.cl (fF (atB c pp pl st))) ?_
 let σ:=bF c pp pl st .dead .dead .dead .dead
 show exs pg (call pg (n+33)) σ f15.body=_;have t1:tst pg (call pg (n+33)) σ (.nt (.mcl 0 "noted" (eL2 eV2 eV3)))=.ok (!((c.nt.getD pl .yes).hold st st)):=fZ (aGA rfl (bD rfl) (aT 3 rfl (aG _)) aIy (aDO (n+1) o (by rw[o.nl];omega) hs));cases Z:(c.nt.getD pl .yes).hold st st with
 | false=>
  rw[Z] at t1;have e:atB c pp pl st=some (aGs pl st):=by unfold atB;rw[if_pos Z]
  rw[e];exact bT t1 (aS (iR (aV (aI _) (aV (bD rfl) (aV (aT 3 rfl (aG _)) fQ)))))
 | true=>
  rw[Z] at t1;refine cs (aZ t1) ?_;have hw:walk pg (call pg (n+33)) σ (.seq (.mcl 0 "own_from" (eL2 eV2 eV3)))=.ok ((jT c.bs (c.h.getD pl []) st (c.h.getD pl []).length).map (λx=>Vl.cl (trD x)),[]):=by rw[cG,aLX rfl (bD rfl) (aT 3 rfl (aG _)) aOX (aIF n o hp hs),aA];show R.ok (items _ _,[])=_;rw[dP aMa]
  obtain⟨q2,⟨B,G,M,L,rfl⟩,e1⟩:=cY (t:=.t [4,5,6]) (I:=λσ=>∃B G M L:Sl,σ=bF c pp pl st B G M L) _ (λx=>Vl.cl (trD x)) (λx=>wQ c.bs c.pr pp pl st x.1 x.2.1 x.2.2) hw ⟨_,_,_,_,rfl⟩ (λx hx τ ⟨B,G,M,L,U⟩=>by
   subst U;have hh:=aOZ o q hx;exact⟨_,_,aOT _ rfl rfl (aG _),⟨_,_,_,_,rfl⟩,aGE (n+32) hh.1 hh.2 L⟩)
  refine iU e1 ?_;rw[aMb];have e:atB c pp pl st=(match (Au (c.h.getD pl []).length).findSome? (kW c.bs c.pr pp pl st (c.h.getD pl [])) with
   | some d=>some d|none=>(Au c.ot.length).findSome? (othB c.ot pp pl st)):=if_neg (by rw[Z];exact HY)
  rw[e];cases(Au (c.h.getD pl []).length).findSome? (kW c.bs c.pr pp pl st (c.h.getD pl [])) with
  | some d=>rfl|none=>
   have q1:walk pg (call pg (n+33)) (bF c pp pl st B G M L) (.seq (.mcl 0 "others_from" (eL1 eV3)))=.ok ((mO c.ot st c.ot.length).map (λx=>Vl.cl (otD x)),[]):=by rw[cG,aLY rfl (aT 3 rfl (aG _)) aGz (aBj (n+32) o.lim),aA];show R.ok (items _ _,[])=_;rw[dP aBi]
   obtain⟨q3,⟨z4,z5,z6,z7,rfl⟩,e2⟩:=cY (t:=.t [7,6]) (I:=λσ=>∃B G M L:Sl,σ=bF c pp pl st B G M L) _ (λx=>Vl.cl (otD x)) (λx=>sD pp pl st x.1 x.2) q1 ⟨_,_,_,_,rfl⟩ (λx hx τ ⟨B,G,M,L,U⟩=>by
    subst U;exact⟨_,_,zF _ rfl (aG _),⟨_,_,_,_,rfl⟩,aGF (n+33) q0 B G⟩)
   show exs pg (call pg (n+33)) (bF c pp pl st B G M L) (drp 2 f15.body)=_;refine iU e2 ?_;rw[aMc];show aGu _ (exs pg (call pg (n+33)) (bF c pp pl st z4 z5 z6 z7) (drp 3 f15.body))=O.ret (.cl (fF ((Au c.ot.length).findSome? (othB c.ot pp pl st))));cases(Au c.ot.length).findSome? (othB c.ot pp pl st) with
   | some d=>rfl|none=>exact aS (aI _)
end
theorem zR{α:Type}[DecidableEq α]:∀(l U:List α),l.Nodup->(∀x∈l,x∈U)->l.length<=U.length
 | [],_,_,_=>A9 _|a::l,U,hn,h=>by obtain⟨G,I⟩:=Az.mp hn;have:=zR l (U.erase a) I λx B=>(List.mem_erase_of_ne (λ(z:x=a)=>G (by rw[<-z];exact B))).mpr (h x (Ag _ B));rw[List.length_erase_of_mem (h a (by simp))] at this;have:=List.length_pos_of_mem (h a (by simp));rw[lC];omega
theorem aCC{l:List (List Int)}(h:l.Pairwise (lexI · ·=true)):l.Nodup:=h.imp λ{a b} B z=>by rw[z,L2.lexI_ir] at B;cases B
theorem aCD{t:List Int}(ht:t∈cX){l:List (List Int)}(h:l.Pairwise (lexI · ·=true))(hs:∀x∈l,x∈ssO t):l.length<=16:=AW (zR _ _ (aCC h) hs) (rJ ht).2
theorem zS{l:List (List Int)}(h:l.Pairwise (lexI · ·=true)):ssT l=l:=(aAJ h λ_=>Iff.rfl).symm
theorem aJr{t:List Int}(ht:t∈cX){l:List (List Int)}(hs:∀x∈l,x∈ssO t):neK l=true:=by unfold neK;rw[AB];intro x B;have G:=(iT ht (hs x B)).1;have I:=(rH ht).1;grind
theorem rR:∀l:List (List Int),eU (l.map aB)=some l
 | []=>rfl|x::l=>by rw[mC,eU,rR l];have:aBA (aB x)=some x:=eN x;rw[this]
theorem aMd{cl:Caller}{σ:Sg}{a:E}{v:Vl}{l:List (List Int)}(h:ev pg cl σ a=.ok v)(I:v.d=.lst (l.map aB))(B:neK l=true)(G:(ssT l).length<=18):ev pg cl σ (.sset a)=.ok ⟨.lst ((ssT l).map aB),true,false,[]⟩:=by
 show(ev pg cl σ a >>= λx=>(match x.d with
  | .lst ds=>(match eU ds with|some ks=>R.iff (neK ks&&decide ((ssT ks).length<=18)) (R.ok (⟨.lst ((ssT ks).map uW),true,false,[]⟩:Vl))|none=>.bad)
  | _=>.bad))=_
 rw[h,aA,I];show(match eU (l.map aB) with|some ks=>R.iff (neK ks&&decide ((ssT ks).length<=18)) (R.ok (⟨.lst ((ssT ks).map uW),true,false,[]⟩:Vl))|none=>.bad)=_;rw[rR];show R.iff (neK l&&decide ((ssT l).length<=18)) _=_;rw[B,Av G];rfl
theorem aRf{P:Pg}{cl:Caller}{σ:Sg}{b:Bi}{a:E}{x:Vl}{k:Bool}(h:ev P cl σ a=.ok x)(e:biD b [x]=.ok (.cl (.bl k))):tst P cl σ (.bi b (.cons a .nil))=.ok k:=by show(evs P cl σ (.cons a .nil) >>= λvs=>biD b vs >>= λx=>gN x)=_;rw[aE,h,aA,bW];simp_all
theorem zT{α:Type}(l:List α){fr pa:Bool}{al:List Nat}:biD .all [⟨.lst (l.map λ_=>D.bl true),fr,pa,al⟩]=.ok (.cl (.bl true)):=by
 have:cJ (l.map λ_=>D.bl true)=some (l.map λ_=>true):=by
  induction l with
  | nil=>rfl|cons x r B=>rw[mC];unfold cJ;rw[B];rfl
 show(match cJ (l.map λ_=>D.bl true) with|some bs=>R.ok (Vl.cl (.bl (bs.all id)))|none=>.bad)=_;rw[this];grind
theorem aMe{α:Type}(g:α->D)(h:∀a,eqF 119 (g a) (g a)=some true)(as:List α):eqD (.lst (as.map g)) (.lst (as.map g))=some true:=by show(if (as.map g).length=(as.map g).length then eqL (eqF 119) (as.map g) (as.map g) else some false)=_;rw[if_pos rfl];exact(pE 119 _ _).trans (uC g 119 h as)
theorem aPa(l:List (List Int)):eqD (.lst (l.map aB)) (.lst (l.map aB))=some true:=aMe aB (λa=>by rw[mL 117,beq_self_eq_true]) l
section
variable {t:List Int} {c:Cx0} {pp:Pp}
theorem wR(n:Nat)(ht:t∈cX){st:List Int}(h:st∈ssO t):call pg (n+3) 6 [.lst (aN (bsO t)),aB st]=.ok (.bl true,false,false):=by
 obtain⟨U,G⟩:=rD h;have l4:=(rH ht).2;generalize bsO t=bs at U G l4 ⊢;have M:=aM (P:=pg) (cl:=call pg (n+2)) (σ:=[.sh true (.lst (aN bs)),.sh true (aB st)]) 0 rfl;have B:=aT (P:=pg) (cl:=call pg (n+2)) (σ:=[.sh true (.lst (aN bs)),.sh true (aB st)]) 1 rfl (aG st);have I:=dX M rfl;have L:=fP B (oU _);rw[show(aN bs).length=bs.length from lM _] at I;rw[lM] at L;have Z:=aZ (a:=.cons (.ret (.c (.bl false))) .nil) (iA (fZ (mJ (cs:=[.tTuple]) B rfl)) (bZ (o:=.NotEq) L I (by
  simp_all)))
 have hz:kE (aN bs) (st.map D.int)=(bs.zip st).map λx=>.tup [box x.1,.int x.2]:=by
  clear U G Z B L M I l4 h;have:∀(bs:List (Str×Int)) (st:List Int),kE (bs.map box) (st.map D.int)=(bs.zip st).map λx=>.tup [box x.1,.int x.2]:=λbs=>by
   induction bs with
   | nil=>intro st;cases st <;> rfl|cons b bs ih=>
    intro st;cases st with
    | nil=>rfl|cons i st=>show .tup [box b,.int i]::kE (bs.map box) (st.map D.int)=_;rw[ih st];rfl
  exact this bs st
 have hc:ev pg (call pg (n+2)) [.sh true (.lst (aN bs)),.sh true (aB st)] (.comp 2 [] (.t [0,1]) (.zip eV0 eV1) .nil (.call 4 (eL3 eV1 eC0 (.idx eV0 eC1))))=.ok ⟨.lst ((bs.zip st).map λ_=>.bl true),true,false,[]⟩:=by refine vY (al:=[]) (λx=>Vl.cl (.tup [box x.1,.int x.2])) (λ_=>.bl true) (λ_=>rfl) ?_ (by rw[List.length_zip];unfold lim;omega) λx hx=>?_;rw[aFW,M,aA,B,aA];show R.ok (items _ (kE (aN bs) (st.map D.int)),[])=_;rw[hz,dP (λ_=>rfl)];obtain⟨i,hi⟩:=BX hx;rw[C0] at hi;have:=G i x.2 x.1 hi.2 hi.1;exact⟨[.sh false (box x.1),.sh false (.int x.2)],zF _ rfl rfl,cU (aH 1 rfl) (aI _) (bM (aH 0 rfl) (aI (.int 1)) (iB _ _ _ rfl)) (aDI rfl rfl n x.2 0 x.1.2 this.1 this.2)⟩
 exact aK (F:=f6) rfl rfl (cs Z (aS (fP hc (zT _))))
theorem aBk(n:Nat)(ht:t∈cX){l:List (List Int)}(B:l.Pairwise (lexI · ·=true))(hs:∀x∈l,x∈ssO t):call pg (n+4) 14 [.lst (aN (bsO t)),.lst (l.map aB)]=.ok (.non,false,false):=by
 have M:=aCD ht B hs
 let σ:Sg:=[.sh true (.lst (aN (bsO t))),.sh true (.lst (l.map aB))]
 have G:=aM (P:=pg) (cl:=call pg (n+3)) (σ:=σ) 1 rfl;have I:ev pg (call pg (n+3)) σ (.comp 1 [0] (.n 0) (.seq eV1) .nil (.call 6 (eL2 eV1 eV0)))=.ok ⟨.lst (l.map λ_=>.bl true),true,false,[]⟩:=
  vY (λx=>Vl.cl (aB x)) (λ_=>.bl true) (λ_=>rfl) (jL rfl) (by unfold lim;omega) λx L=>⟨[.sh false (aB x),.sh true (.lst (aN (bsO t)))],dF _,aW (aM 1 rfl) (aH 0 rfl) (wR n ht (hs x L))⟩
 exact uA rfl rfl (cs (aZ (iA (fZ (mJ G rfl)) (fZ (aRf I (zT _))))) (bU (aZ (bZ G (aMd G rfl (aJr ht hs) (by rw[zS B];omega)) (by rw[zS B];exact aGk (aPa l))))))
abbrev cpF(c:Cx0)(pp:Pp)(s2:Sl):Sg:=[.sh true (bV c),.sh true (.lst (cE pp)),s2]
theorem nY{cl:Caller}{σ:Sg}{i:Nat}(o:Ok t c)(h:σ[i]? = some (.sh true (bV c))):ev pg cl σ (.fld i "boxes")=.ok ⟨.lst (aN (bsO t)),false,true,[]⟩:=(rP h aCx).trans (by rw[o.bs])
theorem aDS{v:Vl}(G:v.al=[])(B:v.pa=true)(pp:Pp):items v (cE pp)=pp.map λl=>(⟨.lst (l.map aB),false,true,[]⟩:Vl):=by unfold items cE;rw[A7];refine B9 λl _=>?_;show(⟨_,false,v.pa,v.al⟩:Vl)=_;rw[G,B]
theorem aDT(n:Nat)(o:Ok t c)(q:POk t c pp):call pg (n+5) 13 [bV c,.lst (cE pp)]=.ok (.non,false,false):=by
 let σ:=cpF c pp .dead
 have I:=aM (P:=pg) (cl:=call pg (n+4)) (σ:=σ) 1 rfl;have L:=dX I rfl;rw[lM,q.len] at L;have M:call pg (n+4) 9 [.lst (bY c.h)]=.ok (.int ((c.h.length+1:Nat):Int),false,false):=by have e:=dG (dX (aM (P:=pg) (cl:=call pg (n+3)) (σ:=[.sh true (.lst (bY c.h))]) 0 rfl) rfl) (aI (.int 1));rw[lM] at e;exact aK (F:=f9) rfl rfl (v:=.cl (.int ((c.h.length+1:Nat):Int))) (aS e)
 have k1:ex pg (call pg (n+4)) σ (hdS f13.body)=.next σ:=aZ (iA (fZ (mJ I rfl)) (bZ L (mI (rP rfl aGy) M) (by
  simp_all)))
 have Z:walk pg (call pg (n+4)) σ (.seq eV1)=.ok (pp.map (λl=>(⟨.lst (l.map aB),false,true,[]⟩:Vl)),[]):=by rw[cG,I,aA];show R.ok (items _ (cE pp),[])=_;rw[aDS rfl rfl]
 obtain⟨σ',U,s2,rfl⟩:=fE (t:=.n 2) (b:=.cons (.ex (.call 14 (eL2 (.fld 0 "boxes") eV2))) .nil) (λ_ σ=>∃s2,σ=cpF c pp s2) Z ⟨_,rfl⟩ (λi hi τ ⟨s2,G⟩=>by
  subst G;have B:i<pp.length:=by simpa using hi
  have e:(pp.map λl=>(⟨.lst (l.map aB),false,true,[]⟩:Vl))[i]=⟨.lst ((pp.getD i []).map aB),false,true,[]⟩:=by rw[Bs];have:=nX pp B;rw[Ac B] at this;rw[Ao this]
  exact⟨cpF c pp (.sh true (.lst ((pp.getD i []).map aB))),_,by rw[e];rfl,bU (aOU (aW (nY o rfl) (aM 2 rfl) (aBk n o.ht (q.rise _ (mG (nX pp B))) (q.sub _ (mG (nX pp B)))))),⟨_,rfl⟩⟩)
 exact uA rfl rfl (cs k1 (bU U))
theorem aBl(n:Nat)(h:t∈cX):call pg (n+1) 5 [.lst (aN (bsO t))]=.ok (.lst ((ssO t).map aB),true,false):=by apply rG h <;> kernel_rfl
theorem sG(n:Nat)(ht:t∈cX){q:Cn}(w:q.wf (bsO t).length true)(z:q.sz<=31):call pg (n+32) 7 [.lst (aN (bsO t)),q.d]=.ok (.lst (((ssO t).filter λst=>q.hold st st).map aB),true,false):=by have G:=(rJ ht).2;refine aK rfl rfl (v:=⟨.lst (((ssO t).filter λst=>q.hold st st).map aB),true,false,[]⟩) (aS (vZ (ts:=ssO t) (al:=[]) (λst=>Vl.cl (aB st)) aB (λst=>q.hold st st) aG ?_ (by unfold lim;omega) λst B=>⟨[.sh false (aB st),.sh true q.d],rfl,aIs (aT 1 rfl q.noL) (aH 0 rfl) (aI _) (qY n (rD B).1 w z),aH 0 rfl⟩));rw[cG,mI (aM 0 rfl) (aBl (n+30) ht),aA];show R.ok (items _ ((ssO t).map aB),[])=_;rw[dP aG]
end
theorem nM{α B:Type}(p:α->Bool)(g:α->Option B):∀l:List α,(l.filter p).findSome? g=l.findSome? λx=>if p x=true then g x else none
 | []=>rfl|x::l=>by
  rw[CI,Bk];cases h:p x with
  | true=>rw[if_pos rfl,if_pos rfl,Bk,nM p g l]|false=>rw[if_neg bN,if_neg bN];exact nM p g l
noncomputable def IsB(d:D):Prop:=∃(w:Str) (l:List D),d=.tup (.str w::l)/\∀x∈l,(∃i:Int,x=.int i)\/∃a:List Int,x=aB a
theorem aIG(w:Str)(pl:Nat)(st:List Int)(l:List D)(h:∀x∈l,(∃i:Int,x=.int i)\/∃a:List Int,x=aB a):IsB (.tup (.str w::.int pl::aB st::l)):=
 ⟨w,_,rfl,λx B=>by
  grind⟩
theorem aMf{bs:List (Str×Int)}{pr:List Pr}{pp:Pp}{pl:Nat}{st:List Int}{k:Nat}{nx:Int}{a:List Int}{d:D}(h:wQ bs pr pp pl st k nx a=some d):IsB d:=by unfold wQ at h;split at h;rw[<-Ao h];exact aIG _ pl st _ (λx B=>.inl ⟨k,A8.mp B⟩);split at h;rw[<-Ao h];exact aIG _ pl st _ (λx B=>.inl ⟨k,A8.mp B⟩);cases h
theorem aGG{c:Cx0}{pp:Pp}{pl:Nat}{st:List Int}{d:D}(h:atB c pp pl st=some d):IsB d:=by
 unfold atB at h;split at h;rw[<-Ao h];exact aIG _ pl st [] λx I=>by cases I
 split at h;rename_i d' hd;obtain⟨k,_,B⟩:=Bg hd;rw[<-Ao h];unfold kW at B;split at B;cases B;exact aMf B;obtain⟨k,_,B⟩:=Bg h;unfold othB at B;obtain⟨p,_,G⟩:=Bg B;split at G;unfold sD at G;split at G;rw[<-Ao G];refine aIG _ pl st _ λx I=>?_;rcases Ax.mp I with rfl|I;exact .inl ⟨_,rfl⟩;exact .inr ⟨_,A8.mp I⟩;cases G;cases G
theorem aMg{c:Cx0}{pp:Pp}{d:D}(h:nK c pp=some d):IsB d:=by unfold nK at h;split at h;rename_i d' hd;unfold begB at hd;obtain⟨s,_,hs⟩:=Bg hd;split at hs;rw[<-Ao h,<-Ao hs];exact⟨"begin",_,rfl,λx G=>.inr ⟨_,A8.mp G⟩⟩;cases hs;obtain⟨k,_,B⟩:=Bg h;unfold plB at B;obtain⟨s,_,hs⟩:=Bg B;exact aGG hs
theorem aCE{x:Option D}(h:∀d,x=some d->IsB d):cT .IsNot (fF x) .non=some x.isSome:=by
 cases x with
 | none=>rfl|some d=>obtain⟨w,l,e,_⟩:=h d rfl;subst e;rfl
theorem aCF{P:Pg}{cl:Caller}{σ:Sg}{i:Nat}{d:D}{ss:Ss}(h:σ[i]? = some (.sh false d)):exs P cl σ (.cons (.retv i) ss)=.ret (.cl d):=by
 have g:cB σ i=.ok (.cl d):=by unfold cB;rw[h];rfl
 simp_all
section
variable {t:List Int} {c:Cx0} {pp:Pp}
abbrev kF(c:Cx0)(pp:Pp)(s3 s4 s5 s6 s7:Sl):Sg:=[.sh true (bV c),.sh true c.bg.d,.sh true (.lst (cE pp)),s3,s4,s5,s6,s7]
abbrev kB:Ss:=match hdS (drp 2 f12.body) with|.for _ _ b=>b|_=>.nil
abbrev kC:Ss:=match hdS kB with|.for _ _ b=>b|_=>.nil
theorem aIH(n:Nat)(o:Ok t c)(q:POk t c pp){pl:Nat}(hp:pl<pp.length)(L s6 s7:Sl):∃z6 z7:Sl,
 exs pg (call pg (n+34)) (kF c pp L (.sh false (.int pl)) (.sh true (.lst ((pp.getD pl []).map aB))) s6 s7) kB=(match plB c pp pl with|some d=>.ret (.cl d)|none=>.next (kF c pp L (.sh false (.int pl)) (.sh true (.lst ((pp.getD pl []).map aB))) z6 z7)):=by
 obtain⟨σ',⟨z6,z7,rfl⟩,e⟩:=cY (t:=.n 6) (b:=kC) (I:=λσ=>∃s6 s7:Sl,σ=kF c pp L (.sh false (.int pl)) (.sh true (.lst ((pp.getD pl []).map aB))) s6 s7) (pp.getD pl []) (λst=>Vl.cl (aB st)) (atB c pp pl) (jL (i:=5) rfl) ⟨_,_,rfl⟩ (λst Z τ ⟨y6,y7,q0⟩=>by
  subst q0
  let B:=kF c pp L (.sh false (.int pl)) (.sh true (.lst ((pp.getD pl []).map aB))) (.sh false (aB st)) y7
  let G:=kF c pp L (.sh false (.int pl)) (.sh true (.lst ((pp.getD pl []).map aB))) (.sh false (aB st)) (.sh false (fF (atB c pp pl st)))
  have br:=aDR n o q (pl:=pl) (by have:=q.len;omega) (q.sub _ (mG (nX pp hp)) st Z);have U:evs pg (call pg (n+34)) B (eL4 eV0 eV2 eV4 eV6)=.ok [dV c,⟨.lst (cE pp),false,true,[]⟩,.cl (.int pl),.cl (aB st)]:=by rw[aE,oI,jN rfl,aA,aE,aM 2 rfl,aA,aE,aH 4 rfl,aA,aE,aH 6 rfl,aA,bW];rfl
  have ec:ev pg (call pg (n+34)) B (.call 15 (eL4 eV0 eV2 eV4 eV6))=.ok (.cl (fF (atB c pp pl st))):=by rw[fM,U,aA];simp_all
  have k1:ex pg (call pg (n+34)) B (hdS kC)=.next G:=bL ec;have M:tst pg (call pg (n+34)) G (.cmp .IsNot eV7 eCn)=.ok (atB c pp pl st).isSome:=bZ (aH 7 rfl) (aI _) (aCE λd hd=>aGG hd);refine⟨B,G,dF _,⟨_,_,rfl⟩,cs k1 ?_⟩;cases hx:atB c pp pl st with
  | none=>rw[hx] at M;exact bU (aZ M)|some d=>
   rw[hx] at M;exact bT M (aCF (by show some (Sl.sh false (fF (atB c pp pl st)))=_;rw[hx];rfl)))
 refine⟨z6,z7,iU e ?_⟩;show aGu (plB c pp pl) _=_;cases plB c pp pl <;> rfl
theorem aGH(n:Nat)(o:Ok t c)(q:POk t c pp):call pg (n+35) 12 [bV c,c.bg.d,.lst (cE pp)]=.ok (fF (nK c pp),false,false):=by
 let σ:=kF c pp .dead .dead .dead .dead .dead
 refine aK rfl rfl (v:=.cl (fF (nK c pp))) ?_;have p0:0<pp.length:=by have:=q.len;omega
 have e0:evs pg (call pg (n+34)) σ (eL2 eV0 eV2)=.ok [dV c,⟨.lst (cE pp),false,true,[]⟩]:=by rw[aE,oI,jN rfl,aA,aE,aM 2 rfl,aA,bW];rfl
 have ec:ev pg (call pg (n+34)) σ (.call 13 (eL2 eV0 eV2))=.ok (.cl .non):=by rw[fM,e0,aA];show(call pg (n+34) 13 [bV c,.lst (cE pp)] >>= λr=>R.ok (dC _ r))=_;rw[aDT (n+29) o q];rfl
 refine cs (aOU ec) ?_;have hw:walk pg (call pg (n+34)) σ (.seq (.call 7 (eL2 (.fld 0 "boxes") eV1)))=.ok ((((ssO t).filter λst=>c.bg.hold st st)).map (λst=>Vl.cl (aB st)),[]):=by rw[cG,rC (nY o rfl) (aT 1 rfl c.bg.noL) (sG (n+2) o.ht o.bg.1 o.bg.2),aA];show R.ok (items _ _,[])=_;rw[mM]
 obtain⟨q0,⟨L,rfl⟩,e1⟩:=cY (t:=.n 3) (b:=match hdS (drp 1 f12.body) with|.for _ _ b=>b|_=>.nil) (I:=λσ=>∃L:Sl,σ=kF c pp L .dead .dead .dead .dead) _ (λst=>Vl.cl (aB st)) (λs=>if s∉pp.getD 0 [] then some (aGt s) else none) hw ⟨_,rfl⟩ (λs hs τ ⟨L,G⟩=>by
  subst G;refine⟨kF c pp (.sh false (aB s)) .dead .dead .dead .dead,kF c pp (.sh false (aB s)) .dead .dead .dead .dead,dF _,⟨_,rfl⟩,?_⟩;have U:tst pg (call pg (n+34)) (kF c pp (.sh false (aB s)) .dead .dead .dead .dead) (.cmp .NotIn eV3 (.idx eV2 eC0))=.ok (decide (s∉pp.getD 0 [])):=bZ (aH 3 rfl) (kZ (aM 2 rfl) rfl (aI _) p0) (nL s _);by_cases B:s∉pp.getD 0 [];rw[if_pos B];rw[Av B] at U;exact bT U (aS (dL (aI _) (aH 3 rfl)));rw[if_neg B];rw[Aw B] at U;exact bU (aZ U))
 refine iU e1 ?_;have eb:((ssO t).filter λst=>c.bg.hold st st).findSome? (λs=>if s∉pp.getD 0 [] then some (aGt s) else none)=begB c pp:=by
  rw[nM];unfold begB;rw[o.bs]
  congr 1
  funext s
  by_cases B:c.bg.hold s s=true;by_cases M:s∉pp.getD 0 [];rw[if_pos B,if_pos M,if_pos ⟨B,M⟩];rw[if_pos B,if_neg M,if_neg λz=>M z.2];rw[if_neg B,if_neg λz=>B z.1]
 rw[eb];unfold nK;cases begB c pp with
 | some d=>rfl|none=>
  have Z:walk pg (call pg (n+34)) (kF c pp L .dead .dead .dead .dead) (.enum eV2)=.ok ((Au pp.length).map (λi:Nat=>(⟨.tup [iD i,.lst ((pp.getD i []).map aB)],false,true,[]⟩:Vl)),[]):=by rw[wL (aM 2 rfl) rfl,show(0:Int)=((0:Nat):Int) from rfl,rQ (λl=>.lst (l.map aB)) [] pp 0];simp only[DQ];unfold items;rw[A7];rfl
  obtain⟨q1,⟨z4,z5,z6,z7,rfl⟩,e2⟩:=cY (t:=.t [4,5]) (I:=λσ=>∃s4 s5 s6 s7:Sl,σ=kF c pp L s4 s5 s6 s7) (Au pp.length) _ (plB c pp) Z ⟨_,_,_,_,rfl⟩ (λi hi τ ⟨y4,y5,y6,y7,G⟩=>by
   subst G;obtain⟨z6,z7,e⟩:=aIH n o q (AV.mp hi) L y6 y7;exact⟨kF c pp L (.sh false (.int i)) (.sh true (.lst ((pp.getD i []).map aB))) y6 y7,_,rfl,⟨_,_,_,_,rfl⟩,e⟩)
  refine iU e2 ?_;cases(Au pp.length).findSome? (plB c pp) with
  | some d=>rfl|none=>exact aS (aI _)
theorem aBm(n:Nat)(o:Ok t c)(q:POk t c pp):call pg (n+36) 11 [.lst (aN c.bs),.lst (bY c.h),.lst (c.pr.map bH),.lst (cR c.ot),.lst (c.nt.map Cn.d),c.bg.d,.lst (cE pp)]=.ok (fF (nK c pp),false,false):=by
 let σ:Sg:=[.sh true (.lst (aN c.bs)),.sh true (.lst (bY c.h)),.sh true (.lst (c.pr.map bH)),.sh true (.lst (cR c.ot)),.sh true (.lst (c.nt.map Cn.d)),.sh true c.bg.d,.sh true (.lst (cE pp))]
 have G:evs pg (call pg (n+35)) σ (eL5 eV0 eV1 eV2 eV3 eV4)=.ok [⟨.lst (aN c.bs),false,true,[]⟩,⟨.lst (bY c.h),false,true,[]⟩,⟨.lst (c.pr.map bH),false,true,[]⟩,⟨.lst (cR c.ot),false,true,[]⟩,⟨.lst (c.nt.map Cn.d),false,true,[]⟩]:=by rw[aE,aM 0 rfl,aA,aE,aM 1 rfl,aA,aE,aM 2 rfl,aA,aE,aM 3 rfl,aA,aE,aM 4 rfl,aA,bW];rfl
 have I:ev pg (call pg (n+35)) σ (.mk 0 (eL5 eV0 eV1 eV2 eV3 eV4))=.ok (dV c):=by show(evs pg (call pg (n+35)) σ (eL5 eV0 eV1 eV2 eV3 eV4) >>= λvs=>call pg (n+35) (pg.fns.length+0) (vs.map (·.d)) >>= λr=>R.ok (dC vs r))=_;rw[G,aA];show(call pg (n+35) (pg.fns.length+0) [.lst (aN c.bs),.lst (bY c.h),.lst (c.pr.map bH),.lst (cR c.ot),.lst (c.nt.map Cn.d)] >>= λr=>R.ok (dC _ r))=_;rw[aLZ (n+32) o.lim];rfl
 have B:evs pg (call pg (n+35)) σ (eL3 (.mk 0 (eL5 eV0 eV1 eV2 eV3 eV4)) eV5 eV6)=.ok [dV c,.cl c.bg.d,⟨.lst (cE pp),false,true,[]⟩]:=by rw[aE,I,aA,aE,aT 5 rfl c.bg.noL,aA,aE,aM 6 rfl,aA,bW];rfl
 refine aK rfl rfl (v:=.cl (fF (nK c pp))) (aS ?_);rw[fM];show(evs pg (call pg (n+35)) σ _ >>= _)=_;rw[B,aA];show(call pg (n+35) 12 [bV c,c.bg.d,.lst (cE pp)] >>= λr=>R.ok (dC _ r))=_;rw[aGH n o q];rfl
end
section
variable {P:Pg} {cl:Caller} {σ:Sg}
theorem wU{f:Nat}{a b:E}{x y:Vl}{k:Bool}(B:ev P cl σ a=.ok x)(G:ev P cl σ b=.ok y)(I:cl f [x.d,y.d]=.ok (.bl k,false,false)):tst P cl σ (.call f (.cons a (.cons b .nil)))=.ok k:=by rw[qS,aE,B,aA,aE,G,aA,bW];show(cl f [x.d,y.d] >>= λr=>gN (dC [x,y] r))=_;rw[I];rfl
theorem uI{a b:E}{x y:Bool}(B:tst P cl σ a=.ok x)(G:x=true->tst P cl σ b=.ok y)(I:x=false->y=false):tst P cl σ (.an a b)=.ok y:=by rw[aFT,B,aA];grind
theorem aGI(p q:Pr):eqD (bH p) (bH q)=some (p==q):=by show eqF (119+1) (.tup [aB p.1,aB p.2]) (.tup [aB q.1,aB q.2])=_;rw[aCm];unfold dU;rw[mL 117];unfold dU;rw[mL 117];show some ((p.1==q.1)&&((p.2==q.2)&&true))=some ((p.1==q.1)&&(p.2==q.2));rw[Dy]
theorem aCG(p:Pr):∀l:List Pr,lP (bH p) (l.map bH)=some (decide (p∈l))
 | []=>rfl|x::l=>by rw[mC,lP,aGI,aCG p l];grind
theorem aGJ:∀l:List Pr,noDics (l.map bH)=true
 | []=>rfl|x::l=>by have B:noDics ([x.1,x.2].map aB)=true:=aBg _;have G:fW (bH x)=true:=B;rw[mC,noDics,G,aGJ l];rfl
theorem aMh(p:Pr)(l:List Pr):cT .NotIn (bH p) (.lst (l.map bH))=some (decide (p∉l)):=by show(if noDics (l.map bH)=true then lP (bH p) (l.map bH) else none).map (!·)=_;rw[if_pos (aGJ l),aCG];grind
end
section
variable {t:List Int} {c:Cx0} {pp:Pp}
abbrev aF(c:Cx0)(pp:Pp)(pl:Nat)(st:List Int)(s8 s9 s10 s11:Sl):Sg:=[.sh true (.lst (aN c.bs)),.sh true (.lst (bY c.h)),.sh true (.lst (c.pr.map bH)),.sh true (.lst (cR c.ot)),.sh true (.lst (c.nt.map Cn.d)),.sh true (.lst (cE pp)),.sh true (.int pl),.sh true (aB st),s8,s9,s10,s11]
abbrev aB1:Ss:=match hdS (drp 3 f27.body) with|.for _ _ b=>b|_=>.nil
abbrev aB2:Ss:=match hdS (drp 4 f27.body) with|.for _ _ b=>b|_=>.nil
abbrev aB3:Ss:=match hdS aB2 with|.for _ _ b=>b|_=>.nil
theorem aDU(n:Nat)(o:Ok t c)(q:POk t c pp){pl:Nat}{st:List Int}(hs:st∈ssO t){L:Sl}{v8:Vl}(h8:L.val 8=.ok v8)(hd:v8.d=sA (c.h.getD pl [])){k:Nat}(hk:k<(c.h.getD pl []).length)(M G:Sl) :
 ∃q1,exs pg (call pg (n+32)) (aF c pp pl st L (.sh false (.int k)) M G) aB1=(match kW c.bs c.pr pp pl st (c.h.getD pl []) k with|some d=>.ret (.cl d)|none=>.next (aF c pp pl st L (.sh false (.int k)) q1 G)):=by
 generalize q0:c.h.getD pl []=ws at hd hk;have hw:=aBh o (by rw[q0];exact(oW hk).1);have ew:∀σ:Sg,σ[(8:Nat)]? = some L->σ[(9:Nat)]? = some (.sh false (.int k))->ev pg (call pg (n+32)) σ (.idx eV8 eV9)=.ok (.cl (bO ws k).d):=λσ h1 h2=>nW (by rw[oI];unfold cB;rw[h1];exact h8) hd (aH 9 h2) (oW hk).2 (gX _)
 let q2:=aF c pp pl st L (.sh false (.int k)) M G
 let B:=aF c pp pl st L (.sh false (.int k)) (.sh false (stD (behF c.bs (bO ws k) st))) G
 have lb:=zM n (iT o.ht hs).1 (by have:=(rH o.ht).2;omega) hw.1;rw[<-o.bs] at lb;have tn:tst pg (call pg (n+32)) B (.cmp .IsNot iC eCn)=.ok (behF c.bs (bO ws k) st).isSome:=bZ (aH 10 rfl) (aI _) aJo;refine⟨.sh false (stD (behF c.bs (bO ws k) st)),cs (bL (cU (aM 0 rfl) (ew q2 rfl rfl) (aT 7 rfl (aG _)) lb)) ?_⟩;show exs pg (call pg (n+32)) B (drp 1 aB1)=(match kW c.bs c.pr pp pl st ws k with|some d=>O.ret (.cl d)|none=>.next B)
 have I:ev pg (call pg (n+32)) B iC=.ok (.cl (stD (behF c.bs (bO ws k) st))):=aH 10 rfl;cases U:behF c.bs (bO ws k) st with
 | none=>
  have e:kW c.bs c.pr pp pl st ws k=none:=by unfold kW;rw[U]
  rw[e];rw[U] at tn;exact cs (aZ (uI tn (λz=>by cases z) λ_=>rfl)) (bU (aZ (uI tn (λz=>by cases z) λ_=>rfl)))
 | some a=>
  have e:kW c.bs c.pr pp pl st ws k=wQ c.bs c.pr pp pl st k (bO ws k).nx a:=by unfold kW;rw[U]
  rw[e];rw[U] at tn I;have nx:(bO ws k).nx=((bO ws k).nx.toNat:Int)/\(bO ws k).nx.toNat<pp.length:=by have:=q.len;omega
  have v2:ev pg (call pg (n+32)) B (.idx (.idx eV8 eV9) eC2)=.ok (.cl (.int ((bO ws k).nx.toNat:Int))):=by rw[<-nx.1];exact bM (ew B rfl rfl) (aI _) (wC _ _ _ [] rfl)
  have t1:=bZ I (kZ (aM 5 rfl) rfl v2 nx.2) (nL a _);have t2:tst pg (call pg (n+32)) B (.an (.cmp .NotEq iC eV7) (.cmp .NotIn (.tup (eL2 eV7 iC)) eV2))=.ok (decide (a≠st)&&decide ((st,a)∉c.pr)):=nH (bZ I (aT 7 rfl (aG _)) (by
   show(eqD (aB a) (aB st)).map (!·)=_;rw[gG];grind)) (bZ (dL (aT 7 rfl (aG _)) I) (aM 2 rfl) (aMh (st,a) _))
  unfold wQ;by_cases Z:a∉pp.getD (bO ws k).nx.toNat [];rw[if_pos Z];rw[Av Z] at t1;exact bT (nH tn t1) (aS ((λw=>iR (aV (aI _) (aV (bD rfl) (aV (aT 7 rfl (aG _)) (aV (aH 9 rfl) fQ))))) _));rw[if_neg Z];rw[Aw Z] at t1;refine cs (aZ (nH tn t1)) ?_;by_cases p2:a≠st/\(st,a)∉c.pr;rw[if_pos p2];rw[aQZ p2] at t2;exact bT (nH tn t2) (aS ((λw=>iR (aV (aI _) (aV (bD rfl) (aV (aT 7 rfl (aG _)) (aV (aH 9 rfl) fQ))))) _));rw[if_neg p2];rw[aQY p2] at t2;exact bU (aZ (nH tn t2))
theorem aDV(n:Nat){pl:Nat}(M:pl<pp.length){st:List Int}{k:Nat}{p:Pr}(L:Sl) :
 exs pg (call pg n) (aF c pp pl st L (.sh false (.int k)) (.sh false (aB p.2)) (.sh false (aB p.1))) aB3=(match (if p.1=st then sD pp pl st k p.2 else none) with|some d=>.ret (.cl d)|none=>.next (aF c pp pl st L (.sh false (.int k)) (.sh false (aB p.2)) (.sh false (aB p.1)))):=by
 let σ:=aF c pp pl st L (.sh false (.int k)) (.sh false (aB p.2)) (.sh false (aB p.1))
 have B:tst pg (call pg n) σ (.an (.cmp .Eq aAZ eV7) (.cmp .NotIn iC (.idx eV5 eV6)))=.ok ((p.1==st)&&decide (p.2∉pp.getD pl [])):=nH (bZ (aH 11 rfl) (aT 7 rfl (aG _)) (gG p.1 st)) (bZ (aH 10 rfl) (kZ (aM 5 rfl) rfl (bD rfl) M) (nL p.2 _));by_cases G:p.1=st;rw[if_pos G];unfold sD;by_cases I:p.2∉pp.getD pl [];rw[if_pos I];rw[Av I,beq_iff_eq.mpr G] at B;exact bT B (aS (iR (aV (aI _) (aV (bD rfl) (aV (aT 7 rfl (aG _)) (aV (aH 9 rfl) (aV (aH 10 rfl) fQ)))))));rw[if_neg I];rw[Aw I,IQ] at B;exact bU (aZ B);rw[if_neg G];rw[beq_eq_false_iff_ne.mpr G,FL] at B;exact bU (aZ B)
theorem aII{k:Nat}(h:k<c.ot.length):c.ot[k]? = some (c.ot.getD k []):=by rw[Ak,Ac h];rfl
theorem aGK{v:Vl}(ss:List Pr):items v (ss.map bH)=ss.map λs=>Vl.cl (bH s):=dP rK ss
theorem aIJ(n:Nat){pl:Nat}(hp:pl<pp.length){st:List Int}{k:Nat}(hk:k<c.ot.length)(U B G:Sl):∃L M,
 exs pg (call pg n) (aF c pp pl st U (.sh false (.int k)) B G) aB2=(match othB c.ot pp pl st k with|some d=>.ret (.cl d)|none=>.next (aF c pp pl st U (.sh false (.int k)) L M)):=by
 have hw:walk pg (call pg n) (aF c pp pl st U (.sh false (.int k)) B G) (.seq (.idx eV3 eV9))=.ok ((c.ot.getD k []).map (λp=>Vl.cl (bH p)),[]):=by rw[cG,bM (aM 3 rfl) (aH 9 rfl) (rA rfl (aII hk)),aA];show R.ok (items _ _,[])=_;rw[aGK]
 obtain⟨σ',⟨L,M,rfl⟩,e⟩:=cY (t:=.t [11,10]) (I:=λσ=>∃B G:Sl,σ=aF c pp pl st U (.sh false (.int k)) B G) (c.ot.getD k []) (λp=>Vl.cl (bH p)) (λp=>if p.1=st then sD pp pl st k p.2 else none) hw ⟨_,_,rfl⟩ (λp _ τ ⟨q0,q1,Z⟩=>by
  subst Z;exact⟨_,_,zF _ (aG _) (aG _),⟨_,_,rfl⟩,aDV n hp U⟩)
 refine⟨L,M,iU e ?_⟩;show aGu (othB c.ot pp pl st k) _=_;cases othB c.ot pp pl st k <;> rfl
theorem eO{P:Pg}{cl:Caller}{σ:Sg}{a:E}{n:Nat}(h:ev P cl σ a=.ok (.cl (.int n)))(B:n<=1000000):walk P cl σ (.rng eC0 a)=.ok ((Au n).map (λ(k:Nat)=>Vl.cl (.int (k:Int))),[]):=eH h rfl B
theorem aIK(n:Nat)(o:Ok t c)(q:POk t c pp){pl:Nat}(hp:pl<=c.h.length){st:List Int}(hs:st∈ssO t):call pg (n+33) 27 [.lst (aN c.bs),.lst (bY c.h),.lst (c.pr.map bH),.lst (cR c.ot),.lst (c.nt.map Cn.d),.lst (cE pp),.int pl,aB st]=.ok (fF (atB c pp pl st),false,false):=by
 have q3:pl<pp.length:=by have:=q.len;omega
 refine aK rfl rfl (v:=.cl (fF (atB c pp pl st))) ?_
 let σ:=aF c pp pl st .dead .dead .dead .dead
 have en:c.nt[pl]? = some (c.nt.getD pl .yes):=by rw[Ak,Ac (by rw[o.nl];omega)];rfl
 obtain⟨w,z⟩:=o.nt _ (mG en);have t1:tst pg (call pg (n+32)) σ (.nt (.call 25 (eL2 (.idx eV4 eV6) eV7)))=.ok (!((c.nt.getD pl .yes).hold st st)):=fZ (wU (nW (aM 4 rfl) rfl (bD rfl) en (Cn.noL _)) (aT 7 rfl (aG _)) (nJ (n+1) (by rw[(iT o.ht hs).1];exact w) z));cases hn:(c.nt.getD pl .yes).hold st st with
 | false=>
  rw[hn] at t1;have e:atB c pp pl st=some (aGs pl st):=by unfold atB;rw[if_pos hn]
  rw[e];exact bT t1 (aS (iR (aV (aI _) (aV (bD rfl) (aV (aT 7 rfl (aG _)) fQ)))))
 | true=>
  rw[hn] at t1;refine cs (aZ t1) ?_;have e:atB c pp pl st=(match (Au (c.h.getD pl []).length).findSome? (kW c.bs c.pr pp pl st (c.h.getD pl [])) with
   | some d=>some d|none=>(Au c.ot.length).findSome? (othB c.ot pp pl st)):=if_neg (by rw[hn];exact HY)
  rw[e];clear e;refine cs rfl ?_;have tl:tst pg (call pg (n+32)) (aF c pp pl st (.own false []) .dead .dead .dead) (.cmp .Lt eV6 (.bi .len (eL1 eV1)))=.ok (decide ((pl:Int)<(c.h.length:Int))):=by have hl:=dX (aM (P:=pg) (cl:=call pg (n+32)) (σ:=aF c pp pl st (.own false []) .dead .dead .dead) 1 rfl) rfl;rw[lM] at hl;exact bZ (bD rfl) hl rfl
  obtain⟨L,v8,k3,h8,hd⟩:∃(L:Sl) (v8:Vl),ex pg (call pg (n+32)) (aF c pp pl st (.own false []) .dead .dead .dead) (hdS (drp 2 f27.body))=.next (aF c pp pl st L .dead .dead .dead)/\L.val 8=.ok v8/\v8.d=sA (c.h.getD pl []):=by
   by_cases q2:pl<c.h.length;rw[Av (by omega)] at tl;exact⟨.sh true (sA (c.h.getD pl [])),⟨sA (c.h.getD pl []),false,true,[]⟩,zG tl (bU (aLT (bM (aM 1 rfl) (bD rfl) (rA (f:=sA) rfl (by rw[Ak,Ac q2];rfl))))),rfl,rfl⟩;rw[Aw (by omega)] at tl;have eh:c.h.getD pl []=[]:=by rw[Ak,AR (by omega)];rfl
   exact⟨.own false [],_,aZ tl,rfl,by rw[eh];rfl⟩
  refine cs k3 ?_;have l4:=aCA o pl;have q1:∀τ:Sg,τ[(8:Nat)]? = some L->ev pg (call pg (n+32)) τ eV8=.ok v8:=λτ h=>by rw[oI];unfold cB;rw[h];exact h8
  have l8:=dX (q1 (aF c pp pl st L .dead .dead .dead) rfl) hd;rw[lM] at l8;obtain⟨q5,⟨s9,B,G,rfl⟩,e1⟩:=cY (t:=.n 9) (I:=λσ=>∃s9 B G:Sl,σ=aF c pp pl st L s9 B G) _ _ (kW c.bs c.pr pp pl st (c.h.getD pl [])) (eO l8 (by omega)) ⟨_,_,_,rfl⟩ (λk hk τ ⟨y9,U,Z,M⟩=>by
   subst M;obtain⟨q0,e⟩:=aDU n o q hs h8 hd (AV.mp hk) U Z;exact⟨_,_,dF _,⟨_,_,_,rfl⟩,e⟩)
  refine iU e1 ?_;cases(Au (c.h.getD pl []).length).findSome? (kW c.bs c.pr pp pl st (c.h.getD pl [])) with
  | some d=>rfl|none=>
   have l3:=dX (aM (P:=pg) (cl:=call pg (n+32)) (σ:=aF c pp pl st L s9 B G) 3 rfl) rfl;rw[lM] at l3;obtain⟨q6,⟨z9,q0,q4,rfl⟩,e2⟩:=cY (t:=.n 9) (I:=λσ=>∃s9 B G:Sl,σ=aF c pp pl st L s9 B G) _ _ (othB c.ot pp pl st) (eO l3 (by have:=o.lim.few;omega)) ⟨_,_,_,rfl⟩ (λk hk τ ⟨y9,U,Z,M⟩=>by
    subst M;obtain⟨q0,q4,e⟩:=aIJ (n+32) q3 (AV.mp hk) L U Z;exact⟨_,_,dF _,⟨_,_,_,rfl⟩,e⟩)
   refine iU e2 ?_;cases(Au c.ot.length).findSome? (othB c.ot pp pl st) with
   | some d=>rfl|none=>exact aS (aI _)
abbrev uF(t:List Int)(c:Cx0)(pp:Pp)(s8 s9 s10:Sl):Sg:=[.sh true (.lst (aN c.bs)),.sh true (.lst ((ssO t).map aB)),.sh true (.lst (bY c.h)),.sh true (.lst (c.pr.map bH)),.sh true (.lst (cR c.ot)),.sh true (.lst (c.nt.map Cn.d)),.sh true c.bg.d,.sh true (.lst (cE pp)),s8,s9,s10]
abbrev uB1:Ss:=match hdS f28.body with|.for _ _ b=>b|_=>.nil
abbrev uB2:Ss:=match hdS (drp 1 f28.body) with|.for _ _ b=>b|_=>.nil
abbrev uB3:Ss:=match hdS uB2 with|.for _ _ b=>b|_=>.nil
theorem aMi(n:Nat)(o:Ok t c)(q:POk t c pp){pl:Nat}(hp:pl<pp.length)(U B:Sl):∃z8 L:Sl,
 exs pg (call pg (n+33)) (uF t c pp U (.sh false (.int pl)) B) uB2=(match plB c pp pl with|some d=>.ret (.cl d)|none=>.next (uF t c pp z8 (.sh false (.int pl)) L)):=by
 have hw:walk pg (call pg (n+33)) (uF t c pp U (.sh false (.int pl)) B) (.seq (.idx eV7 eV9))=.ok ((pp.getD pl []).map (λst=>Vl.cl (aB st)),[]):=by rw[cG,kZ (aM 7 rfl) rfl (aH 9 rfl) hp,aA];show R.ok (items _ _,[])=_;rw[mM]
 obtain⟨σ',⟨z8,L,rfl⟩,e⟩:=cY (t:=.n 8) (b:=uB3) (I:=λσ=>∃U B:Sl,σ=uF t c pp U (.sh false (.int pl)) B) (pp.getD pl []) (λst=>Vl.cl (aB st)) (atB c pp pl) hw ⟨_,_,rfl⟩ (λst q1 τ ⟨y8,q3,q2⟩=>by
  subst q2
  let G:=uF t c pp (.sh false (aB st)) (.sh false (.int pl)) q3
  let M:=uF t c pp (.sh false (aB st)) (.sh false (.int pl)) (.sh false (fF (atB c pp pl st)))
  have br:=aIK n o q (pl:=pl) (by have:=q.len;omega) (q.sub _ (mG (nX pp hp)) st q1);have q0:evs pg (call pg (n+33)) G (eL8 eV0 eV2 eV3 eV4 eV5 eV7 eV9 eV8)=.ok [⟨.lst (aN c.bs),false,true,[]⟩,⟨.lst (bY c.h),false,true,[]⟩,⟨.lst (c.pr.map bH),false,true,[]⟩,⟨.lst (cR c.ot),false,true,[]⟩,⟨.lst (c.nt.map Cn.d),false,true,[]⟩,⟨.lst (cE pp),false,true,[]⟩,.cl (.int pl),.cl (aB st)]:=by rw[aE,aM 0 rfl,aA,aE,aM 2 rfl,aA,aE,aM 3 rfl,aA,aE,aM 4 rfl,aA,aE,aM 5 rfl,aA,aE,aM 7 rfl,aA,aE,aH 9 rfl,aA,aE,aH 8 rfl,aA,bW];rfl
  have ec:ev pg (call pg (n+33)) G (.call 27 (eL8 eV0 eV2 eV3 eV4 eV5 eV7 eV9 eV8))=.ok (.cl (fF (atB c pp pl st))):=by rw[fM,q0,aA];simp_all
  have k1:ex pg (call pg (n+33)) G (hdS uB3)=.next M:=bL ec;have Z:tst pg (call pg (n+33)) M (.cmp .IsNot iC eCn)=.ok (atB c pp pl st).isSome:=bZ (aH 10 rfl) (aI _) (aCE λd hd=>aGG hd);refine⟨G,M,dF _,⟨_,_,rfl⟩,cs k1 ?_⟩;cases hx:atB c pp pl st with
  | none=>rw[hx] at Z;exact bU (aZ Z)|some d=>
   rw[hx] at Z;exact bT Z (aCF (by show some (Sl.sh false (fF (atB c pp pl st)))=_;rw[hx];rfl)))
 refine⟨z8,L,iU e ?_⟩;show aGu (plB c pp pl) _=_;cases plB c pp pl <;> rfl
theorem aIL(n:Nat)(o:Ok t c)(q:POk t c pp):call pg (n+34) 28 [.lst (aN c.bs),.lst ((ssO t).map aB),.lst (bY c.h),.lst (c.pr.map bH),.lst (cR c.ot),.lst (c.nt.map Cn.d),c.bg.d,.lst (cE pp)]=.ok (fF (nK c pp),false,false):=by
 let σ:=uF t c pp .dead .dead .dead
 refine aK rfl rfl (v:=.cl (fF (nK c pp))) ?_;have p0:0<pp.length:=by have:=q.len;omega
 obtain⟨q1,⟨G,rfl⟩,e1⟩:=cY (t:=.n 8) (b:=uB1) (I:=λσ=>∃G:Sl,σ=uF t c pp G .dead .dead) (ssO t) (λst=>Vl.cl (aB st)) (λs=>if c.bg.hold s s=true/\s∉pp.getD 0 [] then some (aGt s) else none) (jL (i:=1) rfl) ⟨_,rfl⟩ (λs hs τ ⟨G,B⟩=>by
  subst B;refine⟨uF t c pp (.sh false (aB s)) .dead .dead,uF t c pp (.sh false (aB s)) .dead .dead,dF _,⟨_,rfl⟩,?_⟩;have M:tst pg (call pg (n+33)) (uF t c pp (.sh false (aB s)) .dead .dead) (.an (.call 25 (eL2 eV6 eV8)) (.cmp .NotIn eV8 (.idx eV7 eC0)))=.ok (c.bg.hold s s&&decide (s∉pp.getD 0 [])):=nH (wU (aT 6 rfl c.bg.noL) (aH 8 rfl) (nJ (n+2) (by rw[(iT o.ht hs).1];exact o.bg.1) o.bg.2)) (bZ (aH 8 rfl) (kZ (aM 7 rfl) rfl (aI _) p0) (nL s _));by_cases L:c.bg.hold s s=true/\s∉pp.getD 0 [];rw[if_pos L];rw[L.1,Av L.2] at M;exact bT M (aS (dL (aI _) (aH 8 rfl)));rw[if_neg L];have:(c.bg.hold s s&&decide (s∉pp.getD 0 []))=false:=by
   cases hb:c.bg.hold s s with
   | false=>rfl|true=>rw[Aw λz=>L ⟨hb,z⟩];rfl
  rw[this] at M;exact bU (aZ M))
 refine iU e1 ?_;have eb:(ssO t).findSome? (λs=>if c.bg.hold s s=true/\s∉pp.getD 0 [] then some (aGt s) else none)=begB c pp:=by unfold begB;rw[o.bs]
 rw[eb];unfold nK;cases begB c pp with
 | some d=>rfl|none=>
  have l7:=dX (aM (P:=pg) (cl:=call pg (n+33)) (σ:=uF t c pp G .dead .dead) 7 rfl) rfl;rw[lM] at l7;obtain⟨q2,⟨z8,z9,q0,rfl⟩,e2⟩:=cY (t:=.n 9) (I:=λσ=>∃G s9 U:Sl,σ=uF t c pp G s9 U) _ _ (plB c pp) (eO l7 (by have:=q.len;have:=o.few;omega)) ⟨_,_,_,rfl⟩ (λi hi τ ⟨y8,y9,Z,B⟩=>by
   subst B;obtain⟨z8,q0,e⟩:=aMi n o q (AV.mp hi) y8 Z;exact⟨_,_,dF _,⟨_,_,_,rfl⟩,e⟩)
  refine iU e2 ?_;cases(Au pp.length).findSome? (plB c pp) with
  | some d=>rfl|none=>exact aS (aI _)
end
theorem aGL(n:Nat)(a:List Int):(a.map D.int).all (okE (n+1))=true:=by rw[F5,AB];intro _ _;rfl
theorem aIM{d:D}(h:IsB d):noL d=true:=by
 obtain⟨w,l,rfl,h⟩:=h;show(true&&noLs l)=true;rw[J4]
 induction l with
 | nil=>rfl|cons x l G=>
  rw[noLs,G λy B=>h y (Ag _ B),Dy];rcases h x Am with⟨i,rfl⟩|⟨a,rfl⟩
  rfl;exact aG a
theorem aMj{d:D}(h:IsB d):eqD d d=some true:=by
 obtain⟨w,l,rfl,h⟩:=h;refine mK 120 _ ?_;show(okE 119 (.str w)&&l.all (okE 119))=true;rw[show okE 119 (.str w)=true from rfl,J4,AB];intro x B;rcases h x B with⟨i,rfl⟩|⟨a,rfl⟩
 rfl;exact aGL 117 a
theorem aRg{α:Type}(x:α)(l:List α):cut (x::l) (some 1) none=l:=by
 have B:sIx (x::l).length 0 (some 1)=1:=by simp[sIx]
 have G:sIx (x::l).length (x::l).length none=(x::l).length:=rfl;unfold cut;rw[B,G];grind
theorem aGM(n:Nat){x:Option D}(h:∀d,x=some d->IsB d):call pg (n+1) 30 [fF x,fF x]=.ok (.bl true,false,false):=by
 cases x with
 | none=>rfl|some d=>
  have U:=h d rfl;have B:=aIM U;have he:=aMj U;obtain⟨w,l,e,hl⟩:=U
  let fr (s:Sl):Sg:=[.sh true d,.sh true d,s]
  have G:∀s,ev pg (call pg n) (fr s) eV0=.ok (.cl d):=λs=>aT 0 rfl B;have k2:ex pg (call pg n) (fr .dead) (hdS (drp 1 f30.body))=.next (fr .dead):=aZ (iA (fZ (mJ (G _) (by rw[e];rfl))) (iA (bZ ((λa M=>fP M (by rw[e];exact oU _)) _ (G _)) ((λa M=>fP M (by rw[e];exact oU _)) _ ((λs=>aT 1 rfl B) _)) (by
   simp_all)) (fZ (mJ (bM (G _) (aI _) (by rw[e];exact gW _ _ rfl)) rfl))))
  have hw:walk pg (call pg n) (fr .dead) (.seq (.sli eV0 (eL1 eC1) .nil))=.ok (l.map Vl.cl,[]):=by
   have es:ev pg (call pg n) (fr .dead) (.sli eV0 (eL1 eC1) .nil)=.ok (.cl (.tup l)):=by
    rw[aIo,G,aA,aI,aA];rw[e];have:noLs (.str w::l)=true:=by rw[e] at B;exact B
    show R.ok (⟨.tup (cut (.str w::l) (some 1) none),false,false&&!noLs (.str w::l),if noLs (.str w::l) then [] else []⟩:Vl)=_;rw[this,aRg];rfl
   rw[cG,es,aA];show R.ok (items (.cl (.tup l)) l,[])=_
   congr 2
   unfold items;refine B9 λx hx=>?_;unfold Vl.sub;simp_all
  obtain⟨σ',e1,s2,rfl⟩:=fE (t:=.n 2) (b:=match hdS (drp 2 f30.body) with|.for _ _ b=>b|_=>.nil) (λ_ σ=>∃s2,σ=fr s2) hw ⟨_,rfl⟩ (λi hi τ ⟨s2,q0⟩=>by
   subst q0;have Z:i<l.length:=by simpa using hi
   refine⟨fr (.sh false l[i]),fr (.sh false l[i]),by rw[Bs];exact dF _,?_,⟨_,rfl⟩⟩;have L:ev pg (call pg n) (fr (.sh false l[i])) eV2=.ok (.cl l[i]):=aH 2 rfl;rcases hl l[i] (AM Z) with⟨j,I⟩|⟨a,I⟩
   exact bU (aZ (iA (mJ L (by rw[dR,I];rfl)) (fZ (mJ L (by rw[dR,I];rfl)))));exact bU (aZ (iA (mJ L (by rw[dR,I];rfl)) (fZ (mJ L (by rw[dR,I];rfl))))))
  exact aK (F:=f30) rfl rfl (cs (aZ (iA (bZ ((λs=>aT 1 rfl B) _) (aI _) (by subst e;rfl)) (bZ (G _) (aI _) (by subst e;rfl)))) (cs k2 (cs e1 (aS (tZ (G _) ((λs=>aT 1 rfl B) _) he)))))
abbrev rwD(pp:Pp):List (List D):=pp.map λl=>l.map aB
theorem uJ:∀pp:Pp,hG (cE pp)=some (rwD pp)
 | []=>rfl|l::pp=>by show hG (.lst (l.map aB)::cE pp)=_;rw[hG,if_pos (cC aG l),uJ pp];rfl
theorem aCH(pp:Pp){k:Nat}(h:k<pp.length):(rwD pp).getD k []=(pp.getD k []).map aB:=by rw[Ak,Ar,nX pp h];rfl
theorem aCI(a:List Int):∀l:List (List Int),a∈l->oC (aB a) (l.map aB)=some ((l.erase a).map aB)
 | [],h=>by cases h|x::l,h=>by
  rw[mC,oC,gG,List.erase_cons];cases G:x==a with
  | true=>rfl|false=>
   have B:a∈l:=by grind
   rw[aCI a l B];rfl
section
variable {cl:Caller} {σ:Sg}
theorem aPb{a:E}{v:Vl}{l:List (List Int)}(h:ev pg cl σ a=.ok v)(L:v.d=.lst (l.map aB))(B:neK l=true)(G:l.Nodup)(I:l.length<=60):ev pg cl σ (.srt a)=.ok ⟨.lst ((ssT l).map aB),true,false,[]⟩:=by
 show(ev pg cl σ a >>= λx=>(match x.d with
  | .lst ds=>(match eU ds with|some ks=>R.iff (neK ks&&decide ks.Nodup&&decide (ks.length<=60)) (R.ok (⟨.lst ((ssT ks).map uW),true,false,[]⟩:Vl))|none=>.bad)
  | _=>.bad))=_
 rw[h,aA,L];show(match eU (l.map aB) with|some ks=>R.iff (neK ks&&decide ks.Nodup&&decide (ks.length<=60)) (R.ok (⟨.lst ((ssT ks).map uW),true,false,[]⟩:Vl))|none=>.bad)=_;rw[rR];show R.iff (neK l&&decide l.Nodup&&decide (l.length<=60)) _=_;rw[B,Av G,Av I];rfl
theorem aMk{a k:E}{j i:Nat}{st:List Int}{pp:Pp}(B:ev pg cl σ a=.ok (.cl (aB st)))(I:ev pg cl σ k=.ok (.cl (.int (i:Int))))(G:σ[j]? = some (.own2 (rwD pp)))(hi:i<pp.length):tst pg cl σ (.in2 .NotIn a j k)=.ok (!decide (st∈pp.getD i [])):=by
 show(ev pg cl σ a >>= λx=>ev pg cl σ k >>= λy=>(match σ[j]?,y.d with
  | some (.own2 dss),.int k=>(match ixN dss.length k with
   | some q=>(match Ii,inD x.d (.lst (dss.getD q [])) with
    | .In,some b=>R.ok b|.NotIn,some b=>R.ok !b|_,_=>R.bad)
   | none=>R.bad)
  | _,_=>R.bad))=_
 rw[B,aA,I,aA,G];show(match ixN (rwD pp).length (i:Int) with
  | some q=>(match Ii,inD (aB st) (.lst ((rwD pp).getD q [])) with
   | .In,some b=>R.ok b|.NotIn,some b=>R.ok !b|_,_=>R.bad)
  | none=>R.bad)=_
 rw[lM,cP hi];show(match Ii,inD (aB st) (.lst ((rwD pp).getD i [])) with
       | .In,some b=>R.ok b|.NotIn,some b=>R.ok !b|_,_=>R.bad)=_
 rw[aCH pp hi,aCz]
theorem aMl{a k:E}{j i:Nat}{st:List Int}{pp:Pp}(B:ev pg cl σ a=.ok (.cl (aB st)))(I:ev pg cl σ k=.ok (.cl (.int (i:Int))))(G:σ[j]? = some (.own2 (rwD pp)))(hi:i<pp.length):tst pg cl σ (.in2 .In a j k)=.ok (decide (st∈pp.getD i [])):=by
 show(ev pg cl σ a >>= λx=>ev pg cl σ k >>= λy=>(match σ[j]?,y.d with
  | some (.own2 dss),.int k=>(match ixN dss.length k with
   | some q=>(match Kk,inD x.d (.lst (dss.getD q [])) with
    | .In,some b=>R.ok b|.NotIn,some b=>R.ok !b|_,_=>R.bad)
   | none=>R.bad)
  | _,_=>R.bad))=_
 rw[B,aA,I,aA,G];show(match ixN (rwD pp).length (i:Int) with
  | some q=>(match Kk,inD (aB st) (.lst ((rwD pp).getD q [])) with
   | .In,some b=>R.ok b|.NotIn,some b=>R.ok !b|_,_=>R.bad)
  | none=>R.bad)=_
 rw[lM,cP hi];show(match Kk,inD (aB st) (.lst ((rwD pp).getD i [])) with
       | .In,some b=>R.ok b|.NotIn,some b=>R.ok !b|_,_=>R.bad)=_
 rw[aCH pp hi,aCz]
theorem aMm{k e:E}{j i:Nat}{v:Vl}{bs:List (List Int)}{pp:Pp}(I:ev pg cl σ k=.ok (.cl (.int (i:Int))))(B:ev pg cl σ e=.ok v)(M:v.d=.lst (bs.map aB))(G:σ[j]? = some (.own2 (rwD pp)))(hi:i<pp.length)(L:(pp.getD i []).length+bs.length<=lim):ev pg cl σ (.add2 j k e)=.ok ⟨.lst ((pp.getD i []++bs).map aB),true,false,[]⟩:=by
 show(ev pg cl σ k >>= λy=>ev pg cl σ e >>= λz=>(match σ[j]?,y.d,z.d with
  | some (.own2 dss),.int k,.lst bs=>(match ixN dss.length k with
   | some q=>R.iff (noLs bs&&decide ((dss.getD q []).length+bs.length<=lim)) (R.ok (⟨.lst (dss.getD q []++bs),true,false,[]⟩:Vl))|none=>R.bad)
  | _,_,_=>R.bad))=_
 rw[I,aA,B,aA,G,M];show(match ixN (rwD pp).length (i:Int) with
  | some q=>R.iff (noLs (bs.map aB)&&decide (((rwD pp).getD q []).length+(bs.map aB).length<=lim)) (R.ok (⟨.lst ((rwD pp).getD q []++bs.map aB),true,false,[]⟩:Vl))|none=>R.bad)=_
 rw[lM,cP hi];show R.iff (noLs (bs.map aB)&&decide (((rwD pp).getD i []).length+(bs.map aB).length<=lim)) (R.ok (⟨.lst ((rwD pp).getD i []++bs.map aB),true,false,[]⟩:Vl))=_;rw[aCH pp hi,lM,lM,Av L,cC aG,B2];rfl
theorem aMn{k e:E}{j i:Nat}{l:List (List Int)}{pp:Pp}(B:ev pg cl σ e=.ok ⟨.lst (l.map aB),true,false,[]⟩)(I:ev pg cl σ k=.ok (.cl (.int (i:Int))))(G:σ[j]? = some (.own2 (rwD pp)))(hi:i<pp.length):ex pg cl σ (.put2 j k e)=.next (σ.set j (.own2 (rwD (pp.set i l)))):=by
 show O.from σ (ev pg cl σ e) (λv=>O.from σ (ev pg cl σ k) λL=>(match σ[j]?,L.d,v.fr,v.d with
  | some (.own2 dss),.int k,true,.lst ds=>(match ixN dss.length k,noLs ds with
   | some q,true=>O.next (σ.set j (.own2 (dss.set q ds)))|_,_=>.bad)
  | _,_,_,_=>.bad))=_
 rw[B,cF,I,cF,G];show(match ixN (rwD pp).length (i:Int),noLs (l.map aB) with
  | some q,true=>O.next (σ.set j (.own2 ((rwD pp).set q (l.map aB))))|_,_=>.bad)=_
 rw[lM,cP hi,cC aG];simp_all
theorem aMo{k e:E}{j i:Nat}{st:List Int}{pp:Pp}(I:ev pg cl σ k=.ok (.cl (.int (i:Int))))(B:ev pg cl σ e=.ok (.cl (aB st)))(G:σ[j]? = some (.own2 (rwD pp)))(hi:i<pp.length)(L:st∈pp.getD i []):ex pg cl σ (.rem2 j k e)=.next (σ.set j (.own2 (rwD (pp.set i ((pp.getD i []).erase st))))):=by
 show O.from σ (ev pg cl σ k) (λM=>O.from σ (ev pg cl σ e) λv=>(match σ[j]?,M.d with
  | some (.own2 dss),.int k=>(match ixN dss.length k with
   | some q=>(match oC v.d (dss.getD q []) with
    | some ds=>O.next (σ.set j (.own2 (dss.set q ds)))|none=>.bad)
   | none=>.bad)
  | _,_=>.bad))=_
 rw[I,cF,B,cF,G];show(match ixN (rwD pp).length (i:Int) with
  | some q=>(match oC (aB st) ((rwD pp).getD q []) with
   | some ds=>O.next (σ.set j (.own2 ((rwD pp).set q ds)))|none=>.bad)
  | none=>.bad)=_
 rw[lM,cP hi];show(match oC (aB st) ((rwD pp).getD i []) with
       | some ds=>O.next (σ.set j (.own2 ((rwD pp).set i ds)))|none=>.bad)=_
 rw[aCH pp hi,aCI st _ L];simp_all
end
section
variable {t:List Int} {c:Cx0} {pp:Pp}
theorem aCJ(q:POk t c pp){i:Nat}{l:List (List Int)}(G:l.Pairwise (lexI · ·=true))(I:∀x∈l,x∈ssO t):POk t c (pp.set i l):=
 ⟨by rw[A1];exact q.len,λm B=>by
  rcases Cz B with h|rfl;exact q.rise m h;exact G,λm B=>by
  rcases Cz B with h|rfl;exact q.sub m h;exact I⟩
abbrev gF(t:List Int)(pp:Pp)(x:Int)(m:Bool)(s4 s5 s6:Sl):Sg:=[.sh true (.lst (cE pp)),.sh true (.lst ((ssO t).map aB)),.sh true (.int x),.sh true (.bl m),s4,s5,s6]
theorem zU(n:Nat)(o:Ok t c)(q:POk t c pp)(x:Int)(m:Bool):∃Z,POk t c Z/\call pg (n+1) 31 [.lst (cE pp),.lst ((ssO t).map aB),.int x,.bl m]=.ok (.lst (cE Z),true,false):=by
 have hl:1<=pp.length:=by have:=q.len;omega
 have q0:pp.length<=5:=by have:=q.len;have:=o.few;omega
 have k1:ex pg (call pg n) (gF t pp x m .dead .dead .dead) (.set2 4 0)=.next (gF t pp x m (.own2 (rwD pp)) .dead .dead):=by
  show(match hG (cE pp),aEx (gF t pp x m .dead .dead .dead) with
   | some dss,true=>if (cE pp).length<=lim then O.next ((gF t pp x m .dead .dead .dead).set 4 (.own2 dss)) else .bad|_,_=>.bad)=_
  rw[uJ];show(if (cE pp).length<=lim then O.next ((gF t pp x m .dead .dead .dead).set 4 (.own2 (rwD pp))) else .bad)=_;rw[if_pos (by rw[lM];unfold lim;omega)];rfl
 obtain⟨i,ei,hi⟩:=jR x hl;have k2:ex pg (call pg n) (gF t pp x m (.own2 (rwD pp)) .dead .dead) (hdS (drp 1 f31.body))=.next (gF t pp x m (.own2 (rwD pp)) (.sh false (.int i)) .dead):=by have ln:=dX (aM (P:=pg) (cl:=call pg n) (σ:=gF t pp x m (.own2 (rwD pp)) .dead .dead) 0 rfl) rfl;rw[lM] at ln;have:=cL (bD (i:=2) rfl) ln (by omega);rw[ei] at this;exact bL this
 obtain⟨st,U,es⟩:=aLU (σ:=gF t pp x m (.own2 (rwD pp)) (.sh false (.int i)) .dead) (aM 1 rfl) rfl (fR (bD (i:=2) rfl) (aI (.int 8)) rfl) (by have:=(rJ o.ht).1;omega) aG
 let σ:=gF t pp x m (.own2 (rwD pp)) (.sh false (.int i)) (.sh false (aB st))
 have M:=mG (nX pp hi);have q1:=aCD o.ht (q.rise _ M) (q.sub _ M);have v5:ev pg (call pg n) σ eV5=.ok (.cl (.int (i:Int))):=aH 5 rfl;have L:∀s4,tst pg (call pg n) (gF t pp x m s4 (.sh false (.int i)) (.sh false (aB st))) eV3=.ok m:=λs4=>by rw[aOF];rfl
 have G:∀I:Pp,exs pg (call pg n) (gF t pp x m (.own2 (rwD I)) (.sh false (.int i)) (.sh false (aB st))) (drp 5 f31.body)=.ret ⟨.lst (cE I),true,false,[]⟩:=λI=>zH (by
  show O.ret (⟨.lst ((rwD I).map .lst),true,false,[]⟩:Vl)=_;rw[rwD,A7];rfl)
 cases m with
 | true=>have tN:=aMk (j:=4) (aH 6 rfl) v5 rfl hi;by_cases B:st∈pp.getD i [];rw[Av B] at tN;exact⟨pp,q,(λI h=>aK (F:=f31) rfl rfl (cs k1 (cs k2 (cs (bL es) h)))) pp (cs (aZ (nH (L _) tN)) (cs (aZ (uI (fZ (L _)) (λz=>by cases z) λ_=>rfl)) (G pp)))⟩;rw[Aw B] at tN;exact⟨_,aCJ q (qG _) (λy hy=>(gE (q.sub _ M) U) y (oQ.mp hy)),(λI h=>aK (F:=f31) rfl rfl (cs k1 (cs k2 (cs (bL es) h)))) _ (cs (zG (nH (L _) tN) (bU (aMn (aPb (aMm v5 (nI (aV (aH 6 rfl) fQ)) rfl rfl hi (by rw[Cv];unfold lim;omega)) rfl (aJr o.ht (gE (q.sub _ M) U)) (Da.mpr ⟨aCC (q.rise _ M),by simp,λa ha b hb z=>B (by rw[<-A8.mp hb,<-z];exact ha)⟩) (by rw[lA,Cv];omega)) v5 rfl hi))) (cs (aZ (uI (fZ (L _)) (λz=>by cases z) λ_=>rfl)) (G _)))⟩|false=>have tI:=aMl (j:=4) (aH 6 rfl) v5 rfl hi;by_cases B:st∈pp.getD i [];rw[Av B] at tI;exact⟨_,aCJ q ((q.rise _ M).sublist List.erase_sublist) (λy hy=>q.sub _ M y (List.mem_of_mem_erase hy)),(λI h=>aK (F:=f31) rfl rfl (cs k1 (cs k2 (cs (bL es) h)))) _ (cs (aZ (uI (L _) (λz=>by cases z) λ_=>rfl)) (cs (zG (nH (fZ (L _)) tI) (bU (aMo v5 (aH 6 rfl) rfl hi B))) (G _)))⟩;rw[Aw B] at tI;exact⟨pp,q,(λI h=>aK (F:=f31) rfl rfl (cs k1 (cs k2 (cs (bL es) h)))) pp (cs (aZ (uI (L _) (λz=>by cases z) λ_=>rfl)) (cs (aZ (nH (fZ (L _)) tI)) (G pp)))⟩
end
section
variable {P:Pg} {cl:Caller} {σ:Sg}
theorem aPc{a b:E}{x y:Int}(B:ev P cl σ a=.ok (.cl (.int x)))(G:ev P cl σ b=.ok (.cl (.int y))):ev P cl σ (.bi .max (.cons a (.cons b .nil)))=.ok (.cl (.int (if y>x then y else x))):=by rw[aFS,aE,B,aA,aE,G,aA,bW];rfl
theorem aGN{α:Type}{f:α->D}{i j:Nat}{k e:E}{B:List α}{y:α}(I:ev P cl σ e=.ok (.cl (f y)))(M:ev P cl σ k=.ok (.cl (.int (j:Int))))(hi:σ[i]? = some (.own false (B.map f)))(L:j<B.length)(U:B.length<=100):ex P cl σ (.setIx i k e)=.next (σ.set i (.own false ((B.set j y).map f))):=by
 have G:B.length<=lim:=by unfold lim;omega
 simp only[qT,I,M,cF,dR,put,qU,fO,nQ,hi,lM,(cP L),A1,G,if_true,aFY,ET,F8]
theorem aCK{k:Nat}{caps:List Nat}{T:T}{it:It}{elt:E}{n:Nat}{α:Type}(f:α->D)(Q:α->Prop)(hw:walk P cl σ it=.ok ((Au n).map (λ(k:Nat)=>Vl.cl (.int (k:Int))),[]))(hl:n<=1000)
 (hb:∀i,i<n->∃y,Q y/\∃G,bP (Aj k .dead++caps.map λi=>(σ[i]?).getD .dead) (.cl (.int (i:Int))) T=.ok G/\ev P cl G elt=.ok ⟨f y,true,false,[]⟩) :
 ∃B:List α,B.length=n/\(∀y∈B,Q y)/\ev P cl σ (.comp k caps T it .nil elt)=.ok ⟨.lst (B.map f),true,false,[]⟩:=by
 have M:∀ks:List Nat,(∀i∈ks,i<n)->∃B:List α,B.length=ks.length/\(∀y∈B,Q y)/\cN (λx=>do
  let G<-bP (Aj k .dead++caps.map λi=>(σ[i]?).getD .dead) x T
  let k<-tsts P cl G .nil
  if k then do let y<-ev P cl G elt;.ok (some y) else .ok none) (ks.map λ(k:Nat)=>Vl.cl (.int (k:Int)))=.ok (B.map λy=>(⟨f y,true,false,[]⟩:Vl)):=by
  intro ks
  induction ks with
  | nil=>intro _;exact⟨[],rfl,(λ_ z=>by cases z),rfl⟩|cons i ks ih=>intro h;obtain⟨y,qy,G,Z,e2⟩:=hb i (h i Am);obtain⟨B,I,U,L⟩:=ih λj hj=>h j (Ag _ hj);refine⟨y::B,by rw[lC,lC,I],λz hz=>?_,?_⟩;grind;rw[mC,cN,Z];show((ev P cl G elt >>= λy=>R.ok (some y)) >>= λy=>cN _ _ >>= λB=>(match y with|some y=>R.ok (y::B)|none=>R.ok B))=_;rw[e2,aA,aA,L];rfl
 obtain⟨B,I,U,L⟩:=M (Au n) λi hi=>AV.mp hi;rw[AK] at I;refine⟨B,I,U,?_⟩;rw[mE,hw,aA];refine(congrArg (λz:R (List Vl)=>z >>= λvs=>R.iff (decide (vs.length<=lim)) (R.ok (fB k caps [] vs))) L).trans ?_;show R.iff (decide ((B.map λy=>(⟨f y,true,false,[]⟩:Vl)).length<=lim)) (R.ok (fB k caps [] (B.map λy=>(⟨f y,true,false,[]⟩:Vl))))=_;rw[Av (by rw[lM];unfold lim;omega),yZ,aCs]
end
abbrev W(ns:List Int)(x:Int)(t:List Int)(s5:Sl)(k6:Int)(pr:List Pr)(s8 s9 s10 s11 s12 s13 s14 s15 s16:Sl):Sg:=
 [.sh true (.lst (ns.map D.int)),.sh false (.int x),.sh false (.lst (t.map D.int)),.own false (aN (bsO t)),.own false ((ssO t).map aB),s5,.sh false (.int k6),.own false (pr.map bH),s8,s9,s10,s11,s12,s13,s14,s15,s16]
abbrev W0(s0 s1 s2 s3 s4 s5 s6 s7:Sl):Sg:=[s0,s1,s2,s3,s4,s5,s6,s7,.dead,.dead,.dead,.dead,.dead,.dead,.dead,.dead,.dead]
theorem aGO(cl:Caller)(B s1:Sl){t:List Int}(ht:t∈cX):ev pg cl (W0 B s1 (.sh false (.lst (t.map D.int))) .dead .dead .dead .dead .dead) (match hdS (drp 2 f32.body) with|.set _ e=>e|_=>.c .non)=.ok ⟨.lst (aN (bsO t)),true,false,[]⟩:=by apply rG ht <;> kernel_rfl
theorem aPd(n:Nat)(ns:List Int):∃(x I:Int) (t:List Int) (h:List (List Way)) (pr:List Pr),t∈cX/\h.length<=4/\wK (bsO t).length h/\pr.length<=256/\∀o,exs pg (call pg (n+36)) (W ns x t (.own false (bY h)) I pr .dead .dead .dead .dead .dead .dead .dead .dead .dead) (drp 7 f32.body)=o->exs pg (call pg (n+36)) (W0 (.sh true (.lst (ns.map D.int))) .dead .dead .dead .dead .dead .dead .dead) f32.body=o:=by
 let S:Sl:=.sh true (.lst (ns.map D.int))
 let C:=call pg (n+36)
 let x:=eM ns 0
 let A:Sl:=.sh false (.int x)
 obtain⟨q,eq,hq⟩:=jR x (n:=8) (by decide);have eq:x % 8=(q:Int):=eq
 let t:=cX[q]
 have ht:t∈cX:=AM hq
 let B:Sl:=.sh false (.lst (t.map D.int))
 let G:Sl:=.own false (aN (bsO t))
 let J'':Sl:=.own false ((ssO t).map aB)
 have k1:ex pg C (W0 S A .dead .dead .dead .dead .dead .dead) (hdS (drp 1 f32.body))=.next (W0 S A B .dead .dead .dead .dead .dead):=
  bL (bM rfl ((cL (aH 1 rfl) (aI (.int 8)) (by decide)).trans (by rw[eq])) (rA (f:=λt:List Int=>.lst (t.map D.int)) rfl (Ac hq)))
 have b4:=rH ht;obtain⟨h,h1,h2,h3⟩:=aGo (n+32) ns b4.1 (by omega);have ln:∀M U Z s7,ev pg C (W0 S A B G M U Z s7) (.bi .len (eL1 eV2))=.ok (.cl (.int ((bsO t).length:Int))):=λM U Z s7=>by have:=dX (aH (P:=pg) (cl:=C) (σ:=W0 S A B G M U Z s7) 2 rfl) rfl;rw[lM,<-wP] at this;exact this
 let K:Sl:=.own false (bY h)
 let L:Sl:=.sh false (.int (x / 8 % 3))
 obtain⟨pr,p1,p2,p3⟩:=uD (n+34) ht (eM ns 30) (if x / 24 % 3>x / 8 % 3 then x / 24 % 3 else x / 8 % 3);have I:ex pg C (W0 S A B G J'' K L .dead) (hdS (drp 6 f32.body))=.next (W0 S A B G J'' K L (.own false (pr.map bH))):=
  eT (zI (aW (aM 0 rfl) (aI _) (dH (n+34) ns (by decide))) (cD 4 rfl) (aPc (aH 6 rfl) (cL (fR (aH 1 rfl) (aI (.int 24)) rfl) (aI (.int 3)) (by decide))) p3)
 exact⟨x,x / 8 % 3,t,h,pr,ht,h1,h2,p1,λo ho=>cs (bL (aW (aM 0 rfl) (aI _) (dH (n+34) ns (by decide)))) (cs k1 (cs (eT (aGO _ _ _ ht)) (cs (eT (mI (cD 3 rfl) (zL (n+35) ht))) (cs (eT (rC (aM 0 rfl) (ln _ _ _ _) h3)) (cs (bL (cL (fR (aH 1 rfl) (aI (.int 8)) rfl) (aI (.int 3)) (by decide))) (cs I ho))))))⟩
theorem aPe(n:Nat)(ns:List Int)(x M:Int){t:List Int}{h:List (List Way)}{pr:List Pr}(ht:t∈cX)(h4:h.length<=4)(hk:wK (bsO t).length h)(hp:pr.length<=256) :
 ∃(c:Cx0) (pp:Pp) (B:Sl),Ok t c/\POk t c pp/\c.h=h/\c.pr=pr/\∀o,exs pg (call pg (n+36)) (W ns x t (.own false (bY h)) M pr (.own false (cR c.ot)) (.own false (c.nt.map Cn.d)) B (.sh false c.bg.d) (.own false (cE pp)) .dead .dead .dead .dead) (drp 12 f32.body)=o->exs pg (call pg (n+36)) (W ns x t (.own false (bY h)) M pr .dead .dead .dead .dead .dead .dead .dead .dead .dead) (drp 7 f32.body)=o:=by
 have b4:=rH ht
 let C:=call pg (n+36)
 let S:Sl:=.sh true (.lst (ns.map D.int))
 let J'':Sl:=.own false ((ssO t).map aB)
 let U:=W ns x t (.own false (bY h)) M pr
 obtain⟨r,er,hr⟩:=jR (x / 72) (n:=3) (by decide);have er:x / 72 % 3=(r:Int):=er;have e7:ev pg C (U .dead .dead .dead .dead .dead .dead .dead .dead .dead) (.op .Mod (.op .FloorDiv eV1 aOP) eC3)=.ok (.cl (.int (r:Int))):=(cL (fR (aH 1 rfl) (aI (.int 72)) rfl) (aI (.int 3)) (by decide)).trans (by rw[er]);obtain⟨ot,o1,o2,o3⟩:=aCK (k:=1) (caps:=[0,4,6]) (T:=.n 0) (λps:List Pr=>D.lst (ps.map bH)) (λps=>ps.length<=256) (eO e7 (by omega)) (by omega) (λi hi=>by
  obtain⟨ps,p1,p2,p3⟩:=uD (n+34) ht (eM ns (31+i)) M;refine⟨ps,p1,[.sh false (.int i),S,J'',.sh false (.int M)],dF _,?_⟩;have Z:ev pg C [.sh false (.int i),S,J'',.sh false (.int M)] (.op .Add aON eV0)=.ok (.cl (.int ((31+i:Nat):Int))):=(dG (aI (.int 31)) (aH 0 rfl)).trans (by rw[show(31:Int)+(i:Int)=((31+i:Nat):Int) by omega]);exact zI (aW (aM 1 rfl) Z (dH (n+34) ns (by omega))) (cD 2 rfl) (aH 3 rfl) p3)
 let O:Sl:=.own false (cR ot)
 have k7:ex pg C (U .dead .dead .dead .dead .dead .dead .dead .dead .dead) (hdS (drp 7 f32.body))=.next (U O .dead .dead .dead .dead .dead .dead .dead .dead):=eT o3;have l5:∀s8 L B G I,ev pg C (U s8 L B G I .dead .dead .dead .dead) (.op .Add (.bi .len (eL1 eV5)) eC1)=.ok (.cl (.int ((h.length+1:Nat):Int))):=λs8 L B G I=>by have:=dG (dX (cD (P:=pg) (cl:=C) (σ:=U s8 L B G I .dead .dead .dead .dead) 5 rfl) rfl) (aI (.int 1));rw[lM] at this;exact this
 have c8:=vY (k:=1) (caps:=[]) (T:=.n 0) _ (λ_=>Cn.yes.d) (λ_=>rfl) (eO (l5 O .dead .dead .dead .dead) (by omega)) (by rw[AK];unfold lim;omega) (λi _=>⟨_,dF _,aBe (aI _)⟩);have k8:ex pg C (U O .dead .dead .dead .dead .dead .dead .dead .dead) (hdS (drp 8 f32.body))=.next (U O (.own false ((Aj (h.length+1) Cn.yes).map Cn.d)) .dead .dead .dead .dead .dead .dead .dead):=eT (c8.trans (by rw[List.map_const',List.map_replicate,AK]));have ln:∀L B G I,ev pg C (U O L B G I .dead .dead .dead .dead) (.bi .len (eL1 eV2))=.ok (.cl (.int ((bsO t).length:Int))):=λL B G I=>by have:=dX (aH (P:=pg) (cl:=C) (σ:=U O L B G I .dead .dead .dead .dead) 2 rfl) rfl;rw[lM,<-wP] at this;exact this
 have l9:=dX (cD (P:=pg) (cl:=C) (σ:=U O (.own false ((Aj (h.length+1) Cn.yes).map Cn.d)) .dead .dead .dead .dead .dead .dead .dead) 9 rfl) rfl;rw[lM,AQ] at l9;obtain⟨σ',e9,nt,B,n1,n2,rfl⟩:=fE (t:=.n 10) (b:=match hdS (drp 9 f32.body) with|.for _ _ b=>b|_=>.nil) (λi σ=>∃(nt:List Cn) (B:Sl),nt.length=h.length+1/\(∀q∈nt,q.wf (bsO t).length true/\q.sz<=31)/\σ=U O (.own false (nt.map Cn.d)) B .dead .dead .dead .dead .dead .dead) (eO l9 (by omega)) ⟨_,_,AQ,(λq hq=>by rw[List.eq_of_mem_replicate hq];exact⟨trivial,by decide⟩),rfl⟩ (λi hi σ ⟨nt,B,n1,n2,q4⟩=>by
  have q7:i<h.length+1:=by simpa using hi
  subst q4
  let τ:=U O (.own false (nt.map Cn.d)) (.sh false (.int i)) .dead .dead .dead .dead .dead .dead
  have Z:ev pg C τ (.op .Add aLO iC)=.ok (.cl (.int ((34+i:Nat):Int))):=(dG (aI (.int 34)) (aH 10 rfl)).trans (by rw[show(34:Int)+(i:Int)=((34+i:Nat):Int) by omega]);have ec:=aW (aM 0 rfl) Z (dH (n+34) ns (by omega));have t1:=jW (cL ec (aI (.int 4)) (by decide)) (aI (.int 0));refine⟨τ,?_⟩;rw[Bs,BQ];cases hb:(eM ns (34+i) % 4==0) with
  | false=>rw[hb] at t1;exact⟨τ,dF _,bU (aZ t1),nt,_,n1,n2,rfl⟩|true=>
   rw[hb] at t1;obtain⟨q,q1,q2,q3⟩:=rF (eM ns (34+i) / 4) b4.1;have es:=aGN (i:=9) (aW (fR ec (aI (.int 4)) rfl) (ln _ _ _ _) (q3 (n+34))) (aH 10 rfl) rfl (by omega) (by omega);refine⟨_,dF _,bU (zG t1 (bU es)),nt.set i q,_,by rw[A1];exact n1,λz hz=>?_,rfl⟩;rcases Cz hz with h|rfl;exact n2 z h;exact⟨q1,q2⟩)
 obtain⟨bg,g1,g2,g3⟩:=rF (eM ns 40) b4.1
 let N:Sl:=.own false (nt.map Cn.d)
 have q5:ex pg C (U O N B .dead .dead .dead .dead .dead .dead) (hdS (drp 10 f32.body))=.next (U O N B (.sh false bg.d) .dead .dead .dead .dead .dead):=bL (aW (aW (aM 0 rfl) (aI _) (dH (n+34) ns (by decide))) (ln _ _ _ _) (g3 (n+34)));obtain⟨pp,l1,l2,l3⟩:=aCK (k:=1) (caps:=[0,1,4]) (T:=.n 0) (λl:List (List Int)=>D.lst (l.map aB)) (λl=>l.Sublist (ssO t)) (eO (l5 O N B (.sh false bg.d) .dead) (by omega)) (by omega) (λi hi=>by
  obtain⟨l,p1,p2⟩:=aGq (n+34) ht (eM ns (41+i)+2*(x / 216 % 2));refine⟨l,p1,[.sh false (.int i),S,.sh false (.int x),J''],dF _,?_⟩;have Z:ev pg C [.sh false (.int i),S,.sh false (.int x),J''] (.op .Add aOO eV0)=.ok (.cl (.int ((41+i:Nat):Int))):=(dG (aI (.int 41)) (aH 0 rfl)).trans (by rw[show(41:Int)+(i:Int)=((41+i:Nat):Int) by omega]);exact rC (dG (aW (aM 1 rfl) Z (dH (n+34) ns (by omega))) (iS (aI (.int 2)) (cL (fR (aH 2 rfl) (aI (.int 216)) rfl) (aI (.int 2)) (by decide)) (by omega) (by omega))) (cD 3 rfl) p2)
 have q6:ex pg C (U O N B (.sh false bg.d) .dead .dead .dead .dead .dead) (hdS (drp 11 f32.body))=.next (U O N B (.sh false bg.d) (.own false (cE pp)) .dead .dead .dead .dead):=eT l3;refine⟨⟨bsO t,h,pr,ot,nt,bg⟩,pp,B,⟨ht,rfl,hk,h4,⟨?_,?_,?_⟩,n1,n2,g1,g2⟩,⟨l1,λl hl=>(aIw ht).sublist (l2 l hl),λl hl y hy=>(l2 l hl).subset hy⟩,rfl,rfl,λo ho=>cs k7 (cs k8 (cs e9 (cs q5 (cs q6 ho))))⟩;show pr.length<=1000;omega;intro ps q0;have:=o2 ps q0;omega;show ot.length<=1000;omega
theorem okL{α:Type}{f:α->D}{n:Nat}{l:List α}(h:∀a∈l,okE n (f a)=true):okE (n+1) (.lst (l.map f))=true:=by show(l.map f).all (okE n)=true;rw[F5,AB];exact h
theorem okT{α:Type}{f:α->D}{n:Nat}{l:List α}(h:∀a∈l,okE n (f a)=true):okE (n+1) (.tup (l.map f))=true:=by show(l.map f).all (okE n)=true;rw[F5,AB];exact h
theorem ok2{n:Nat}{a b:D}(B:okE n a=true)(G:okE n b=true):okE (n+1) (.tup [a,b])=true:=by show(okE n a&&(okE n b&&true))=true;rw[B,G];rfl
theorem ok3{n:Nat}{a b c:D}(B:okE n a=true)(G:okE n b=true)(I:okE n c=true):okE (n+1) (.tup [a,b,c])=true:=by show(okE n a&&(okE n b&&(okE n c&&true)))=true;rw[B,G,I];rfl
theorem okc(n:Nat)(q:Cn)(h:q.sz<=31):okE (n+32) q.d=true:=by have:=wM q (n+31-q.sz);rwa [show n+31-q.sz+q.sz+1=n+32 by omega] at this
theorem oks(n:Nat)(q:Sm)(h:q.sz<=3):okE (n+4) q.d=true:=by have:=rE q (n+3-q.sz);rwa [show n+3-q.sz+q.sz+1=n+4 by omega] at this
theorem okw(n:Nat){m:Nat}{w:Way}(o:qX m w):okE (n+33) w.d=true:=
 ok3 (okc n _ o.gs) (okT λp B=>ok2 rfl (oks (n+26) p.2 (o.ps p B).sz)) rfl
theorem okt(n:Nat)(s:List Int):okE (n+2) (aB s)=true:=okT λ_ _=>rfl
theorem okp(n:Nat)(p:Pr):okE (n+3) (bH p)=true:=ok2 (okt n _) (okt n _)
section
variable {P:Pg} {cl:Caller} {σ:Sg}
theorem wV{es:Es}{vs:List Vl}{ds:List D}{f:Nat}{d:D}{fr:Bool}(h:evs P cl σ es=.ok vs)(hd:vs.map (·.d)=ds)(B:cl f ds=.ok (d,fr,false)):ev P cl σ (.call f es)=.ok ⟨d,fr,false,[]⟩:=by rw[fM,h,aA,hd,B];rfl
noncomputable def LS(s:Sl)(ds:List D):Prop:=s=.own false ds\/s=.sh false (.lst ds)
theorem LS.frz{s:Sl}{ds:List D}(h:LS s ds):LS s.freeze ds:=by rcases h with rfl|rfl <;> exact .inr rfl
theorem aCL(i:Nat){s:Sl}{ds:List D}(h:LS s ds)(hi:σ[i]? = some s):∃al,(al=[]\/al=[i])/\ev P cl σ (.v i)=.ok ⟨.lst ds,false,false,al⟩:=by rcases h with rfl|rfl;exact⟨[i],.inr rfl,cD i hi⟩;exact⟨[],.inl rfl,aH i hi⟩
theorem rS{i:Nat}{ds:List D}(h:σ[i]? = some (.own false ds))(n:noLs ds=true):ev P cl σ (.bi .list (eL1 (.v i)))=.ok ⟨.lst ds,true,false,[]⟩:=fP (cD i h) (by
 show R.ok (⟨.lst ds,true,false&&!noLs ds,if noLs ds then [] else [i]⟩:Vl)=_;rw[n];rfl)
theorem rT(i:Nat){s:Sl}{α:Type}{f:α->List D}{xs:List α}(h:LS s (xs.map λx=>.lst (f x)))(hi:σ[i]? = some s)(U:∀x,noLs (f x)=true)(hl:xs.length<=1000):∃al,(al=[]\/al=[i])/\ev P cl σ (.comp 1 [] (.n 0) (.seq (.v i)) .nil (.bi .list (eL1 eV0)))=.ok ⟨.lst (xs.map λx=>.lst (f x)),true,false,al⟩:=by
 obtain⟨al,ha,e⟩:=aCL i h hi;have Z:walk P cl σ (.seq (.v i))=.ok (xs.map (λx=>(⟨.lst (f x),false,false,al⟩:Vl)),al):=by rw[cG,e,aA];show R.ok (items _ _,al)=_;unfold items;rw[A7];rfl
 have G:∀B:List α,cN (λx=>do
  let σ1<-bP (Aj 1 Sl.dead++([]:List Nat).map λi=>((freeze σ al)[i]?).getD .dead) x (.n 0)
  let k<-tsts P cl σ1 .nil
  if k then do let y<-ev P cl σ1 (.bi .list (eL1 eV0));.ok (some y) else .ok none) (B.map λx=>(⟨.lst (f x),false,false,al⟩:Vl))=.ok (B.map λx=>(⟨.lst (f x),true,false,[]⟩:Vl)):=by
  intro B
  induction B with
  | nil=>rfl|cons y B ih=>
   have L:ev P cl [.sh false (.lst (f y))] (.bi .list (eL1 eV0))=.ok ⟨.lst (f y),true,false,[]⟩:=fP (aH 0 rfl) (by
    show R.ok (⟨.lst (f y),true,false&&!noLs (f y),if noLs (f y) then [] else []⟩:Vl)=_;rw[U y];rfl)
   rw[mC,cN];show((ev P cl [.sh false (.lst (f y))] (.bi .list (eL1 eV0)) >>= λy=>R.ok (some y)) >>= λy=>cN _ _ >>= λB=>(match y with|some y=>R.ok (y::B)|none=>R.ok B))=_;rw[L,aA,aA,ih];rfl
 have M:ev P cl σ (.comp 1 [] (.n 0) (.seq (.v i)) .nil (.bi .list (eL1 eV0)))=.ok (fB 1 [] al (xs.map λx=>(⟨.lst (f x),true,false,[]⟩:Vl))):=by rw[mE,Z,aA];refine(congrArg (λz:R (List Vl)=>z >>= λvs=>R.iff (decide (vs.length<=lim)) (R.ok (fB 1 [] al vs))) (G xs)).trans ?_;show R.iff (decide ((xs.map λx=>(⟨.lst (f x),true,false,[]⟩:Vl)).length<=lim)) _=_;rw[Av (by rw[lM];unfold lim;omega),yZ]
 rw[M];have I:=aCs 1 [] (λx=>D.lst (f x)) xs;unfold fB at I ⊢;grind
end
section
variable {t:List Int} {c:Cx0} {pp:Pp}
abbrev hdL(c:Cx0):List D:=[.lst (bY c.h),.lst (c.pr.map bH),.lst (cR c.ot),.lst (c.nt.map Cn.d)]
abbrev V(ns:List Int)(x:Int)(t:List Int)(k6:Int)(c:Cx0)(s5 s8 s10 s12 s13 s14 s15 s16:Sl):Sg:=W ns x t s5 k6 c.pr s8 (.own false (c.nt.map Cn.d)) s10 (.sh false c.bg.d) s12 s13 s14 s15 s16
theorem aRh(o:Ok t c):okE 120 (.lst (hdL c))=true:=by show(okE 119 _&&(okE 119 _&&(okE 119 _&&(okE 119 _&&true))))=true;rw[(okL λws B=>okL λw I=>okw 84 ((o.h.ok ws B).ok w I).1),(okL λp _=>okp 115 p),(okL λps _=>okL λp _=>okp 114 p),(okL λq G=>okc 86 q (o.nt q G).2)];rfl
theorem aPf:okE 120 (.lst (cE pp))=true:=okL λl _=>okL λs _=>okt 116 s
theorem aGP{P:Pg}{cl:Caller}{σ:Sg}{i:Nat}{e:E}{ds:List D}{al:List Nat}(h:ev P cl σ e=.ok ⟨.lst ds,true,false,al⟩):ex P cl σ (.set (.n i) e)=.next ((freeze σ al).set i (.own false ds)):=by rw[nG,h];rfl
abbrev tB:Ss:=match hdS (drp 12 f32.body) with|.for _ _ b=>b|_=>.nil
theorem aGQ(n:Nat)(ns:List Int)(x k6:Int)(o:Ok t c)(q:POk t c pp){s5 s8 L:Sl}(h5:LS s5 (bY c.h))(h8:LS s8 (cR c.ot))(q4:LS L (cE pp)){i:Nat}(hi:i<3)(B q1 M G:Sl) :
 ∃(p2:Pp) (z5 z8 q8 z0 z1 z2:Sl),POk t c p2/\LS z5 (bY c.h)/\LS z8 (cR c.ot)/\LS q8 (cE p2)/\exs pg (call pg (n+36)) (V ns x t k6 c s5 s8 B L (.sh false (.int i)) q1 M G) tB=.next (V ns x t k6 c z5 z8 B q8 (.sh false (.int i)) z0 z1 z2):=by
 let C:=call pg (n+36)
 let U:=V ns x t k6 c
 let I:Sl:=.sh false (.int i)
 obtain⟨a5,w9,e5⟩:=rT (σ:=U s5 s8 B L I q1 M G) 5 h5 rfl aDK (by have:=o.few;omega);obtain⟨a8,q7,e8⟩:=rT (σ:=U s5 s8 B L I q1 M G) 8 h8 rfl (λps=>cC rK ps) o.lim.few;have w4:ev pg C (U s5 s8 B L I q1 M G) (match hdS tB with|.set _ e=>e|_=>.c .non)=.ok ⟨.lst (hdL c),true,false,a5++a8⟩:=by show(evs pg C (U s5 s8 B L I q1 M G) (.cons _ (.cons _ (.cons _ (.cons _ .nil)))) >>= λvs=>R.ok (aBz vs))=_;rw[aE,e5,aA,aE,(rS rfl (cC rK c.pr)),aA,aE,e8,aA,aE,(rS rfl (cC Cn.noL c.nt)),aA,bW];show R.ok (⟨.lst (hdL c),true,false,a5++([]++(a8++([]++[])))⟩:Vl)=_;rw[C2,C2,Bd]
 obtain⟨y5,y8,g5,g8,kA⟩:∃y5 y8,LS y5 (bY c.h)/\LS y8 (cR c.ot)/\ex pg C (U s5 s8 B L I q1 M G) (hdS tB)=.next (U y5 y8 B L I (.own false (hdL c)) M G):=by have:=aGP (i:=14) w4;rcases w9 with rfl|rfl;rcases q7 with rfl|rfl;exact⟨s5,s8,h5,h8,this⟩;exact⟨s5,s8.freeze,h5,h8.frz,this⟩;rcases q7 with rfl|rfl;exact⟨s5.freeze,s8,h5.frz,h8,this⟩;exact⟨s5.freeze,s8.freeze,h5.frz,h8.frz,this⟩
 let Z:Sl:=.own false (hdL c)
 obtain⟨z3,q6,w3⟩:=rT (σ:=U y5 y8 B L I Z M G) 12 q4 rfl (λl=>cC aG l) (by have:=q.len;have:=o.few;omega);obtain⟨q0,w8,kB⟩:∃q0,LS q0 (cE pp)/\ex pg C (U y5 y8 B L I Z M G) (hdS (drp 1 tB))=.next (U y5 y8 B q0 I Z (.own false (cE pp)) G):=by have:=aGP (i:=15) w3;rcases q6 with rfl|rfl;exact⟨L,q4,this⟩;exact⟨L.freeze,q4.frz,this⟩
 let q3:Sl:=.own false (cE pp)
 let q9:Sl:=.sh false (fF (nK c pp))
 have ix:∀(k:Nat) (j:Int) (d:D),j=(k:Int)->(hdL c)[k]? = some d->ev pg C (U y5 y8 B q0 I Z q3 G) (.idx rZ (.c (.int j)))=.ok (Vl.sub ⟨.lst (hdL c),false,false,[14]⟩ d):=λk j d hj hd=>by rw[hj];exact bM (cD 14 rfl) (aI _) (rA (f:=id) rfl hd)
 have w5:ev pg C (U y5 y8 B q0 I Z q3 G) (match hdS (drp 2 tB) with|.set _ e=>e|_=>.c .non)=.ok (.cl (fF (nK c pp))):=by
  have hv:evs pg C (U y5 y8 B q0 I Z q3 G) (eL7 (.bi .list (eL1 eV3)) (.idx rZ eC0) (.idx rZ eC1) (.idx rZ eC2) (.idx rZ eC3) aAZ aLR)=.ok [⟨.lst (aN (bsO t)),true,false,[]⟩,⟨.lst (bY c.h),false,false,[14]⟩,⟨.lst (c.pr.map bH),false,false,[14]⟩,⟨.lst (cR c.ot),false,false,[14]⟩,⟨.lst (c.nt.map Cn.d),false,false,[14]⟩,.cl c.bg.d,⟨.lst (cE pp),false,false,[15]⟩]:=by rw[aE,(rS rfl (cC (λ_=>rfl) (bsO t))),aA,aE,ix 0 0 _ rfl rfl,aA,aE,ix 1 1 _ rfl rfl,aA,aE,ix 2 2 _ rfl rfl,aA,aE,ix 3 3 _ rfl rfl,aA,aE,aH 11 rfl,aA,aE,cD 15 rfl,aA,bW];rfl
  have lr:=aBm n o q;rw[o.bs] at lr;exact wV hv rfl lr
 let σ:=U y5 y8 B q0 I Z q3 q9
 obtain⟨b5,_,f5⟩:=aCL (σ:=σ) 5 g5 rfl;obtain⟨b8,_,f8⟩:=aCL (σ:=σ) 8 g8 rfl;obtain⟨q5,_,f12⟩:=aCL (σ:=σ) 12 w8 rfl;have f4:=cD (P:=pg) (cl:=C) (σ:=σ) 4 rfl;have f7:=cD (P:=pg) (cl:=C) (σ:=σ) 7 rfl;have f9:=cD (P:=pg) (cl:=C) (σ:=σ) 9 rfl;have ed:ev pg C σ (.call 28 (eL8 eV3 eV4 eV5 eV7 eV8 eV9 aAZ aBa))=.ok (.cl (fF (nK c pp))):=by
  have hv:evs pg C σ (eL8 eV3 eV4 eV5 eV7 eV8 eV9 aAZ aBa)=.ok [⟨.lst (aN (bsO t)),false,false,[3]⟩,⟨.lst ((ssO t).map aB),false,false,[4]⟩,⟨.lst (bY c.h),false,false,b5⟩,⟨.lst (c.pr.map bH),false,false,[7]⟩,⟨.lst (cR c.ot),false,false,b8⟩,⟨.lst (c.nt.map Cn.d),false,false,[9]⟩,.cl c.bg.d,⟨.lst (cE pp),false,false,q5⟩]:=by rw[aE,(cD 3 rfl),aA,aE,f4,aA,aE,f5,aA,aE,f7,aA,aE,f8,aA,aE,f9,aA,aE,(aH 11 rfl),aA,aE,f12,aA,bW];rfl
  have dr:=aIL (n+2) o q;rw[o.bs] at dr;exact wV hv rfl dr
 have el:ev pg C σ (.lst (eL4 eV5 eV7 eV8 eV9))=.ok (aBz [⟨.lst (bY c.h),false,false,b5⟩,⟨.lst (c.pr.map bH),false,false,[7]⟩,⟨.lst (cR c.ot),false,false,b8⟩,⟨.lst (c.nt.map Cn.d),false,false,[9]⟩]):=by simp_all
 obtain⟨p2,q2,w6⟩:=zU (n+35) o q (eM ns (50+i)) ((i:Int)==0);have ea:ev pg C σ (.op .Add aLP aDJ)=.ok (.cl (.int ((50+i:Nat):Int))):=(dG (aI (.int 50)) (aH 13 rfl)).trans (by rw[show(50:Int)+(i:Int)=((50+i:Nat):Int) by omega]);have w7:ev pg C σ (.cmp .Eq aDJ eC0)=.ok (.cl (.bl ((i:Int)==0))):=tZ (aH 13 rfl) (aI _) (oT _ _);have eg:ev pg C σ (match hdS (drp 5 tB) with|.set _ e=>e|_=>.c .non)=.ok ⟨.lst (cE p2),true,false,[]⟩:=by
  have hv:evs pg C σ (eL4 aBa eV4 (.call 17 (eL2 eV0 (.op .Add aLP aDJ))) (.cmp .Eq aDJ eC0))=.ok [⟨.lst (cE pp),false,false,q5⟩,⟨.lst ((ssO t).map aB),false,false,[4]⟩,.cl (.int (eM ns (50+i))),.cl (.bl ((i:Int)==0))]:=by rw[aE,f12,aA,aE,f4,aA,aE,(aW (aM 0 rfl) ea (dH (n+34) ns (by omega))),aA,aE,w7,aA,bW];rfl
  exact wV hv rfl w6
 exact⟨p2,y5,y8,.own false (cE p2),_,_,_,q2,g5,g8,.inl rfl,cs kA (cs kB (cs (bL w5) (cs (aZ (fZ (wU (aH 16 rfl) ed (aGM (n+35) λd hd=>aMg hd)))) (cs (aZ (iA (bZ (cD 14 rfl) el (aGk (mK 120 _ (aRh o)))) (bZ (cD 15 rfl) f12 (aGk (mK 120 _ aPf))))) (bU (eT eg))))))⟩
end
theorem aIN(n:Nat)(ns:List Int):call pg (n+37) 32 [.lst (ns.map D.int)]=.ok (.bl true,false,false):=by
 refine aK rfl rfl (v:=.cl (.bl true)) ?_;obtain⟨x,Z,t,h,pr,ht,h1,h2,hp,q1⟩:=aPd n ns;refine q1 _ ?_;obtain⟨c,pp,M,o,q,rfl,rfl,q4⟩:=aPe n ns x Z ht h1 h2 hp;refine q4 _ ?_;have hw:walk pg (call pg (n+36)) (V ns x t Z c (.own false (bY c.h)) (.own false (cR c.ot)) M (.own false (cE pp)) .dead .dead .dead .dead) (.rng eC0 eC3)=.ok ((Au 3).map (λ(k:Nat)=>Vl.cl (.int (k:Int))),[]):=eO (aI _) (by decide);obtain⟨σ',e1,s5,s8,B,U,G,I,L,p2,_,_,_,_,rfl⟩:=fE (t:=.n 13) (λ_ σ=>∃(s5 s8 B U G I L:Sl) (p2:Pp),POk t c p2/\LS s5 (bY c.h)/\LS s8 (cR c.ot)/\LS B (cE p2)/\σ=V ns x t Z c s5 s8 M B U G I L) hw ⟨_,_,_,_,_,_,_,pp,q,.inl rfl,.inl rfl,.inl rfl,rfl⟩ (λi hi σ ⟨s5,s8,B,U,G,I,L,p2,q2,g5,g8,q0,q6⟩=>by
  have q5:i<3:=by simpa using hi
  subst q6;obtain⟨p3,z5,z8,q8,q9,w3,w4,q3,j5,j8,q7,e⟩:=aGQ n ns x Z o q2 g5 g8 q0 q5 M G I L;exact⟨_,_,by rw[Bs,BQ];exact dF _,e,z5,z8,q8,_,q9,w3,w4,p3,q3,j5,j8,q7,rfl⟩)
 exact cs e1 (aS (aI _))
theorem pure(ns:List Int)(B:ns.length<=63):∃fr pa,call pg 60 32 [.lst (ns.map D.int)]=.ok (.bl true,fr,pa):=⟨false,false,aIN 23 ns⟩
end K35
noncomputable section
set_option maxRecDepth 100000
set_option maxHeartbeats 0
namespace K35
open PySem PySem.W L2 Hp Hh
noncomputable def ix:List (Nat×List Str):=(10,["one", "ahead", "behind", "word", "left", "right"]) ::
 (11,["cond", "ahead", "behind", "word", "left", "right"]) ::
 (17,["boxes", "way", "stand", "held", "box", "one", "amount"]) ::
 (4,["thing"]) ::
 (5,["thing", "least", "most"]) ::
 (7,["boxes", "found", "name", "top", "longer", "begun"]) ::
 (8,["boxes", "thing"]) ::
 (12,["boxes", "cond"]) ::
 (18,["hand", "place"]) ::
 (20,["hand"]) ::
 (23,["steps", "found", "stand", "further"]) ::
 (24,["boxes", "hand", "promise", "others", "notes", "begin", "paper"]) ::
 (25,["duty", "begin", "paper", "start", "place", "listed", "stand", "found"]) ::
 (26,["duty", "paper", "listed"]) ::
 (27,["boxes", "listed"]) ::
 (28,["duty", "paper", "place", "stand", "way", "next_place", "further", "number"]) ::
 (30,["_law_cell_here", "_law_k", "_law_number"]) ::
 (31,["_law_script", "_law_k"]) ::
 (32,["_law_boxes", "_law_found", "_law_name", "_law_top", "_law_longer", "_law_stand", "_law_number"]) ::
 (33,["_law_cell_here", "_law_many", "_law_box", "_law_other", "_law_some"]) ::
 (34,["_law_cell_here", "_law_many", "_law_one", "_law_other", "_law_plain"]) ::
 (35,["_law_cell_here", "_law_many", "_law_places", "_law_puts", "_law_k", "_law_guard"]) ::
 (36,["_law_script", "_law_many", "_law_rows", "_law_hand_here", "_law_k", "_law_row", "_law_j"]) ::
 (37,["_law_cell_here", "_law_every", "_law_kind", "_law_steps_here", "_law_one", "_law_other", "_law_unlike", "_law_number"]) ::
 (38,["_law_one", "_law_stand", "_law_left", "_law_right"]) ::
 (39,["_law_cond_here", "_law_stand", "_law_left", "_law_right"]) ::
 (40,["_law_boxes", "_law_way_here", "_law_stand", "_law_after", "_law_box", "_law_one"]) ::
 (41,["_law_boxes", "_law_hand_here", "_law_promise", "_law_others", "_law_notes", "_law_paper", "_law_place", "_law_stand", "_law_ways", "_law_k", "_law_after", "_law_ahead"]) ::
 (42,["_law_boxes", "_law_every", "_law_hand_here", "_law_promise", "_law_others", "_law_notes", "_law_begin", "_law_paper", "_law_stand", "_law_place", "_law_found"]) ::
 (43,["_law_cell_here", "_law_every"]) ::
 (44,["_law_found", "_law_due_here", "_law_part"]) ::
 (45,["_law_paper", "_law_every", "_law_cell_here", "_law_more", "_law_built", "_law_place", "_law_stand"]) ::
 (46,["_law_script", "_law_cell_here", "_law_tops", "_law_boxes", "_law_every", "_law_hand_here", "_law_kind", "_law_promise", "_law_others", "_law_notes", "_law_k", "_law_begin", "_law_paper", "_law_turn", "_law_handed", "_law_asked", "_law_found"])::[]
noncomputable def sn:Sn:=⟨[("GUARD",(.int 0)),("PUTS",(.int 1)),("NEXT",(.int 2))],[],[(22,["boxes", "hand", "promised", "others", "notes"],[(0,33,["self", "boxes", "hand", "promise", "others", "notes"]),(1,34,["self", "place", "stand"]),(2,35,["self", "stand", "further"]),(3,36,["self", "place", "stand", "found", "number", "way", "further"]),(4,37,["self", "stand", "found", "number", "steps"])])]⟩
abbrev pw:=EC
theorem chk:nE ⟨[],[],(ix.map (jQ pw)).map (·.x),sn.cns,[],true,sn.tbs.map (·.1),sn.obs.map λo=>dJ (gC pw o.1)⟩ pg.fns (ix.map (jQ pw)++(mts sn).map (qP pw))=true:=by decide +kernel
abbrev Lq(w:AL)(os:ID):Prop:=aOA pw (tY pw) (vS pw) (λs=>jH pw sn s.heap) 100000 w os=some (true,Ki (tY pw) (vS pw),nF pw sn w)
theorem lf1(os:ID)(w:AL):Lq (w.withFollow "special-get-raises" false) os:=by kernel_rfl
theorem lf2(os:ID)(w:AL):Lq (w.withFollow "special-get-raises" true) os:=by kernel_rfl
theorem lft:KZ pw (tY pw) (vS pw) (λ_=>true) (λs=>jH pw sn s.heap) (λw=>nF pw sn w) 100000:=aLw (by kernel_rfl) rfl (λ_=>by kernel_rfl) λw os=>byRow2 "special-get-raises" (P:=λw=>Lq w os) (lf1 os) (lf2 os) w
abbrev rr:=Cu
theorem w0:looksOpen rr.row.prog=true:=by kernel_rfl
theorem w1:rr.row.wellSaid=true:=by unfold OpenRow.wellSaid OpenRow.partSaid;rw[w0];kernel_rfl
theorem ws:rr.wellSaid=true:=by unfold OpenLaw.wellSaid;rw[w1];kernel_rfl
end K35
end
noncomputable section
open PySem PySem.W PyProof.Rows Hh
set_option maxRecDepth 100000 in
set_option maxHeartbeats 0 in
theorem PySem.Challenge.cw_handpromise_k35_the_first_break_holds : PySem.Challenge.rw_handpromise_k35_the_first_break.Holds := by
 refine holds_law K35.ws λ said => ?_;refine aLB (l := Cu) (k := 59) (f := 32) (x := "_law_script") (sl := ["_law_cell_here", "_law_tops", "_law_boxes", "_law_every", "_law_hand_here", "_law_kind", "_law_promise", "_law_others", "_law_notes", "_law_k", "_law_begin", "_law_paper", "_law_turn", "_law_handed", "_law_asked", "_law_found"]) said K35.lft (by kernel_rfl) (by kernel_rfl) rfl rfl (by decide +kernel) ⟨rfl, rfl, rfl, rfl, rfl, by decide +kernel⟩ ?hw rfl rfl (by decide +kernel) (by decide +kernel) K35.chk rfl (by decide +kernel) (by kernel_rfl) (by decide +kernel) (by decide +kernel) ⟨rfl, rfl, by decide, by decide⟩ (by kernel_rfl) rfl K35.pure
 w_witness2
end
