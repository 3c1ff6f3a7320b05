import PyProof.Rows.All
import Wide.All
import OpenK.AllK
import Wide.FinOn
import Lean
import PyProof.EqAt
import PyProof.EqKinds
import PyProof.TupleCall
import PyProof.FactsAll.tuple_2
import PyProof.TupleKey
import PyProof.DictRoadsH
import PyProof.Rows.TupTab
import PySem.Syntax
import PySem.Builtin.Str.Common
import PyProof.ReprReads
import PyProof.StrLaws
import PyProof.NeKinds
import KE.KIsAll
import PyProof.RaisesMany
import OpenK.KOwn
import PyProof.RulesDel
import PyProof.RulesAs
import PyProof.ExcArgsOwn
import PyProof.ExcAttrAll.ValueError
import PyProof.Rows.SetFrom
import PyProof.SetRoads
import PyProof.ZipIter
import PyProof.StrWalks
import PyProof.EnumFor
import PyProof.EnumStmt
import PyProof.CollectIter
import KE.KSortTup
import PyProof.Rows.SortWalk
import PyProof.Rows.FactsT3
import PyProof.ListNew
import PyProof.AutoListH
import PySem.Challenge.RW_handpromise_k39_no_papers
set_option genSizeOf false
set_option compiler.extract_closed false
set_option compiler.postponeCompile true
set_option genInjectivity false
set_option bootstrap.genMatcherCode false
set_option Elab.async false
set_option linter.all false
noncomputable section
open PySem renaming wpAny_bind->Aa,Shared->Ad,wpAny_pure->Af,wpAny->Ap,Expr->Av,Program->A0,model->A2,starEach->A6,mainGlobals->AB,World->AH,sizeLine_eq->AS,wpAny_field->AT,wpAny_setField_rec->AU,Around->AV,wpAny_callSpecial?_slot->Bj,wpAny_newObj_type->Bm,wpAny_call_entry->Bs,wpAny_Call_Name_kw->Bv,mem_of_lookup->B0,bootBuiltins->B4,wpAny_holding->BA,rawInt->BD,wpAny_seqItems->BI,backTo->BQ,Stmt->BR,wpAny_truthy_bool->BU,foldedSetIterable->BV,wpAny_setState_of->BX,eval->Cc,NameKind->Cm,codeAny_builtin->Cr,FuncData->Cs,IsPair->Cw,wpAny_mono->Cy,Builtin->C4,compareOp->C9,Pos->CF,sysModules->CH,assignEach->CY,Scope->Da,pyNext->Dd,builtinLookup_eq_fast->Df,wpAny_pyIter_list->Dg,codeAny->Dh,ofAClassStatement->Dj,keywordEach->Dm,codeAny_mono->Ds,wpAny_isInstance->Dt,wpAny_askSetting->Du,wpAny_attempt->D5,plainId_quiet->D6,wpAny_passesOwn->D8,sliceBounds->DF,binaryOp->DH,wpAny_Call_method_late->DJ,wpAny_setField->DO,wpAny_loadPart_at->DP,carriedByValue->DQ,wpAny_rule->DW,intKind->Eg,attributeBase->Eh,wpAny_onRaise->Ei,wpAny_updateSeq_pair->El,wpAny_execs_nil->Eo,letOwnedTupleGo->Ep,wpAny_specialOf->Ez,typeLookup_type->EA,atKey->EC,wpAny_setEntries_of->EE,wpAny_typeOf->EI,DictEntry->EM,GenState->EN,backToKw->ES,firstArgMember->EW,IsZip->EX,spliced->Fh,Keyword->Fk,wpAny_letGo->Fm,wpAny_comprehension_free->Fu,PassesOwn->Fz,noFill_tuple_add->F0,checkBuiltinCall->F5,wpAny_forIn_list->F9,builtinsNs->FI,assign->FJ,holding->FK,concat_meets->FN,call_meets->FP,callerA->FQ,valueAt->FR,IsEnum->FT,importedModules->Gg,wpAny_eqIsQuiet_tuple->Gk,dictSetDefault->Gp,wpAny_setFlight_none->Gr,unbindBehindTheSuite->Gs,codeAny_call_builtin->Gu,field->Gv,wpAny_newTuple->Gy,isSubtype_stop->Gz,hashByValue->G0,isSubtype_type->G1,swapsWith->G3,Arguments->G5,noteFrame->G6,setFlight->G7,OsState->G8,wpAny_isSubtype_exc->GC,Env->GG,wpAny_standAt->GH,behindInMarks->GI,seq_tuple_add->GK,setSearchFrom->GM,Paired->GR,Result->GS,wpAny_call->GU,IsPart->GV,wpAny_pyIter_tuple->GX,Within->Hg,wpAny_assign_Name->Hi,standAt->Hj,seqIndex_neg->Hq,slot_list_getitem->Hr,list_append->Hs,ZipApart->Hx,wpAny_pyIter_enum->Hz,searchCouldBeSeen->H9,wpAny_storeSet_of->HB,wpAny_pyIter_slot->HD,wpAny_eqBool_int->HJ,tupleKind->HK,wpAny_execs_cons->HL,getMethod->HN,wpAny_pyIter_zip->HW,IsEnumOut->HX,treeTable->HY,Model->Ic,seqIndex_of->Ig,excClassObj->Ih,wpAny_of_eq->Ii,codeAny_of_tree->Iq,wpAny_updateSeq->Iv,getItem->Iy,relabel->IA,wpAny_Name->IB,pyIter->IC,wpAny_loadPart->IF,recursionLimit->IG,bindArgs->IH,bindL->II,bindC->IJ,typeLookup->IN,Params->IP,call->IQ,methodCallForm->IS,wpAny_runValue->IW,entryFor_alias->IX,setsByText->IY,wpAny_fieldsOf->IZ,ItemsAre->Ja,Thread->Jc,intBits_le_64->Jj,evalPart_none->Jk,call_list_seq->Jn,wpAny_handled->Jp,wpAny_newList->Jw,fenceModules?->Jx,lastMarks->J0,cellsFrom->J1,seqIndex?->J3,seqItems?->J4,BindsTo->J8,leaving->J9,call_meetsIn->JA,callType_new->JB,setAddHashed->JD,setNext->JE,denote->JI,interactive->JQ,IsRangeIter->JR,subscripted->JW,compEnvC->Ka,setField->Kb,newTuple->Kd,wpAny_throw->Ke,entryFor->Kf,slotArgs->Kg,Sem->Ko,BoolOp->Ku,newExc->Kw,argsOk->Kz,hashStr->K1,getAttr->K2,newList->K6,Fin->KP,Drawn->KT
open PySem.Heap renaming get?_push_of_some->Ab,lt_size->Am,get?_push_size->Aq,get?_update_other->AE,size_push->Bf,get?_update_self->Bg,SameBut->Bq,get?_update_ne->EF,ExtBut->Gw
open List renaming getElem?_eq_getElem->Ac,mem_cons_of_mem->Ae,replicate->Ag,getElem?_set_ne->Ah,getElem?_eq_some_iff->Ai,mem_cons_self->Aj,getElem?_map->Ak,size_toArray->Al,mem_cons->Ao,getElem?_set_self->Ar,getElem?_append_left->Aw,getElem?_append_right->Ax,length_set->Ay,mem_singleton->A3,length_replicate->A4,getElem?_replicate->A7,all_eq_true->A9,mem_map->AA,mem_append_right->AC,range->AD,nodup_cons->AG,length_take->AI,getD_eq_getElem?_getD->AJ,mem_append_left->AK,mem_range->AQ,map_map->Bb,lookup->Bl,length_range->Bp,getElem_mem->Bt,mem_append->Bx,mem_iff_getElem?->B3,map_inj_left->B6,zip_cons_cons->B9,append_nil->BB,mem_filterMap->BK,length_drop->BO,filterMap_cons->BY,getElem?_eq_none->Ce,getElem_map->Ch,map_append->Cp,getElem?_take->C0,pairwise_cons->C3,getElem?_toArray->C6,getElem?_of_mem->CC,map_congr_left->CN,take_of_length_le->CZ,pairwise_map->Di,length_cons->Dr,getElem?_zip_eq_some->Dy,mem_filter->D7,length_append->DC,getElem?_drop->DD,reverse_cons->DL,nodup_append->DM,getElem?_inj->DS,length_singleton->DT,any_eq_true->DX,not_mem_nil->DY,drop_length->Eb,isEmpty_nil->Ef,mem_of_mem_take->Em,length_map->Er,of_mem_zip->Et,foldl_cons->Ex,getElem?_range->ED,set_set->EL,nodup_nil->EU,getElem_range->Fc,drop_eq_getElem_cons->Fd,pairwise_iff_getElem->Fe,any_eq_false->Fi,length->Fl,map_id->Fp,all_cons->Fq,length_eq_zero_iff->F3,lookup_cons->F4,nodup_range->F7,pairwise_singleton->FB,take_length->FD,pairwise_lt_range->FV,getElem?_eraseIdx->FY,forIn_cons->Gb,find?_cons->Gc,nil_append->Ge,forIn_nil->Gx,toList_toArray->GD,map_cons->GJ,map_replicate->Hf,take_sublist->Ho,append_assoc->H0,ext_getElem?->HE,mem_flatMap->HR,zipIdx_cons->HU,zipIdx_nil->Io,take_succ->IU,any_cons->Jo,map_take->Js,map_drop->Jt,Nodup->Kx,map->KY
open PySem.W renaming Frag->An,nsIn->Br,findIn->B7,emptyDict->BG,boot_heap->Cg,excIn->Ci,instObj->Co,kia_one->Cq,keepIn->CO,kitOne->CP,callWith_K->DB,plainGet->DU,findIn->DZ,plainGet_of->EB,lookIn->EQ,methodObj->Ff,hasDictIn->Fj,cellsFrom_some->FL,fnOf->FM,takerIn->FZ,SharedT->G9,boot_drawn->Ha,isFn->Hk,plainOver->Hl,looks_findIn->Hw,handedIn->HM,boot_toks->HZ,makesIn->Il,OpenLaw->Ix,InstAt->IE,codeIn->IK,kitAny->IT,namesBound->Jd,staticsOk->J6,kas_rev->JH,stepOk->JJ,keepIn->JL,gensDone->Kh,laidKept->Ki,openGood->Kj,OpenLaw->K5,mroIn->K8,subIn->K9,through->KG,stepT->KH,topStub->KI,topFrom->KJ,LeftO->KZ,nsIn->La
open Nat renaming le_refl->As,ne_of_lt->Az,lt_of_lt_of_le->A8,lt_irrefl->AN,zero_le->AW,le_trans->AX,lt_or_ge->Bh,add_sub_cancel_left->Bu,lt_succ_self->Bz,ne_of_gt->BC,lt_succ_of_lt->BH,not_lt_zero->Ca,succ_pos->Cj,le_add_right->CQ,le_succ->CW,not_lt->Dp,le_of_lt->DG,le_succ_of_le->DN,succ_le_succ->DV,mod_lt->Ee,lt_trans->EJ,lt_trichotomy->Fo,succ_lt_succ->FF,lt_of_sub_eq_succ->Gn,lt_of_le_of_lt->GY,min_eq_left->Ip,le_of_eq->J7,sub_zero->JG,succ->KU
open Option.some renaming inj->Au,injEq->CB
open Option renaming map_eq_some_iff->A1,isSome_iff_exists->CI,map_some->Dc,getD_none->F1,getD_some->HS,none->JZ
open PySem.Value renaming ref->A5,none->AZ,type->CG,bool->DA,builtin->Ej,int->G2,str->HI,isInt->Ia,isStrOf->Jh,bytes->JO,float->JP
open Array renaming getD_eq_getD_getElem?->AF,getElem?_eq_some_iff->AL,length_toList->AM,getElem?_eq_getElem->Bk,getElem?_toList->B2,replicate->Ey,getElem?_eq_none_iff->EY,perm_iff_toList_perm->EZ,toList_inj->FA,forIn_toList->GZ,mk->Je
open PySem.Builtin.SmallTypes renaming nextOf->AO,ownedTupleIsFree->Bc,ownedTupleHandOut->BF
open PySem.NameKind renaming free->AY
open PyProof.Rows renaming callWith_type1->Ba,callWith_builtin1->Cf,slot_tuple_getitem->CL,seqObj->CU,listUpdate_at->Ek,AllBare->EH,subscriptTail_builtinR->FO,get?_update_seq->Gf,seqEpoch_at->Ij,IntsAre->Iz,slicePart_none->IL,subscriptTail->Jl,Call_->JT,TupTab->Kk,tuples'->KC
open PySem.Obj renaming mapSeq->B1,data_mapFields->B8,isFreed_of_fields->C5,mapFields->D4,data_mapDictKeys->Gq,cls_mapFields->Hv,putSet->Ky
open PySem.Builtin.List renaming listExtendWith->B5,listSameRef->CK,listLengthHint->Dk,listTooLong->D3,listFitsIndex->Fa,listUpdate->FC,listItems->FW,listTouch->JF
open PySem.Heap.SameBut renaming update->BE,refl->KB
open False renaming elim->BJ
open PySem.Calls renaming spliced_cons->BL,spliced_nil->CA,evalArgs_plain->Dn,callWith_builtin->DK,Name_function_global->EO
open Int renaming emod_lt_of_pos->BM,toNat_natCast->BW,emod_nonneg->Cb,toNat_of_nonneg->EG,natCast_nonneg->Fb,eq_ofNat_of_zero_le->FG,zero_add->JC,mul_one->JS
open PySem.F renaming called_set->BN,plainAttrs_list->Cn,slot_tuple_iterator_next->Cz,plain_extend_loop->CM,slot_enumerate_next->De,args_tuple_add_2->D2,entry_tuple_add->DE,slot_tuple_add->DI,slot_dict_setdefault->Eu,args_tuple_iterator_next_1->Ev,slot_zip_next->Ew,entry_tuple_iterator_next->EK,excBase_ValueError->EV,slot_list_append->Fw,type_list_append->Fx,slot_list_insert->Fy,plainAttrs_dict->F2,args_enumerate_next_1->F6,entry_enumerate_next->FU,slot_dict_get->Gh,typeOf_object_class->Gi,attrBase_ValueError->Gj,slot_set_iter->Gm,args_list_append_2->Go,entry_list_append->GA,entry_extend_loop->GF,slot_list_append->GW,args_zip_next_1->Hy,plain_list_iadd->HF,entry_zip_next->HV,plain_set_new->Ir
open PySem.Around renaming under_plainId->BP,under->Hm
open Ne renaming symm->BS
open Bool renaming or_eq_true->BZ,not_eq_true'->CD,false_ne_true->D9,and_true->Ft,not_true->Fv,or_true->FS,eq_iff_iff->Ga,and_eq_true->HP,false_and->ID,not_false->Jb,or_false->Jm
open Sum renaming inr->Cd,inl->FH
open Prod.mk renaming injEq->Ck
open PyProof.Rows.F renaming plain_set_update_loop->Cu,entry_set_update_loop->D1
open PySem.Str renaming ofString->Cv,length->Ks,empty->KN
open PySem.Builtin.Slice renaming slicePlaces->C7,sliceAdjust->Dw,sliceApplied->ET,slicePartIndex->Im,sliceFields->Jf
open Classical renaming byContradiction->C8,choose->Dv,choose_spec->JN,not_not->KF
open PySem.Builtin.Tuple renaming tupleExact->CJ,tupleHashOf->HH,tupleItemsOf->IM,tupleHashOf->Jg
open PySem.AutoSeq1 renaming wpAny_loadPart'->CT,list_extend_list_list_0->Ht
open PySem.Challenge renaming rw_handpromise_k39_no_papers->CV,pw_handpromise_k39_no_papers->FE
open ForInStep renaming yield->Db
open True renaming intro->Dl
open PySem.SetTable renaming below->Dq,advance->Ec,fill->GL,insertAt->HA,slot->Jq,fits->Jr,sameMemory->Kl,gaveWay->KQ,tooFull->KR
open PySem.List renaming filterMap_getElem?_range_length->Dz
open List.Perm renaming refl->DR,append_left->JM,of_eq->KS,swap->KW
open List.Pairwise renaming filterMap->F8,nil->Hu
open PySem.AutoListH renaming list_insert_list_int_val_1->FX
open PySem.Data renaming cell->G4,fields->Ie,seq->JY
open PySem.EntryCells renaming newEntry->GB
open PySem.Shared renaming TypeIs->GN
open PySem.W.Fast renaming te10156331382660048174->GO,te11892475500146522536->GP,te14364793385576792824->GQ,te6613529449190102663->Hb,te4187177175401517315->Hd,te5923862056798008813->He,sEq->HG,sEq_iff->JK
open PySem.Code renaming isFrame->Hn,frames->JU
open PySem.pickOrder renaming go->HC
open PySem.IsL renaming update->HQ
open Sum.inr renaming inj->Ib
open PySem.StrLaws renaming seqIndex_nonneg->Ik
open PySem.Builtin.Frozenset renaming updateFrom->Iu,newClass->IV,addrOf->Ju,sizeOf->Jv,slot0->J5
open PySem.PassesOwn renaming never->Iw,looking->K7,leaving->KD
open PySem.Builtin.Dict renaming keyAndDefault->IR
open PySem.Paired renaming length->Ji
open List.cons renaming inj->Jy
open PySem.Builtin.Range renaming rangeSize->Jz
open PyProof.Rows.IsTup renaming new->J2
open Prod renaming ext->JV
open PySem.MeetsSeq renaming list_pop_at->JX
open PySem.SeqAt.EqAt renaming int_str->Km,str_int->Kn
open PySem.W.Looks renaming here->Kq
open PySem.Heap.IsSliceOf renaming new->Kr
open PySem.W.WShape renaming has->Kt
open PySem.Walks renaming list->Kv
open PySem.ScopeKind renaming function->K0
open PySem.Within renaming cons->K3
open PySem.Heap.Ns1 renaming of_empty->K4
open List.Sublist renaming refl->KL
open PySem.DictEntry renaming refKey->KM
open PySem.W.WData renaming int->KO
def AR:=@decide_eq_true
def Be:=@decide_eq_false
def Bo:=@decide_eq_true_eq
def Kc:=@decide_true
theorem nf{p:Prop}(h:false=true):p:=absurd h D9
noncomputable def gS:=@List.getElem?_cons_succ.{0}
noncomputable def gZ:=@List.getElem?_cons_zero.{0}
noncomputable def lZ:=@List.set_cons_zero.{0}
noncomputable def bF:=@Bool.false_eq_true
noncomputable def lC:=@List.length_cons.{0}
noncomputable def lN:=@List.length_nil.{0}
noncomputable def lA:=@List.length_append.{0}
noncomputable def mC:=@List.map_cons.{0,0}
noncomputable def mN:=@List.map_nil.{0,0}
noncomputable def lM:=@List.length_map.{0,0}
noncomputable def mG:=@List.mem_of_getElem?.{0}
noncomputable def bN:=@Bool.false_ne_true
noncomputable def bA:=@Bool.and_eq_true
noncomputable section
set_option maxRecDepth 100000
namespace L2
open PySem PySem.Spec PyProof.Rows
abbrev Key:=Sum Int Str
noncomputable def rK:Key->Value->Bool
 | .inl k,v=>Ia k v|.inr x,v=>Jh x v
noncomputable def aLQ(w:AH):Key->Int
 | .inl k=>hashInt k|.inr x=>K1 w x
theorem keyIs_shape:∀{k:Key} {v:Value},rK k v=true->(∃i t,k=FH i/\v=G2 i t)\/(∃x t,k=Cd x/\v=HI x t)
 | .inl i,v,h=>by obtain⟨t,e⟩:=Value.isInt_shape (k:=i) (v:=v) h;exact .inl ⟨i,t,rfl,e⟩|.inr x,v,h=>by obtain⟨t,e⟩:=Value.isStrOf_shape (x:=x) (v:=v) h;exact .inr ⟨x,t,rfl,e⟩
theorem zF(x:Str)(t:Tok):rK (.inr x) (.str x t)=true:=by simp[rK,Jh]
theorem aGg(a b:Int):decide ((FH a:Key)=FH b)=(a==b):=by by_cases e:a=b;subst e;simp;have h:¬ (FH a:Key)=FH b:=λq=>e (Sum.inl.inj q);rw[Be h];exact(beq_eq_false_iff_ne.mpr e).symm
theorem aGh(a b:Str):decide ((Cd a:Key)=Cd b)=decide (a=b):=by by_cases e:a=b;subst e;simp;have h:¬ (Cd a:Key)=Cd b:=λq=>e (Ib q);rw[Be h,Be e]
theorem aGi(a:Int)(b:Str):decide ((FH a:Key)=Cd b)=false:=Be (λq=>nomatch q)
theorem aGj(a:Str)(b:Int):decide ((Cd a:Key)=FH b)=false:=Be (λq=>nomatch q)
noncomputable def eJ(prog:A0)(w:AH):PySem.KeyKind prog w Key where
 is:=rK
 hash:=aLQ w
 inj:=λv a b ha hb=>by
  rcases keyIs_shape ha with⟨i,t,rfl,rfl⟩|⟨x,t,rfl,rfl⟩
  rcases keyIs_shape hb with⟨j,u,rfl,e⟩|⟨y,u,rfl,e⟩
  injection e with e1 _;rw[e1]
  exact nomatch e;rcases keyIs_shape hb with⟨j,u,rfl,e⟩|⟨y,u,rfl,e⟩
  exact nomatch e;injection e with e1 _;rw[e1]
 byValue:=λk v h=>by rcases keyIs_shape h with⟨i,t,rfl,rfl⟩|⟨x,t,rfl,rfl⟩ <;> rfl
 pyHash:=λhv h=>by
  rcases keyIs_shape hv with⟨i,t,rfl,rfl⟩|⟨x,t,rfl,rfl⟩
  exact wpAny_pyHash_int h;exact wpAny_pyHash_str h
 eqBool:=λhu hv h=>by
  rcases keyIs_shape hu with⟨i,t,rfl,rfl⟩|⟨x,t,rfl,rfl⟩
  rcases keyIs_shape hv with⟨j,u,rfl,rfl⟩|⟨y,u,rfl,rfl⟩
  rw[aGg] at h;exact HJ h;rw[aGi] at h;exact Km i t y u _ _ _ _ h;rcases keyIs_shape hv with⟨j,u,rfl,rfl⟩|⟨y,u,rfl,rfl⟩
  rw[aGj] at h;exact Kn x t j u _ _ _ _ h;rw[aGh] at h;exact wpAny_eqBool_str h
 «strs»:=λk x t v h=>by
  rcases keyIs_shape h with⟨i,u,rfl,e⟩|⟨y,u,rfl,e⟩
  exact nomatch e;injection e with e1 _
  subst e1;cases v <;> rfl
inductive V where
 | non|bl (b:Bool)|int (i:Int)|str (x:Str)|byt (b:Array UInt8)|flt (b:UInt64)|ref (a:Addr)|ty (n:String)
 deriving DecidableEq
noncomputable def aP:V->Value->Prop
 | .non,u=>u=AZ|.bl b,u=>u=DA b|.int i,u=>∃t,u=G2 i t|.str x,u=>∃t,u=HI x t|.byt b,u=>∃t,u=JO b t|.flt b,u=>∃t,u=JP b t|.ref a,u=>u=A5 a|.ty n,u=>u=CG n
abbrev aM:List V->List Value->Prop:=GR aP
theorem aM.length{xs:List V}{us:List Value}(r:aM xs us):xs.length=us.length:=Ji r
theorem aM.get:∀{xs:List V} {us:List Value} {i:Nat} {x:V},aM xs us->xs[i]? = some x->∃u,us[i]? = some u/\aP x u
 | _,_,_,_,.nil,e=>by simp at e|_,_,0,_,.cons r _,e=>by simp at e;subst e;exact⟨_,rfl,r⟩|_,_,i+1,x,.cons _ t,e=>by obtain⟨u,l,B⟩:=aM.get (i:=i) (x:=x) t (by simpa using e);exact⟨u,by simpa using l,B⟩
theorem aM.set{x:V}{u:Value}(r:aP x u):∀{xs:List V} {us:List Value} (i:Nat),aM xs us->aM (xs.set i x) (us.set i u)
 | _,_,_,.nil=>.nil|_,_,0,.cons _ t=>.cons r t|_,_,i+1,.cons q t=>.cons q (aM.set r i t)
theorem aM.append:∀{xs ys:List V} {us ws:List Value},aM xs us->aM ys ws->aM (xs++ys) (us++ws)
 | _,_,_,_,.nil,s=>s|_,_,_,_,.cons r t,s=>.cons r (aM.append t s)
theorem aM.take:∀{xs:List V} {us:List Value} (n:Nat),aM xs us->aM (xs.take n) (us.take n)
 | _,_,0,_=>.nil|_,_,_+1,.nil=>.nil|_,_,n+1,.cons r t=>.cons r (aM.take n t)
theorem aM.drop:∀{xs:List V} {us:List Value} (n:Nat),aM xs us->aM (xs.drop n) (us.drop n)
 | _,_,0,r=>r|_,_,_+1,.nil=>.nil|_,_,n+1,.cons _ t=>aM.drop n t
noncomputable def nK:Option V->Option Value->Prop
 | some v,some u=>aP v u|none,none=>True|_,_=>False
noncomputable def KV{κ:Type}:List (κ×V)->List (κ×Value)->Prop:=GR λ(p:κ×V) (q:κ×Value)=>p.1=q.1/\aP p.2 q.2
noncomputable def kV:Key->V
 | .inl i=>.int i|.inr x=>.str x
inductive HO where
 | lst (xs:List V)
 | tup (xs:List V)
 | dK (kvs:List (Key×V))|dT (kvs:List (List Key×V))
 | set (S:Int->Bool) (n:Nat)
 | ins (C dx:Addr) (fs:List (Str×V))
 | own (x:Addr)
 | xd (fs:List (Str×V))
 | met (f x:Addr)
 | rng (lo hi:Int)
 | frz (o:Obj) (u:HO)
 | tbl (ps:Array Value)
 | ext (φ:Heap->Prop)
abbrev Hp:=Addr->Option HO
noncomputable def upd(H:Hp)(a:Addr)(o:HO):Hp:=λb=>if b=a then some o else H b
theorem aK{H:Hp}{a:Addr}{o:HO}:upd H a o a=some o:=by unfold upd;rw[if_pos rfl]
theorem aD{H:Hp}{a b:Addr}{o:HO}(h:b≠a):upd H a o b=H b:=by unfold upd;rw[if_neg h]
theorem aN{H:Hp}{a b:Addr}{o:HO}(h:H a=some o)(h':H b=none):a≠b:=by intro e;subst e;rw[h] at h';cases h'
section
variable (P:A0) (w:AH)
noncomputable def bQ(H:Hp)(h:Heap)(a:Addr):HO->Prop
 | .lst xs=>xs.length<=sizeLine/\∃(its:List Value) (n:Nat),aM xs its/\h.get? a=some { cls:=.type "list",data:=.seq its.toArray n }|.tup xs=>xs.length<=sizeLine/\∃its:List Value,aM xs its/\IsTup h a its.toArray|.dK kvs=>kvs.length<=sizeLine/\(a==CH)=false/\∃vs,KV kvs vs/\h.DictOf (eJ P w) a vs|.dT kvs=>kvs.length<=sizeLine/\(a==CH)=false/\∃xs:List (List Key×Addr×Value),
  GR (λ(p:List Key×V) (q:List Key×Addr×Value)=>p.1=q.1/\H q.2.1=some (.tup (p.1.map kV))/\aP p.2 q.2.2) kvs xs /\
  ∃o es ep,h.get? a=some o/\o.ExactDict/\o.data=.dict es ep/\es.toList=xs.map (entryOfKey (HK (eJ P w)))/\(xs.map (·.1)).Nodup
 | .set S n=>h.SetOf (Eg P w) a S n|.ins C dx fs=>H dx=some (.own a)/\fs.length<=1000/\dx≠a/\h.get? a=some (Co C dx) /\
  ∃mA,h.Ns1 dx mA/\(∀f,nK (fs.lookup f) (mA f))/\Hg mA (fs.map (·.1))
 | .own _=>∃o,h.get? a=some o|.xd fs=>∃mA,h.Ns1 a mA/\∀f,nK (fs.lookup f) (mA f)|.rng lo hi=>∃t u v,h.get? a=some { cls:=.type "range",data:=.fields #[.int lo t,.int hi u,.int 1 v] }|.frz o u=>h.get? a=some o/\bQ H h a u|.tbl ps=>h.get? a=some { cls:=.none,data:=.fields ps }|.met f x=>h.get? a=some (Ff (.ref f) (.ref x))|.ext φ=>φ h/\(∃o,h.get? a=some o)/\∀h1 h2:Heap,φ h1->(∀o,h1.get? a=some o->h2.get? a=some o)->φ h2
noncomputable def HOk(H:Hp)(h:Heap):Prop:=∀a o,H a=some o->bQ P w H h a o
end
section
variable {P:A0} {w:AH} {H H':Hp} {h h':Heap} {a:Addr} {o:HO}
theorem bQ.lt(x:bQ P w H h a o):a<h.objs.size:=by
 cases o with
 | lst xs=>obtain⟨_,_,_,_,e⟩:=x;exact Am e|tup xs=>obtain⟨_,_,_,p⟩:=x;exact p.lt|dK kvs=>obtain⟨_,_,_,_,o,_,_,e,_⟩:=x;exact Am e|dT kvs=>obtain⟨_,_,_,_,o,_,_,e,_⟩:=x;exact Am e|set S n=>obtain⟨o,_,_,_,e,_⟩:=x;exact Am e|ins C dx fs=>obtain⟨_,_,_,e,_⟩:=x;exact Am e|own y=>obtain⟨_,e⟩:=x;exact Am e|xd fs=>obtain⟨_,⟨_,_,_,e,_⟩,_⟩:=x;exact Am e|rng lo hi=>obtain⟨_,_,_,e⟩:=x;exact Am e|frz l u=>obtain⟨e,_⟩:=x;exact Am e|tbl ps=>exact Am (show h.get? a=some _ from x)|met f y=>exact Am (show h.get? a=some _ from x)|ext φ=>obtain⟨_,⟨_,e⟩,_⟩:=x;exact Am e
theorem Paired.mapP{α l:Type}{F G:α->l->Prop}:∀{l₁:List α} {l₂:List l},GR F l₁ l₂->(∀a b,F a b->G a b)->GR G l₁ l₂
 | _,_,.nil,_=>.nil|_,_,.cons r t,f=>.cons (f _ _ r) (Paired.mapP t f)
theorem bQ.stay(x:bQ P w H h a o)(k:∀b u,(b=a\/H b=some (.own a))->h.get? b=some u->h'.get? b=some u)
 (G:∀b,H b=some (.own a)->H' b=some (.own a)) (I:∀b xs,H b=some (.tup xs)->H' b=some (.tup xs)):bQ P w H' h' a o:=by
 induction o with
 | lst xs=>obtain⟨z,its,n,r,e⟩:=x;exact⟨z,its,n,r,k _ _ (.inl rfl) e⟩|tup xs=>obtain⟨z,its,r,l,e,c⟩:=x;exact⟨z,its,r,l,k _ _ (.inl rfl) e,c⟩|dK kvs=>obtain⟨z,y,vs,r,l,es,ep,e,c⟩:=x;exact⟨z,y,vs,r,l,es,ep,k _ _ (.inl rfl) e,c⟩|dT kvs=>obtain⟨z,y,xs,r,l,es,ep,e,c⟩:=x;exact⟨z,y,xs,Paired.mapP r λp q z=>⟨z.1,I _ _ z.2.1,z.2.2⟩,l,es,ep,k _ _ (.inl rfl) e,c⟩|set S n=>obtain⟨l,es,ep,t,e,c⟩:=x;exact⟨l,es,ep,t,k _ _ (.inl rfl) e,c⟩|ins C dx fs=>obtain⟨d,z,ne,e,mA,⟨od,es,ep,B,c⟩,r⟩:=x;exact⟨G _ d,z,ne,k _ _ (.inl rfl) e,mA,⟨od,es,ep,k _ _ (.inr d) B,c⟩,r⟩|own y=>obtain⟨l,e⟩:=x;exact⟨l,k _ _ (.inl rfl) e⟩|xd fs=>obtain⟨mA,⟨od,es,ep,e,c⟩,r⟩:=x;exact⟨mA,⟨od,es,ep,k _ _ (.inl rfl) e,c⟩,r⟩|rng lo hi=>obtain⟨t,u,v,e⟩:=x;exact⟨t,u,v,k _ _ (.inl rfl) e⟩|frz l u L=>obtain⟨e,q⟩:=x;exact⟨k _ _ (.inl rfl) e,L q⟩|tbl ps=>have e:h.get? a=some { cls:=.none,data:=.fields ps }:=x;show h'.get? a=some { cls:=.none,data:=.fields ps };exact k a _ (.inl rfl) e|met f y=>have e:h.get? a=some (Ff (.ref f) (.ref y)):=x;show h'.get? a=some (Ff (.ref f) (.ref y));exact k a _ (.inl rfl) e|ext φ=>obtain⟨p,⟨o,e⟩,st⟩:=x;exact⟨st _ _ p λo q=>k _ _ (.inl rfl) q,⟨o,k _ _ (.inl rfl) e⟩,st⟩
theorem HOk.lt(x:HOk P w H h)(e:H a=some o):a<h.objs.size:=(x a o e).lt
theorem HOk.fresh(x:HOk P w H h)(e:h.objs.size<=a):H a=none:=by
 cases q:H a with
 | none=>rfl|some u=>exact absurd (A8 (x.lt q) e) (AN _)
theorem HOk.kept(x:HOk P w H h)(k:∀b u,h.get? b=some u->h'.get? b=some u):HOk P w H h':=λa o e=>(x a o e).stay (λb u _ q=>k b u q) (λ_ q=>q) λ_ _ q=>q
theorem HOk.laid(x:HOk P w H h)(k:∀b u,h.get? b=some u->h'.get? b=some u)(B:h.objs.size<=a)(new:bQ P w (upd H a o) h' a o):HOk P w (upd H a o) h':=λb u e=>by have l:=x.fresh B;by_cases hb:b=a;subst hb;rw[aK] at e;cases e;exact new;rw[aD hb] at e;exact(x b u e).stay (λc v _ q=>k c v q) (λc q=>by rw[aD (aN q l)];exact q) λc xs q=>by rw[aD (aN q l)];exact q
end
noncomputable def Rd(H:Hp)(a:Addr)(u:HO):Prop:=H a=some u\/∃o,H a=some (.frz o u)
theorem Rd.ok{P:A0}{w:AH}{H:Hp}{h:Heap}{a:Addr}{u:HO}(r:Rd H a u)(x:HOk P w H h):bQ P w H h a u:=by
 rcases r with r|⟨o,r⟩
 exact x a u r;obtain⟨_,q⟩:=x a _ r;exact q
noncomputable def Mut:Option HO->Prop
 | some (.lst _)=>True|some (.dK _)=>True|some (.dT _)=>True|some (.set _ _)=>True|some (.ins _ _ _)=>True|some (.ext _)=>True|_=>False
section
variable {P:A0} {w:AH} {H:Hp} {h h':Heap} {x e:Addr} {o':HO}
theorem HOk.write(ok:HOk P w H h)(L:Mut (H x))(U:e=x\/H e=some (.own x))(k:∀b u,b≠e->h.get? b=some u->h'.get? b=some u)(M:∃u,h'.get? e=some u)
 (new:bQ P w (upd H x o') h' x o'):HOk P w (upd H x o') h':=λb u q=>by
 have B:∀c y,H c=some (.own y)->c≠x:=λc y r z=>by subst z;rw[r] at L;exact L
 have G:∀c xs,H c=some (.tup xs)->c≠x:=λc xs r z=>by subst z;rw[r] at L;exact L
 by_cases hb:b=x;subst hb;rw[aK] at q;cases q;exact new;rw[aD hb] at q;by_cases l:b=e;have W:H b=some (.own x):=by rcases U with z|z;exact absurd (l.trans z) hb;rw[l];exact z
 rw[q] at W;cases W;obtain⟨v,Z⟩:=M;exact⟨v,by rw[l];exact Z⟩;refine(ok b u q).stay (λc v I r=>k c v ?_ r) (λc r=>by rw[aD (B c b r)];exact r) λc xs r=>by rw[aD (G c xs r)];exact r
 rcases I with rfl|I;exact l;rintro rfl;rcases U with z|z;exact B c b I z;rw[I] at z;cases z;exact hb rfl
end
structure Un (fs ex:List Addr) (H H':Hp) (h h':Heap):Prop where
 keep:∀b o,h.get? b=some o->H b=none->b∉fs->b∉ex->h'.get? b=some o
 slot:∀b o,h.get? b=some o->H b=none->b∈fs->b∉ex->∃sl,h'.get? b=some { o with slots:=sl }
 free:∀b o,h.get? b=some o->H b=none->b∉ex->H' b=none
 there:∀b o,h.get? b=some o->b∉ex->∃o',h'.get? b=some o'
 tups:∀b xs,H b=some (.tup xs)->H' b=some (.tup xs)
 frzs:∀b o u,H b=some (.frz o u)->H' b=some (.frz o u)
 tbls:∀b ps,H b=some (.tbl ps)->∃more,H' b=some (.tbl (ps++more))
section
variable {fs fs' ex ex':List Addr} {H H1 H2:Hp} {h h1 h2 h':Heap} {a x e:Addr} {o:HO}
theorem Un.any(u:Un fs ex H H1 h h1){b:Addr}{l:Obj}(q:h.get? b=some l)(n:H b=none)(B:b∉ex):∃sl,h1.get? b=some { l with slots:=sl }:=by by_cases hb:b∈fs;exact u.slot b l q n hb B;exact⟨l.slots,u.keep b l q n hb B⟩
theorem Un.kept(k:∀b u,h.get? b=some u->h'.get? b=some u):Un fs ex H H h h':=
 ⟨λb l q _ _ _=>k b l q,λb l q _ _ _=>⟨l.slots,k b l q⟩,λ_ _ _ n _=>n,λb l q _=>⟨l,k b l q⟩,λ_ _ q=>q,λ_ _ _ q=>q,λ_ ps q=>⟨#[],by rw[q];simp⟩⟩
theorem Un.refl:Un fs ex H H h h:=Un.kept λ_ _ q=>q
theorem Un.laid(k:∀b u,h.get? b=some u->h'.get? b=some u)(B:h.objs.size<=a)(l:H a=none):Un fs ex H (upd H a o) h h' where
 keep:=λb u q _ _ _=>k b u q
 slot:=λb u q _ _ _=>⟨u.slots,k b u q⟩
 free:=λb u q n _=>by rw[aD (Az (A8 (Am q) B))];exact n
 there:=λb u q _=>⟨u,k b u q⟩
 tups:=λb xs q=>by rw[aD (aN q l)];exact q
 frzs:=λb u xs q=>by rw[aD (aN q l)];exact q
 tbls:=λb ps q=>⟨#[],by rw[aD (aN q l),q];simp⟩
theorem Un.write(B:Mut (H x))(L:e=x\/H e=some (.own x))(k:∀b u,b≠e->h.get? b=some u->h'.get? b=some u)(G:∃u,h'.get? e=some u):Un fs ex H (upd H x o) h h':=by
 have I:∀b,H b=none->b≠x:=λb n z=>by subst z;rw[n] at B;exact B
 have hb:∀b,H b=none->b≠e:=λb n z=>by subst z;rcases L with r|r;exact I b n r;rw[n] at r;cases r
 have hm:∀b u,H b=some u->¬ Mut (some u)->b≠x:=λb u q nm z=>by subst z;rw[q] at B;exact nm B
 refine⟨λb u q n _ _=>k b u (hb b n) q,λb u q n _ _=>⟨u.slots,k b u (hb b n) q⟩,λb u q n _=>by rw[aD (I b n)];exact n,λb u q _=>?_,
  λb xs q=>by rw[aD (hm b _ q λz=>z)];exact q,λb u xs q=>by rw[aD (hm b _ q λz=>z)];exact q,λb ps q=>⟨#[],by rw[aD (hm b _ q λz=>z),q];simp⟩⟩
 by_cases l:b=e;subst l;exact G;exact⟨u,k b u l q⟩
end
noncomputable def trk(h:Heap)(H:Hp):List Addr:=(AD h.objs.size).filter λa=>(H a).isSome
noncomputable def pS(h:Heap)(H:Hp):Heap:=PySem.W.hideAll h (trk h H)
theorem zG(h:Heap)(H:Hp):(pS h H).objs.size=h.objs.size:=PySem.W.hideAll_size _ _
theorem aAO{h:Heap}{H:Hp}{b:Addr}{o:Obj}(e:h.get? b=some o)(n:H b=none):(pS h H).get? b=some o:=
 PySem.W.hideAll_get _ e λhm=>by have q:(H b).isSome=true:=(D7.mp hm).2;rw[n] at q;simp at q
theorem aDF{h:Heap}{H:Hp}{b:Addr}{o:Obj}(e:(pS h H).get? b=some o):h.get? b=some o/\H b=none:=by
 have l:h.get? b=some o:=PySem.W.of_hideAll (trk h H) e;refine⟨l,?_⟩;cases q:H b with
 | none=>rfl|some x=>have hm:b∈trk h H:=D7.mpr ⟨AQ.mpr (Am l),by simp[q]⟩;have z:(pS h H).get? b=none:=PySem.W.hideAll_none (trk h H) hm;rw[z] at e;cases e
noncomputable def aDG(g h:Heap)(L:Addr):List (Addr×Obj):=(AD h.objs.size).filterMap λa=>if a=L\/(g.get? a).isSome=true then none else (h.get? a).map λo=>(a,o)
noncomputable def rest(g h:Heap)(L d:Addr):List (Addr×Obj):=(aDG g h L).filter λp=>decide (p.1≠d)
structure Mod (K:An) (mg:Str->Option Value) (base:Heap):Prop where
 kin:K.In base
 glob:base.Ns AB mg
 blt:∃mb,base.Ns FI mb/\∀x:Str,x ≠ "__name__" -> mb x=B4 x
 nolimit:base.NoLimit
set_option genInjectivity true in
structure Cx where
 prog:A0
 w:AH
 K:An
 mg:Str->Option Value
 base:Heap
 A:AV
 N:List Str
 s₀:Ad
 H₀:Hp
 env:GG
 outer:List GG
 stack:List GG
 ex:List Addr
 fn:Str->Bool
 calm:Bool
 pn:List (Addr×Obj)
 xe:Value->Ad->Prop
noncomputable def frs(l:List GG):List Addr:=l.filterMap (·.frame)
abbrev Cx.fs(X:Cx):List Addr:=frs X.outer
noncomputable def Vis(sc:Da)(x:Str):Prop:=sc.names.lookup x=some .local\/sc.names.lookup x=some .cell\/sc.names.lookup x=some .free
noncomputable def Loc(sc:Da)(x:Str):Prop:=sc.names.lookup x=some .local\/sc.names.lookup x=some .cell
noncomputable def aLR(env:GG)(h:Heap)(m:Str->Option Value)(x:Str)(u:Value):Prop:=
 (env.kindOf x=some .local/\m x=some u)\/((env.kindOf x=some .cell\/env.kindOf x=some .free)/\∃c,env.cells.lookup x=some c/\h.IsCell c (some u))
structure Cx.Ok (X:Cx):Prop where
 mod:Mod X.K X.mg X.base
 kind:X.env.scope.kind=.function
 glob:X.env.globals=AB
 blt:X.env.builtins=FI
 above:X.s₀.heap.objs.size<=X.env.locals
 inj:∀x y c,X.env.cells.lookup x=some c->X.env.cells.lookup y=some c->x=y
 has:∀x,(X.env.kindOf x=some .cell\/X.env.kindOf x=some .free)->∃c,X.env.cells.lookup x=some c
 cab:∀x c,X.fn x=true->X.env.cells.lookup x=some c->X.s₀.heap.objs.size<=c
 hd:X.calm=true->X.A.handled=none
 frames:X.A.frames=some X.stack
 stk:X.stack=X.outer\/(X.stack=X.env::X.outer/\X.env.frame=some X.env.locals)
 exf:∀b∈X.ex,b≠X.env.locals/\∀x c,X.env.cells.lookup x=some c->c≠b
 bs:∀b o,X.base.get? b=some o->X.s₀.heap.get? b=some o/\X.H₀ b=none
 bsz:X.base.objs.size<=X.s₀.heap.objs.size
 noex:∀b o,X.base.get? b=some o->b∉X.ex
 exfs:∀b∈X.ex,b∉X.fs
 funs:X.s₀.heap.FunFrames X.base X.outer
 frf:∀b∈X.fs,X.H₀ b=none
structure Inv (X:Cx) (pins:List (Addr×Obj)) (σ:List (Option V)) (H:Hp) (s:Ad):Prop where
 ok:X.Ok
 os:s.os=X.s₀.os
 bare:EH s.gens
 base:Un X.fs X.ex X.H₀ H X.s₀.heap s.heap
 loc:∃m,s.heap.Ns X.env.locals m/\∀(i:Nat) (x:Str) (v:V),X.N[i]? = some x->σ[i]? = some (some v)->Vis X.env.scope x->∃u,aP v u/\aLR X.env s.heap m x u
 cell:∀x c,X.env.cells.lookup x=some c->∃v,s.heap.IsCell c v
 free:H X.env.locals=none
 freeC:∀x c,X.env.cells.lookup x=some c->H c=none
 pin:∀p∈X.pn++pins,s.heap.get? p.1=some p.2/\H p.1=none/\p.1≠X.env.locals/\p.1∉X.fs/\∀v,p.2.data≠.cell v
 hok:HOk X.prog X.w H s.heap
 len:σ.length=X.N.length
section
variable {X:Cx} {pins:List (Addr×Obj)} {σ:List (Option V)} {H H':Hp} {s:Ad} {h':Heap}
theorem Cx.Ok.nofr(ok:X.Ok){b:Addr}{o:Obj}(e:X.base.get? b=some o):b∉X.fs:=λhb=>by have:=(ok.funs.mem hb).1;rw[e] at this;cases this
theorem Inv.bs(I:Inv X pins σ H s):∀b o,X.base.get? b=some o->s.heap.get? b=some o/\H b=none:=λb o e=>⟨I.base.keep b o (I.ok.bs b o e).1 (I.ok.bs b o e).2 (I.ok.nofr e) (I.ok.noex b o e),I.base.free b o (I.ok.bs b o e).1 (I.ok.bs b o e).2 (I.ok.noex b o e)⟩
theorem Inv.bk(I:Inv X pins σ H s):∀b o,X.base.get? b=some o->s.heap.get? b=some o:=λb o e=>(I.bs b o e).1
theorem Inv.mod(I:Inv X pins σ H s):Mod X.K X.mg X.base:=I.ok.mod
theorem Inv.kIn(I:Inv X pins σ H s):X.K.In s.heap:=I.ok.mod.kin.keeps I.bk
theorem Inv.lt(I:Inv X pins σ H s):X.env.locals<s.heap.objs.size:=let ⟨_,hn,_⟩:=I.loc;hn.lt
theorem Inv.sz(I:Inv X pins σ H s):X.s₀.heap.objs.size<=s.heap.objs.size:=AX I.ok.above (DG I.lt)
theorem Inv.nofs(I:Inv X pins σ H s){a:Addr}(h:s.heap.objs.size<=a):a∉X.fs:=λhb=>by obtain⟨_,o,l,_⟩:=I.ok.funs.mem hb;exact absurd (A8 (Am l) (AX I.sz h)) (AN _)
theorem Inv.cne(I:Inv X pins σ H s):∀x c,X.env.cells.lookup x=some c->c≠X.env.locals:=λx c e z=>by obtain⟨v,o,G,hd⟩:=I.cell x c e;obtain⟨m,⟨o',es,ep,B,l,_⟩,_⟩:=I.loc;rw[z,B] at G;cases G;rw[l] at hd;cases hd
theorem Inv.funs(I:Inv X pins σ H s):s.heap.FunFrames X.base X.outer:=by
 have all:∀(l:List GG),(∀b∈frs l,b∈X.fs)->X.s₀.heap.FunFrames X.base l->s.heap.FunFrames X.base l:=by
  intro l
  induction l with
  | nil=>intro _ _;trivial|cons env r ih=>intro hs hl;obtain⟨M,⟨L,o,G,U,W,hd⟩,Z⟩:=hl;have B:L∈X.fs:=hs L (by unfold frs;rw[BY,G];exact Aj);obtain⟨sl,e⟩:=I.base.slot L o W (I.ok.frf L B) B λz=>I.ok.exfs L z B;exact⟨M,⟨L,_,G,U,e,hd⟩,ih (λb hb=>hs b (by unfold frs;rw[BY,G];exact Ae _ hb)) Z⟩
 exact all X.outer (λ_ hb=>hb) I.ok.funs
theorem Inv.stack(I:Inv X pins σ H s):s.heap.FunFrames X.base X.stack:=by
 rcases I.ok.stk with e|⟨e,l⟩
 rw[e];exact I.funs;rw[e];obtain⟨m,B,_⟩:=I.loc;refine .cons (by rw[I.ok.kind];decide) l B ?_ I.funs;exact Heap.get?_none_of_le (AX I.ok.bsz I.ok.above)
theorem Inv.stkSub(I:Inv X pins σ H s):∀b∈frs X.stack,b∈X.env.locals::X.fs:=λb hb=>by
 rcases I.ok.stk with e|⟨e,l⟩
 rw[e] at hb;exact Ae _ hb;rw[e] at hb;unfold frs at hb;rw[BY,l] at hb;exact hb
theorem Inv.stkFree(I:Inv X pins σ H s):∀b∈frs X.stack,H b=none:=λb hb=>by rcases Ao.mp (I.stkSub b hb) with e|hb;rw[e];exact I.free;obtain⟨_,o,l,_⟩:=I.ok.funs.mem hb;exact I.base.free b o l (I.ok.frf b hb) λz=>I.ok.exfs b z hb
theorem Inv.step{g':Array EN}{t':Nat}{d':KT}{ch:List Addr}(I:Inv X pins σ H s)
 (L:∀b∈ch,(b∈X.ex\/X.s₀.heap.objs.size<=b)/\b≠X.env.locals/\(∀x c,X.env.cells.lookup x=some c->c≠b)/\∀p∈X.pn++pins,p.1≠b)
 (keep:∀b o,b≠X.env.locals->b∉X.fs->b∉ch->s.heap.get? b=some o->H b=none->h'.get? b=some o)
 (slot:∀b o,b≠X.env.locals->b∈X.fs->b∉ch->s.heap.get? b=some o->H b=none->∃sl,h'.get? b=some { o with slots:=sl }) (free:∀b o,b∉ch->s.heap.get? b=some o->H b=none->H' b=none)
 (there:∀b o,b∉ch->s.heap.get? b=some o->∃o',h'.get? b=some o')
 (tups:∀b xs,H b=some (.tup xs)->H' b=some (.tup xs)) (frzs:∀b o u,H b=some (.frz o u)->H' b=some (.frz o u)) (tbls:∀b ps,H b=some (.tbl ps)->∃more,H' b=some (.tbl (ps++more)))
 (ns:∀m,s.heap.Ns X.env.locals m->h'.Ns X.env.locals m) (hok:HOk X.prog X.w H' h') (hg:EH g') :
 Inv X pins σ H' { s with heap:=h',gens:=g',drawn:=d',toks:=t' }:=by
 have q0:∀b o,X.s₀.heap.get? b=some o->b≠X.env.locals:=λb o e=>Az (A8 (Am e) I.ok.above);have W:∀b o,X.s₀.heap.get? b=some o->b∉X.ex->b∉ch:=λb o e B hb=>by rcases(L b hb).1 with z|z;exact B z;exact absurd (A8 (Am e) z) (AN _)
 have G:∀x c,X.env.cells.lookup x=some c->∀v,s.heap.IsCell c v->h'.IsCell c v:=λx c e v ⟨o,Z,hd⟩=>by have M:c∉ch:=λz=>(L c z).2.2.1 x c e rfl;by_cases hc:c∈X.fs;obtain⟨sl,q⟩:=slot c o (I.cne x c e) hc M Z (I.freeC x c e);exact⟨_,q,hd⟩;exact⟨o,keep c o (I.cne x c e) hc M Z (I.freeC x c e),hd⟩
 refine⟨I.ok,I.os,hg,⟨λb o e n hb B=>?_,λb o e n hb B=>?_,λb o e n B=>?_,λb o e B=>?_,λb xs e=>tups b xs (I.base.tups b xs e),λb o xs e=>frzs b o xs (I.base.frzs b o xs e),λb ps e=>?_⟩,?_,λx c e=>?_,?_,λx c e=>?_,λp hp=>?_,hok,I.len⟩;exact keep b o (q0 b o e) hb (W b o e B) (I.base.keep b o e n hb B) (I.base.free b o e n B);obtain⟨sl,U⟩:=I.base.slot b o e n hb B;obtain⟨q1,e2⟩:=slot b _ (q0 b o e) hb (W b o e B) U (I.base.free b o e n B);exact⟨q1,e2⟩;obtain⟨o',U⟩:=I.base.there b o e B;exact free b o' (W b o e B) U (I.base.free b o e n B);obtain⟨o',U⟩:=I.base.there b o e B;exact there b o' (W b o e B) U;obtain⟨m1,U⟩:=I.base.tbls b ps e;obtain⟨m2,e2⟩:=tbls b _ U;exact⟨m1++m2,by rw[e2,Array.append_assoc]⟩;obtain⟨m,hn,hl⟩:=I.loc;refine⟨m,ns m hn,λi x v U e2 e3=>?_⟩;obtain⟨u,r,l⟩:=hl i x v U e2 e3;refine⟨u,r,?_⟩;rcases l with l|⟨k,c,e,z⟩
 exact .inl l;exact .inr ⟨k,c,e,G x c e _ z⟩;obtain⟨v,z⟩:=I.cell x c e;exact⟨v,G x c e v z⟩;obtain⟨m,⟨o,_,_,Z,_⟩,_⟩:=I.loc;exact free _ o (λz=>(L _ z).2.1 rfl) Z I.free;obtain⟨v,o,Z,hd⟩:=I.cell x c e;exact free c o (λz=>(L c z).2.2.1 x c e rfl) Z (I.freeC x c e);obtain⟨e,n,ne,nf,d⟩:=I.pin p hp;have M:p.1∉ch:=λz=>(L p.1 z).2.2.2 p hp rfl;exact⟨keep p.1 p.2 ne nf M e n,free p.1 p.2 M e n,ne,nf,d⟩
theorem Inv.un{t':Nat}(I:Inv X pins σ H s)(u:Un X.fs [] H H' s.heap h')(hok:HOk X.prog X.w H' h'):Inv X pins σ H' { s with heap:=h',toks:=t' }:=by
 obtain⟨m,⟨o,es,ep,L,r⟩,_⟩:=id I.loc;obtain⟨sl,M⟩:=u.any L I.free (by simp);exact I.step (g':=s.gens) (d':=s.drawn) (ch:=[]) (λ_ z=>nomatch z) (λb o _ hb _ e n=>u.keep b o e n hb (by simp)) (λb o _ hb _ e n=>u.slot b o e n hb (by simp)) (λb o _ e n=>u.free b o e n (by simp)) (λb o _ e=>u.there b o e (by simp)) u.tups u.frzs u.tbls (λW hm=>by
  obtain⟨o',G,B,l,U⟩:=hm;rw[L] at l;cases l;exact⟨_,G,B,M,U⟩) hok I.bare
theorem Inv.call{g':Array EN}{t':Nat}{d':KT}{ch:List Addr}(I:Inv X pins σ H s)(u:Un (frs X.stack) ch H H' s.heap h')(hok:HOk X.prog X.w H' h')(Z:EH g')
 (B:∀b∈ch,(b∈X.ex\/X.s₀.heap.objs.size<=b)/\b≠X.env.locals/\(∀x c,X.env.cells.lookup x=some c->c≠b)/\∀p∈X.pn++pins,p.1≠b) :
 Inv X pins σ H' { s with heap:=h',gens:=g',drawn:=d',toks:=t' }:=by
 obtain⟨m,⟨o,es,ep,W,r⟩,_⟩:=id I.loc;obtain⟨sl,U⟩:=u.any W I.free λz=>(B _ z).2.1 rfl;exact I.step (ch:=ch) B (λb o U hb l e n=>u.keep b o e n (λz=>(Ao.mp (I.stkSub b z)).elim U hb) l) (λb o _ _ l e n=>u.any e n l) (λb o l e n=>u.free b o e n l) (λb o l e=>u.there b o e l) u.tups u.frzs u.tbls (λm' hm=>by
  obtain⟨o',M,L,G,r'⟩:=hm;rw[W] at G;cases G;exact⟨_,M,L,U,r'⟩) hok Z
theorem Inv.turned{t':Nat}{it:Addr}(I:Inv X pins σ H s)(k:∀b o,b≠it->s.heap.get? b=some o->h'.get? b=some o)(W:H it=none)(G:it≠X.env.locals)
 (L:it∈X.ex\/X.s₀.heap.objs.size<=it) (M:∀x c,X.env.cells.lookup x=some c->c≠it) (U:∀p∈X.pn++pins,p.1≠it):Inv X pins σ H { s with heap:=h',toks:=t' }:=by
 have B:∀b u,H b=some u->b≠it:=λb u e z=>by rw[z,W] at e;cases e
 refine I.step (g':=s.gens) (d':=s.drawn) (ch:=[it]) (λb hb=>?_) (λb o _ _ l e _=>k b o (λz=>l (by simp[z])) e) (λb o _ _ l e _=>⟨o.slots,k b o (λz=>l (by simp[z])) e⟩) (λ_ _ _ _ n=>n)
  (λb o l e=>⟨o,k b o (λz=>l (by simp[z])) e⟩) (λ_ _ e=>e) (λ_ _ _ e=>e) (λb ps e=>⟨#[],by rw[e];simp⟩) (λm hm=>?_) (λb u e=>?_) I.bare
 have e:b=it:=by simpa using hb
 subst e;exact⟨L,G,M,U⟩;obtain⟨o,es,ep,Z,r⟩:=hm;exact⟨o,es,ep,k _ o (BS G) Z,r⟩;refine(I.hok b u e).stay (λc v l q=>k c v ?_ q) (λ_ q=>q) λ_ _ q=>q;rcases l with z|z;rw[z];exact B b u e;exact B c _ z
theorem Inv.tok(I:Inv X pins σ H s)(t:Nat):Inv X pins σ H { s with toks:=t }:=I.un (h':=s.heap) (t':=t) Un.refl I.hok
theorem Inv.kept{t':Nat}(I:Inv X pins σ H s)(k:∀b u,s.heap.get? b=some u->h'.get? b=some u):Inv X pins σ H { s with heap:=h',toks:=t' }:=I.un (Un.kept k) (I.hok.kept k)
theorem Inv.laid{a:Addr}{o:HO}{t':Nat}(I:Inv X pins σ H s)(k:∀b u,s.heap.get? b=some u->h'.get? b=some u)(l:s.heap.objs.size<=a)(new:bQ X.prog X.w (upd H a o) h' a o) :
 Inv X pins σ (upd H a o) { s with heap:=h',toks:=t' }:=I.un (Un.laid k l (I.hok.fresh l)) (I.hok.laid k l new)
theorem Inv.write{x e:Addr}{o:HO}{t':Nat}(I:Inv X pins σ H s)(G:Mut (H x))(B:e=x\/H e=some (.own x))(k:∀b u,b≠e->s.heap.get? b=some u->h'.get? b=some u)(l:∃u,h'.get? e=some u)
 (new:bQ X.prog X.w (upd H x o) h' x o):Inv X pins σ (upd H x o) { s with heap:=h',toks:=t' }:=I.un (Un.write G B k l) (I.hok.write G B k l new)
theorem Inv.pins_of{pins':List (Addr×Obj)}(I:Inv X pins σ H s)(h:∀p∈pins',s.heap.get? p.1=some p.2/\H p.1=none/\p.1≠X.env.locals/\p.1∉X.fs/\∀v,p.2.data≠.cell v):Inv X pins' σ H s:=
 ⟨I.ok,I.os,I.bare,I.base,I.loc,I.cell,I.free,I.freeC,λp l=>(Bx.mp l).elim (λz=>I.pin p (AK _ z)) (h p),I.hok,I.len⟩
theorem lD{N:List Str}(G:N.Nodup){i j:Nat}{x:Str}(a:N[i]? = some x)(b:N[j]? = some x):i=j:=by obtain⟨I,l⟩:=Ai.mp a;obtain⟨L,B⟩:=Ai.mp b;exact(List.getElem_inj G).mp (l.trans B.symm)
theorem nS{M:Ic}{A:AV}{E:Value->Ad->Prop}{i:Nat}{x:Str}{v:V}{u:Value}{Q:Unit->Ad->Prop}(I:Inv X pins σ H s)(hN:X.N.Nodup)(hi:X.N[i]? = some x)(L:Loc X.env.scope x)(r:aP v u)
 (h:∀s',Inv X pins (σ.set i (some v)) H s'->(∃a,Bq a s.heap s'.heap/\(a=X.env.locals\/X.env.cells.lookup x=some a))->Q () s') (hf:X.fn x=true\/X.env.scope.names.lookup x=some .local:=by first|exact .inl rfl|exact .inr rfl|assumption):Ap M A (storeName X.env x u) Q E s:=by
 obtain⟨m,hn,hl⟩:=id I.loc;have q3:(X.env.scope.kind==.class||(X.env.scope.kind==.module&&X.env.locals != X.env.globals))=false:=by rw[I.ok.kind];rfl
 have Z:i<σ.length:=by rw[I.len];exact(Ai.mp hi).1
 have cne:=I.cne;have B:∀{a:Addr} {h':Heap},(∃o,s.heap.get? a=some o/\H a=none)->Bq a s.heap h'->HOk X.prog X.w H h':=λ{a h'} ha hs b ob e=>by obtain⟨_,_,U⟩:=ha;refine(I.hok b ob e).stay (λc w' G q=>(hs.2 c ?_).trans q) (λ_ q=>q) λ_ _ q=>q;rintro rfl;rcases G with rfl|G;rw[U] at e;cases e;rw[U] at G;cases G
 rcases L with hk|hk;refine wpAny_storeName_local hk hn (λh' q6 hs=>?_) q3;obtain⟨oL,_,_,q7,_⟩:=id hn;refine h _ ⟨I.ok,I.os,I.bare,⟨λb o e n hb L=>?_,λb o e n hb L=>?_,I.base.free,λb o e L=>?_,I.base.tups,I.base.frzs,I.base.tbls⟩,⟨_,q6,λj y v' l W e3=>?_⟩,λy c e=>?_,I.free,I.freeC,λp hp=>?_,B ⟨oL,q7,I.free⟩ hs,by simpa using I.len⟩ ⟨_,hs,.inl rfl⟩;exact(hs.2 b (Az (A8 (Am e) I.ok.above))).trans (I.base.keep b o e n hb L);obtain⟨sl,l⟩:=I.base.slot b o e n hb L;exact⟨sl,(hs.2 b (Az (A8 (Am e) I.ok.above))).trans l⟩;obtain⟨o',l⟩:=I.base.there b o e L;exact⟨o',(hs.2 b (Az (A8 (Am e) I.ok.above))).trans l⟩;by_cases hj:j=i;subst hj;rw[hi] at l;cases l;rw[Ar Z] at W;cases W;exact⟨u,r,.inl ⟨hk,by simp⟩⟩;rw[Ah (BS hj)] at W;obtain⟨u',r',q⟩:=hl j y v' l W e3;refine⟨u',r',?_⟩;rcases q with⟨k,e⟩|⟨k,c,e,z⟩
 refine .inl ⟨k,?_⟩;have:y≠x:=λe=>hj (lD hN l (e▸hi));simp[this,e];exact .inr ⟨k,c,e,z.sameBut hs (cne y c e)⟩;obtain⟨w',z⟩:=I.cell y c e;exact⟨w',z.sameBut hs (cne y c e)⟩;obtain⟨e,n,ne,nf,d⟩:=I.pin p hp;exact⟨(hs.2 p.1 ne).trans e,n,ne,nf,d⟩;have q0:X.fn x=true:=by rcases hf with z|z;exact z;rw[z] at hk;cases hk
 obtain⟨c,G⟩:=I.ok.has x (.inl hk);obtain⟨w',z⟩:=I.cell x c G;refine wpAny_storeName_cell I.ok.kind hk G z (λh' q1 hs=>?_);obtain⟨oc,q4,q5⟩:=id z;refine h { s with heap:=h' } ⟨I.ok,I.os,I.bare,⟨λb o e n hb L=>?_,λb o e n hb L=>?_,I.base.free,λb o e L=>?_,I.base.tups,I.base.frzs,I.base.tbls⟩,⟨m,hn.sameBut hs (BS (cne x c G)),λj y v' l W e3=>?_⟩,λy c' e=>?_,I.free,I.freeC,λp hp=>?_,B ⟨oc,q4,I.freeC x c G⟩ hs,by simpa using I.len⟩ ⟨c,hs,.inr G⟩;exact(hs.2 b (Az (A8 (Am e) (I.ok.cab x c q0 G)))).trans (I.base.keep b o e n hb L);obtain⟨sl,l⟩:=I.base.slot b o e n hb L;exact⟨sl,(hs.2 b (Az (A8 (Am e) (I.ok.cab x c q0 G)))).trans l⟩;obtain⟨o',l⟩:=I.base.there b o e L;exact⟨o',(hs.2 b (Az (A8 (Am e) (I.ok.cab x c q0 G)))).trans l⟩;by_cases hj:j=i;subst hj;rw[hi] at l;cases l;rw[Ar Z] at W;cases W;exact⟨u,r,.inr ⟨.inl hk,c,G,q1⟩⟩;rw[Ah (BS hj)] at W;obtain⟨u',r',q⟩:=hl j y v' l W e3;refine⟨u',r',?_⟩;rcases q with q|⟨k,c',e,z'⟩
 exact .inl q;refine .inr ⟨k,c',e,z'.sameBut hs ?_⟩;rintro rfl;exact hj (lD hN l (I.ok.inj _ _ _ e G▸hi));by_cases q2:c'=c;subst q2;exact⟨_,q1⟩;obtain⟨w2,z2⟩:=I.cell y c' e;exact⟨w2,z2.sameBut hs q2⟩;obtain⟨e,n,ne,nf,d⟩:=I.pin p hp;refine⟨(hs.2 p.1 ?_).trans e,n,ne,nf,d⟩;intro q;rw[q,q4] at e;have q':oc=p.2:=Au e;exact d w' (by rw[<-q'];exact q5)
theorem iG{M:Ic}{A:AV}{E:Value->Ad->Prop}{i:Nat}{x:Str}{v:V}{u:Value}{Q:Unit->Ad->Prop}(I:Inv X pins σ H s)(G:X.N.Nodup)(hi:X.N[i]? = some x)(U:Loc X.env.scope x)(r:aP v u)
 (h:∀l,Inv X pins (σ.set i (some v)) H l->Q () l) (L:X.fn x=true\/X.env.scope.names.lookup x=some .local:=by first|exact .inl rfl|exact .inr rfl|assumption):Ap M A (storeName X.env x u) Q E s:=
 nS I G hi U r (λl B _=>h l B) L
theorem Inv.call'{l:Ad}{ch:List Addr}(I:Inv X pins σ H s)(L:l.os=s.os)(u:Un (frs X.stack) ch H H' s.heap l.heap)(hok:HOk X.prog X.w H' l.heap)(G:EH l.gens)
 (B:∀b∈ch,(b∈X.ex\/X.s₀.heap.objs.size<=b)/\b≠X.env.locals/\(∀x c,X.env.cells.lookup x=some c->c≠b)/\∀p∈X.pn++pins,p.1≠b):Inv X pins σ H' l:=by obtain⟨h',g',d',t',o'⟩:=l;have e:o'=s.os:=L;subst e;exact I.call (g':=g') (t':=t') (d':=d') u hok G B
end
abbrev XK:=Value->Option Addr->Hp->Prop
abbrev St:=List (Option V)
abbrev VK:=V->Hp->Prop
abbrev TE:=St->Hp->VK->Prop
abbrev TT:=St->Hp->(Bool->Hp->Prop)->Prop
abbrev TA:=St->Hp->(List V->Hp->Prop)->Prop
structure Ends where
 nx:St->Hp->Prop
 rt:VK
 bk:St->Hp->Prop:=λ_ _=>False
 ct:St->Hp->Prop:=λ_ _=>False
abbrev TS:=Ends->St->Hp->Prop
noncomputable def EP(X:Cx)(pins:List (Addr×Obj))(σ:St)(Q:VK)(u:Value)(s':Ad):Prop:=∃v H',Inv X pins σ H' s'/\aP v u/\Q v H'
noncomputable def TP(X:Cx)(pins:List (Addr×Obj))(σ:St)(Q:Bool->Hp->Prop)(b:Bool)(s':Ad):Prop:=∃H',Inv X pins σ H' s'/\Q b H'
noncomputable def AP(X:Cx)(pins:List (Addr×Obj))(σ:St)(Q:List V->Hp->Prop)(us:List Value)(s':Ad):Prop:=∃vs H',Inv X pins σ H' s'/\aM vs us/\Q vs H'
noncomputable def SP(X:Cx)(pins:List (Addr×Obj))(D:Ends)(f:Flow)(s':Ad):Prop:=
 match f with
 | .next=>∃σ' H',Inv X pins σ' H' s'/\D.nx σ' H'|.brk=>∃σ' H',Inv X pins σ' H' s'/\D.bk σ' H'|.cont=>∃σ' H',Inv X pins σ' H' s'/\D.ct σ' H'|.ret u=>∃v σ' H',Inv X pins σ' H' s'/\aP v u/\D.rt v H'
noncomputable def PE(X:Cx)(e:Av)(t:TE):Prop:=
 ∀(pins:List (Addr×Obj)) (s:Ad) (σ:St) (H:Hp) (Q:VK),Inv X pins σ H s->t σ H Q->Ap (A2 X.prog X.w) X.A (Cc e X.env) (EP X pins σ Q) X.xe s
noncomputable def PT(X:Cx)(e:Av)(t:TT):Prop:=
 ∀(pins:List (Addr×Obj)) (s:Ad) (σ:St) (H:Hp) (Q:Bool->Hp->Prop),Inv X pins σ H s->t σ H Q->Ap (A2 X.prog X.w) X.A (isTrue e X.env (Cc e X.env)) (TP X pins σ Q) X.xe s
noncomputable def PW(X:Cx)(e:Av)(t:TT):Prop:=
 ∀(whole:Ko Value) (pins:List (Addr×Obj)) (s:Ad) (σ:St) (H:Hp) (Q:Bool->Hp->Prop),Inv X pins σ H s->t σ H Q->Ap (A2 X.prog X.w) X.A (isTrue e X.env whole) (TP X pins σ Q) X.xe s
theorem PW.pt{X:Cx}{e:Av}{t:TT}(h:PW X e t):PT X e t:=h _
noncomputable def PA(X:Cx)(es:List Av)(t:TA):Prop:=
 ∀(pos:CF) (pins:List (Addr×Obj)) (s:Ad) (σ:St) (H:Hp) (Q:List V->Hp->Prop),Inv X pins σ H s->t σ H Q->Ap (A2 X.prog X.w) X.A (Fh (BQ pos (A6 es X.env))) (AP X pins σ Q) X.xe s
noncomputable def PS(X:Cx)(st:BR)(t:TS):Prop:=
 ∀(pins:List (Addr×Obj)) (s:Ad) (σ:St) (H:Hp) (D:Ends),Inv X pins σ H s->t D σ H->Ap (A2 X.prog X.w) X.A (exec st X.env) (SP X pins D) X.xe s
noncomputable def PSs(X:Cx)(st:List BR)(t:TS):Prop:=
 ∀(pins:List (Addr×Obj)) (s:Ad) (σ:St) (H:Hp) (D:Ends),Inv X pins σ H s->t D σ H->Ap (A2 X.prog X.w) X.A (execs st X.env) (SP X pins D) X.xe s
theorem thn{α:Type}{t:Ko α}{Q l:α->Ad->Prop}{M:Ic}{A:AV}{E:Value->Ad->Prop}{s:Ad}(h:Ap M A t Q E s)(B:∀a s,Q a s->l a s):Ap M A t l E s:=Cy h B λ_ _ x=>x
section
variable {X:Cx}
noncomputable def aDH(i:Nat):TE:=λσ H Q=>∃v,σ[i]? = some (some v)/\Q v H
noncomputable def tC(v:V):TE:=λ_ H Q=>Q v H
theorem pT{i:Nat}{x:Str}{pos:CF}(W:X.N[i]? = some x)(hv:Vis X.env.scope x)(hd:(x==("__debug__" : Str))=false:=by decide)(M:(x==("__classdict__" : Str))=false:=by decide):PE X (.Name x pos) (aDH i):=by
 intro pins s σ H Q I h;obtain⟨v,e,h⟩:=h;obtain⟨m,Z,hl⟩:=I.loc;obtain⟨u,r,l⟩:=hl i x v W e hv;have G:EP X pins σ Q u s:=⟨v,H,I,r,h⟩
 rcases l with⟨L,hm⟩|⟨L,c,U,B⟩
 exact IB (wpAny_loadName_local I.ok.kind L Z hm G) hd;rcases L with L|L;exact IB (wpAny_loadName_cell I.ok.kind L U B G) hd;exact IB (wpAny_loadName_free I.ok.kind L U B G M) hd
theorem aGk{i j pos}:PE X (.Constant (.int i) j pos) (tC (.int i)):=λ_ _ _ H _ I h=>wpAny_Constant_int ⟨.int i,H,I.tok _,⟨_,rfl⟩,h⟩
theorem aIG{b j pos}:PE X (.Constant (.bool b) j pos) (tC (.bl b)):=λ_ _ _ H _ I h=>Constant_bool ⟨.bl b,H,I,rfl,h⟩
theorem aGl{j pos}:PE X (.Constant .none j pos) (tC .non):=λ_ _ _ H _ I h=>Constant_none ⟨.non,H,I,rfl,h⟩
theorem aGm{x j pos}:PE X (.Constant (.str x) j pos) (tC (.str x)):=λ_ _ _ H _ I h=>Calls.Constant_str ⟨.str x,H,I.tok _,⟨_,rfl⟩,h⟩
noncomputable def Gl(X:Cx)(x:Str):Prop:=X.env.kindOf x=some .globalImplicit
theorem eK{E:Value->Ad->Prop}{pins:List (Addr×Obj)}{s:Ad}{σ:St}{H:Hp}{x:Str}{u:Value}{pos:CF}{Q:Value->Ad->Prop}(I:Inv X pins σ H s)(l:Gl X x)(hm:X.mg x=some u)(h:Q u s)
 (hd:(x==("__debug__" : Str))=false:=by decide):Ap (A2 X.prog X.w) X.A (Cc (.Name x pos) X.env) Q E s:=
 EO I.ok.kind l (Calls.loadGlobal_global (by rw[I.ok.glob];exact I.mod.glob.keeps I.bk) hm h) hd
theorem cJ{E:Value->Ad->Prop}{pins:List (Addr×Obj)}{s:Ad}{σ:St}{H:Hp}{x:Str}{u:Value}{pos:CF}{Q:Value->Ad->Prop}(I:Inv X pins σ H s)(G:Gl X x)(hm:X.mg x=none)(M:B4 x=some u)(h:Q u s)
 (L:x ≠ "__name__" := by decide) (hd:(x==("__debug__" : Str))=false:=by decide):Ap (A2 X.prog X.w) X.A (Cc (.Name x pos) X.env) Q E s:=by obtain⟨mb,l,B⟩:=I.mod.blt;exact EO I.ok.kind G (Calls.loadGlobal_builtin (by rw[I.ok.glob];exact I.mod.glob.keeps I.bk) hm (by rw[I.ok.blt];exact l.keeps I.bk) ((B x L).trans M) h) hd
theorem pU{x:Str}{v:V}{u:Value}{pos:CF}(l:Gl X x)(hm:X.mg x=some u)(r:aP v u)(hd:(x==("__debug__" : Str))=false:=by decide):PE X (.Name x pos) (tC v):=
 λ_ _ _ H _ I h=>eK I l hm ⟨v,H,I,r,h⟩ hd
theorem aDI{x:Str}{v:V}{u:Value}{pos:CF}(l:Gl X x)(hm:X.mg x=none)(G:B4 x=some u)(r:aP v u)(B:x ≠ "__name__" := by decide)(hd:(x==("__debug__" : Str))=false:=by decide):PE X (.Name x pos) (tC v):=
 λ_ _ _ H _ I h=>cJ I l hm G ⟨v,H,I,r,h⟩ B hd
variable {a b:Av} {ta tb:TE} {pos:CF}
variable {tA tB':TT} {rest:List Av}
noncomputable def aLS(t u:TT):TT:=λσ H Q=>t σ H λc H1=>if c=true then u σ H1 Q else Q false H1
noncomputable def tOr(t u:TT):TT:=λσ H Q=>t σ H λc H1=>if c=true then Q true H1 else u σ H1 Q
noncomputable def aLT(t:TT):TT:=λσ H Q=>t σ H λc H1=>Q (!c) H1
theorem aDJ(l:PT X a tA):PW X (.BoolOp .And [a] pos) tA:=by
 intro B pins s σ H Q I h;refine isTrue_and (thn (l pins s σ H Q I h) λc s1 e=>?_);cases c with
 | true=>exact isTrue_and_nil e|false=>exact e
theorem aGn(l:PT X a tA):PW X (.BoolOp .Or [a] pos) tA:=by
 intro B pins s σ H Q I h;refine isTrue_or (thn (l pins s σ H Q I h) λc s1 e=>?_);cases c with
 | false=>exact isTrue_or_nil e|true=>exact e
theorem aGo(G:PT X a tA)(hb:PW X (.BoolOp .And (b::rest) pos) tB'):PW X (.BoolOp .And (a::b::rest) pos) (aLS tA tB'):=by
 intro L pins s σ H Q I h;refine isTrue_and (thn (G pins s σ H _ I h) λc s1 ⟨H1,l,B⟩=>?_);cases c with
 | true=>exact hb L pins s1 σ H1 Q l B|false=>exact⟨H1,l,B⟩
theorem aIH(G:PT X a tA)(hb:PW X (.BoolOp .Or (b::rest) pos) tB'):PW X (.BoolOp .Or (a::b::rest) pos) (tOr tA tB'):=by
 intro L pins s σ H Q I h;refine isTrue_or (thn (G pins s σ H _ I h) λc s1 ⟨H1,l,B⟩=>?_);cases c with
 | true=>exact⟨H1,l,B⟩|false=>exact hb L pins s1 σ H1 Q l B
theorem aGp(l:PT X a tA):PT X (.UnaryOp .Not a pos) (aLT tA):=by intro pins s σ H Q I h;exact isTrue_not (l pins s σ H (λc H1=>Q (!c) H1) I h)
noncomputable def aII(ta tb:TE):TE:=λσ H Q=>ta σ H λx H1=>∃c,x=.bl c/\if c=true then tb σ H1 Q else Q (.bl false) H1
noncomputable def aLU(ta tb:TE):TE:=λσ H Q=>ta σ H λx H1=>∃c,x=.bl c/\if c=true then Q (.bl true) H1 else tb σ H1 Q
theorem aAP{op}{t:TE}(h:PE X a t):PE X (.BoolOp op [a] pos) t:=λpins s σ H Q I l=>BoolOp_one (h pins s σ H Q I l)
theorem aGq(G:PE X a ta)(hb:PE X (.BoolOp .And (b::rest) pos) tb):PE X (.BoolOp .And (a::b::rest) pos) (aII ta tb):=by
 intro pins s σ H Q I h;refine BoolOp_and (thn (G pins s σ H _ I h) λv s1 ⟨x,H1,B,L,l⟩=>?_);obtain⟨c,rfl,l⟩:=l;cases L;refine BU ?_;cases c with
 | true=>exact hb pins s1 σ H1 Q B l|false=>exact⟨.bl false,H1,B,rfl,l⟩
theorem aIJ(G:PE X a ta)(hb:PE X (.BoolOp .Or (b::rest) pos) tb):PE X (.BoolOp .Or (a::b::rest) pos) (aLU ta tb):=by
 intro pins s σ H Q I h;refine BoolOp_or (thn (G pins s σ H _ I h) λv s1 ⟨x,H1,B,L,l⟩=>?_);obtain⟨c,rfl,l⟩:=l;cases L;refine BU ?_;cases c with
 | false=>exact hb pins s1 σ H1 Q B l|true=>exact⟨.bl true,H1,B,rfl,l⟩
noncomputable def tIf(t:TT)(ta tb:TE):TE:=λσ H Q=>t σ H λc H1=>if c=true then ta σ H1 Q else tb σ H1 Q
theorem aAQ{c:Av}(L:PT X c tA)(G:PE X a ta)(hb:PE X b tb):PE X (.IfExp c a b pos) (tIf tA ta tb):=by
 intro pins s σ H Q I h;refine wpAny_IfExp (thn (L pins s σ H _ I h) λd s1 ⟨H1,l,B⟩=>?_);cases d with
 | true=>exact G pins s1 σ H1 Q l B|false=>exact hb pins s1 σ H1 Q l B
end
noncomputable def SqL(K:An)(H:Hp)(a:Addr)(xs:List V):Prop:=
 Rd H a (.lst xs) \/
  ∃(o:Obj) (its:Array Value) (n:Nat),K.lookup a=some o/\o.cls=.type "list" /\ o.dict=none/\o.data=.seq its n/\its.size<=sizeLine/\aM xs its.toList
noncomputable def SqT(K:An)(H:Hp)(a:Addr)(xs:List V):Prop:=
 Rd H a (.tup xs) \/
  ∃(o:Obj) (its:Array Value) (n:Nat),K.lookup a=some o/\o.cls=.type "tuple" /\ o.data=.seq its n/\its.size<=sizeLine/\aM xs its.toList
noncomputable def aLV:Value->Option V
 | .none=>some .non|.bool b=>some (.bl b)|.int i _=>some (.int i)|.str x _=>some (.str x)|.bytes b _=>some (.byt b)|.float b _=>some (.flt b)|.ref a=>some (.ref a)|.type n=>some (.ty n)|_=>none
theorem aP.abs{x:V}{u:Value}(r:aP x u):aLV u=some x:=by
 cases x with
 | non=>cases r;rfl|bl _=>cases r;rfl|int _=>obtain⟨t,rfl⟩:=r;rfl|str _=>obtain⟨t,rfl⟩:=r;rfl|byt _=>obtain⟨t,rfl⟩:=r;rfl|flt _=>obtain⟨t,rfl⟩:=r;rfl|ref _=>cases r;rfl|ty _=>cases r;rfl
theorem aP.inj{x y:V}{u:Value}(r:aP x u)(q:aP y u):x=y:=Au (r.abs.symm.trans q.abs)
theorem aM.inj:∀{xs ys:List V} {us:List Value},aM xs us->aM ys us->xs=ys
 | _,_,_,.nil,.nil=>rfl|_,_,_,.cons r t,.cons r' t'=>by rw[r.inj r',aM.inj t t']
section
variable {X:Cx} {pins:List (Addr×Obj)} {σ:St} {H:Hp} {s:Ad} {a:Addr} {xs ys:List V}
theorem SqL.of{K:An}(h:H a=some (.lst xs)):SqL K H a xs:=.inl (.inl h)
theorem SqT.of{K:An}(h:H a=some (.tup xs)):SqT K H a xs:=.inl (.inl h)
theorem Inv.list(I:Inv X pins σ H s)(h:SqL X.K H a xs):∃its:List Value,aM xs its/\PlainL s.heap a its.toArray/\xs.length<=sizeLine:=by
 rcases h with h|⟨o,its,n,B,l,hd,hs,hz,r⟩
 obtain⟨z,its,n,r,e⟩:=h.ok I.hok;exact⟨its,r,⟨_,n,e,rfl,rfl,rfl⟩,z⟩;refine⟨its.toList,r,⟨o,n,I.kIn a o B,l,hd,by simpa using hs⟩,?_⟩;have e:=r.length;simp only[AM] at e;omega
theorem Inv.tuple(I:Inv X pins σ H s)(h:SqT X.K H a xs):∃its:List Value,aM xs its/\IsTup s.heap a its.toArray/\xs.length<=sizeLine:=by
 rcases h with h|⟨o,its,n,B,l,hs,hz,r⟩
 obtain⟨z,its,r,p⟩:=h.ok I.hok;exact⟨its,r,p,z⟩;refine⟨its.toList,r,⟨o,I.kIn a o B,l,n,by simpa using hs⟩,?_⟩;have e:=r.length;simp only[AM] at e;omega
theorem Inv.list_inj(I:Inv X pins σ H s)(h:SqL X.K H a xs)(h':SqL X.K H a ys):xs=ys:=by
 obtain⟨its,r,⟨o,n,e,_,_,d⟩,_⟩:=I.list h;obtain⟨its',B,⟨o',n',l,_,_,d'⟩,_⟩:=I.list h';rw[e] at l;cases l;rw[d] at d';injection d' with d1 _
 have:its=its':=by simpa using congrArg Array.toList d1
 subst this;exact r.inj B
theorem Inv.tuple_inj(I:Inv X pins σ H s)(h:SqT X.K H a xs)(h':SqT X.K H a ys):xs=ys:=by
 obtain⟨its,r,⟨o,e,_,n,d⟩,_⟩:=I.tuple h;obtain⟨its',B,⟨o',l,_,n',d'⟩,_⟩:=I.tuple h';rw[e] at l;cases l;rw[d] at d';injection d' with d1 _
 have:its=its':=by simpa using congrArg Array.toList d1
 subst this;exact r.inj B
end
abbrev Cx.wish(X:Cx)(E:Value->Ad->Prop):Cx:={ X with xe:=E }
abbrev Cx.nox(X:Cx):Cx:=X.wish λ_ _=>False
theorem Cx.Ok.wish{X:Cx}(ok:X.Ok)(E:Value->Ad->Prop):(X.wish E).Ok:=
 ⟨ok.mod,ok.kind,ok.glob,ok.blt,ok.above,ok.inj,ok.has,ok.cab,ok.hd,ok.frames,ok.stk,ok.exf,ok.bs,ok.bsz,ok.noex,ok.exfs,ok.funs,ok.frf⟩
theorem Cx.Ok.unwish{X:Cx}{E:Value->Ad->Prop}(ok:(X.wish E).Ok):X.Ok:=
 ⟨ok.mod,ok.kind,ok.glob,ok.blt,ok.above,ok.inj,ok.has,ok.cab,ok.hd,ok.frames,ok.stk,ok.exf,ok.bs,ok.bsz,ok.noex,ok.exfs,ok.funs,ok.frf⟩
section
variable {X:Cx} {pins:List (Addr×Obj)} {σ:St} {H:Hp} {s:Ad} {E:Value->Ad->Prop}
theorem Inv.wish(I:Inv X pins σ H s)(E:Value->Ad->Prop):Inv (X.wish E) pins σ H s:=⟨I.ok.wish E,I.os,I.bare,I.base,I.loc,I.cell,I.free,I.freeC,I.pin,I.hok,I.len⟩
theorem Inv.unwish(I:Inv (X.wish E) pins σ H s):Inv X pins σ H s:=⟨I.ok.unwish,I.os,I.bare,I.base,I.loc,I.cell,I.free,I.freeC,I.pin,I.hok,I.len⟩
theorem SP.unwish{D:Ends}{f:Flow}{l:Ad}(h:SP (X.wish E) pins D f l):SP X pins D f l:=by
 cases f with
 | next=>obtain⟨σ',H',I,q⟩:=h;exact⟨σ',H',I.unwish,q⟩|brk=>obtain⟨σ',H',I,q⟩:=h;exact⟨σ',H',I.unwish,q⟩|cont=>obtain⟨σ',H',I,q⟩:=h;exact⟨σ',H',I.unwish,q⟩|ret u=>obtain⟨v,σ',H',I,r,q⟩:=h;exact⟨v,σ',H',I.unwish,r,q⟩
theorem PSs.nox{st:List BR}{t:TS}(h:PSs X.nox st t):PSs X st t:=λpins s σ H D I l=>Cy (h pins s σ H D (I.wish _) l) (λ_ _ q=>q.unwish) λ_ _ z=>BJ z
end
section
variable {X:Cx} {st:BR} {rest:List BR} {t u:TS} {e:Av} {te:TE} {pos:CF}
noncomputable def aIK:TS:=λD σ H=>D.nx σ H
noncomputable def aLW(t u:TS):TS:=λD σ H=>t { D with nx:=u D } σ H
theorem wM:PSs X [] aIK:=λ_ _ σ H _ I h=>Eo ⟨σ,H,I,h⟩
theorem iH(B:PS X st t)(G:PSs X rest u):PSs X (st::rest) (aLW t u):=by
 intro pins s σ H D I h;refine HL (thn (B pins s σ H { D with nx:=u D } I h) λf s1 q=>?_);cases f with
 | next=>obtain⟨σ',H',l,q⟩:=q;exact G pins s1 σ' H' D l q|ret v=>exact q|brk=>exact q|cont=>exact q
theorem pV(l:PS X st t):PSs X [st] t:=by
 intro pins s σ H D I h;refine HL (thn (l pins s σ H D I h) λf s1 q=>?_);cases f with
 | next=>exact Eo q|ret v=>exact q|brk=>exact q|cont=>exact q
theorem Inv.quiet{pins:List (Addr×Obj)}{σ:St}{H:Hp}{s:Ad}(I:Inv X pins σ H s):JQ X.env=false:=by simp[JQ,I.ok.kind]
noncomputable def aIL(te:TE):TS:=λD σ H=>te σ H λ_ H1=>D.nx σ H1
theorem fS(B:PE X e te)(hs:G3 e none pos.line X.env=pure false:=by rfl):PS X (.Expr e pos) (aIL te):=by intro pins s σ H D I h;exact wpAny_Expr_any (thn (B pins s σ H _ I h) λv s1 ⟨x,H1,l,L,G⟩=>⟨σ,H1,l,G⟩) I.quiet hs
noncomputable def aLX(te:TE):TS:=λD σ H=>te σ H D.rt
theorem pW(B:PE X e te):PS X (.Return (some e) pos) (aLX te):=by intro pins s σ H D I h;exact wpAny_Return_some (thn (B pins s σ H _ I h) λv s1 ⟨x,H1,l,L,G⟩=>⟨x,σ,H1,l,L,G⟩)
noncomputable def aLY(c:TT)(t u:TS):TS:=λD σ H=>c σ H λb H1=>if b=true then t D σ H1 else u D σ H1
theorem aIM{c:Av}{a b:List BR}{G:TT}(M:PT X c G)(L:PSs X a t)(hb:PSs X b u):PS X (.If c a b pos) (aLY G t u):=by
 intro pins s σ H D I h;refine wpAny_If (thn (M pins s σ H _ I h) λd s1 ⟨H1,l,B⟩=>?_);cases d with
 | true=>exact L pins s1 σ H1 D l B|false=>exact hb pins s1 σ H1 D l B
noncomputable def aGr:TS:=λ_ _ _=>False
theorem zH{l:List BR}:PSs X l aGr:=λ_ _ _ _ _ _ h=>h.elim
end
abbrev TG:=V->St->Hp->(St->Hp->Prop)->Prop
abbrev TGs:=List V->St->Hp->(St->Hp->Prop)->Prop
noncomputable def PG(X:Cx)(target:Av)(t:TG):Prop:=
 ∀(pins:List (Addr×Obj)) (s:Ad) (σ:St) (H:Hp) (v:V) (u:Value) (Q:St->Hp->Prop),Inv X pins σ H s->aP v u->t v σ H Q ->
  Ap (A2 X.prog X.w) X.A (FJ target X.env u) (λ_ s'=>∃σ' H',Inv X pins σ' H' s'/\Q σ' H') X.xe s
noncomputable def PGs(X:Cx)(ts:List Av)(t:TGs):Prop:=
 ∀(pins:List (Addr×Obj)) (s:Ad) (σ:St) (H:Hp) (vs:List V) (us:List Value) (Q:St->Hp->Prop),Inv X pins σ H s->aM vs us->t vs σ H Q ->
  Ap (A2 X.prog X.w) X.A (assignInOrder ((CY ts X.env).map (·.2)) us) (λ_ s'=>∃σ' H',Inv X pins σ' H' s'/\Q σ' H') X.xe s
abbrev aGs:=V->V->V->Hp->(Hp->Prop)->Prop
noncomputable def aIN(X:Cx)(t:aGs):Prop:=
 ∀(pins:List (Addr×Obj)) (s:Ad) (σ:St) (H:Hp) (o i v:V) (ov iv u:Value) (Q:Hp->Prop),Inv X pins σ H s->aP o ov->aP i iv->aP v u->t o i v H Q ->
  Ap (A2 X.prog X.w) X.A (setItem ov iv u) (λ_ s'=>∃H',Inv X pins σ H' s'/\Q H') X.xe s
section
variable {X:Cx} {pos:CF}
noncomputable def nT(i:Nat):TG:=λv σ H Q=>Q (σ.set i (some v)) H
theorem wN{i:Nat}{x:Str}(B:X.N.Nodup)(hi:X.N[i]? = some x)(L:Loc X.env.scope x)(G:X.fn x=true\/X.env.scope.names.lookup x=some .local:=by first|exact .inl rfl|exact .inr rfl|assumption):PG X (.Name x pos) (nT i):=by intro pins s σ H v u Q I r h;exact Hi (iG I B hi L r (λM l=>⟨_,H,l,h⟩) G)
noncomputable def aIO:TGs:=λvs σ H Q=>vs=[]/\Q σ H
noncomputable def aFz(t:TG)(u:TGs):TGs:=λvs σ H Q=>∃v r,vs=v::r/\t v σ H λσ' H'=>u r σ' H' Q
theorem aDK:PGs X [] aIO:=by intro pins s σ H vs us Q I r h;obtain⟨e,h⟩:=h;subst e;cases r;exact assignInOrder_nil ⟨σ,H,I,h⟩
theorem aAR{e:Av}{es:List Av}{t:TG}{u:TGs}(L:PG X e t)(M:PGs X es u)
 (hs:(CY (e::es) X.env).map (·.2)=FJ e X.env::(CY es X.env).map (·.2):=by rfl):PGs X (e::es) (aFz t u):=by
 intro pins s σ H vs us Q I r h;obtain⟨v,W,G,h⟩:=h;subst G;cases r with
 | cons r rr=>rw[hs];refine assignInOrder_cons (thn (L pins s σ H _ _ _ I r h) λ_ s1 ⟨l,H1,B,U⟩=>?_);exact M pins s1 l H1 _ _ Q B rr U
noncomputable def aIP(K:An)(n:Nat)(t:TGs):TG:=λv σ H Q=>∃a xs,v=.ref a/\SqT K H a xs/\xs.length=n/\t xs σ H Q
theorem aGt{es:List Av}{k:Nat}{t:TGs}{n:Nat}(M:X.calm=true)(h:PGs X es t)
 (U:(CY es X.env).length=n:=by rfl) (l:(CY es X.env).findIdx? (·.1)=none:=by rfl):PG X (.Tuple es k pos) (aIP X.K n t):=by intro pins s σ H v u Q I r B;obtain⟨a,xs,L,W,hl,B⟩:=B;subst L;cases r;obtain⟨its,rv,Z,hz⟩:=I.tuple W;refine assign_Tuple_tuple (I.ok.hd M) Z (by simp[U,<-hl,rv.length]) l λh' hx=>?_;have G:Inv X pins σ H { s with heap:=h' }:=I.kept (t':=s.toks) λb o e=>hx b o (Az (Am e)) e;exact h pins _ σ H xs _ Q G (by simpa using rv) B
noncomputable def aLZ(to ti:TE)(t:aGs):TG:=λv σ H Q=>to σ H λo H1=>ti σ H1 λi H2=>t o i v H2 λH3=>Q σ H3
theorem aGu{o i:Av}{L G:TE}{t:aGs}(ho:PE X o L)(hi:PE X i G)(hs:aIN X t)
 (ha:∀v,FJ (.Subscript o i pos) X.env v=(do
  let l<-FK [v] (Cc o X.env)
  let B<-FK [v,l] (Cc i X.env)
  Hj pos
  FK [v,l,B] (setItem l B v)
  release [v,l,B] []):=by intro _;rfl):PG X (.Subscript o i pos) (aLZ L G t):=by intro pins s σ H v u Q I r h;rw[ha];refine Aa (BA (thn (ho pins s σ H _ I h) λl s1 ⟨x,H1,W,r1,q1⟩=>?_));refine Aa (BA (thn (hi pins s1 σ H1 _ W q1) λB s2 ⟨y,M,Z,r2,q2⟩=>?_));refine Aa (GH (Aa (BA (thn (hs pins s2 σ M x y v l B u _ Z r1 r2 r q2) λ_ s3 ⟨U,I3,q3⟩=>?_))));exact wpAny_release ⟨σ,U,I3,q3⟩
noncomputable def aGv(te:TE)(g:TG):TS:=λD σ H=>te σ H λx H1=>g x σ H1 D.nx
theorem aAS{tg e:Av}{te:TE}{g:TG}(G:PE X e te)(L:PG X tg g)(hs:swapsWithSole [tg] e pos.line X.env=pure false:=by rfl)(M:swappedStores [tg] e X.env=pure none:=by rfl)
 (B:(CY [tg] X.env).map (·.2)=[FJ tg X.env]:=by rfl):PS X (.Assign [tg] e pos) (aGv te g):=by intro pins s σ H D I h;refine wpAny_Assign_stores (thn (G pins s σ H _ I h) λv s1 ⟨x,H1,l,W,U⟩=>?_) hs M;rw[B];exact thn (L pins s1 σ H1 x v _ l W U) λ_ s2 q=>q
theorem jE{i:Nat}{x:Str}{e:Av}{te:TE}{l:CF}(L:X.N.Nodup)(hi:X.N[i]? = some x)(W:Loc X.env.scope x)(M:PE X e te)(hs:G3 e (some (.Name x l)) pos.line X.env=pure false:=by rfl)(U:X.fn x=true\/X.env.scope.names.lookup x=some .local:=by first|exact .inl rfl|exact .inr rfl|assumption) :
 PS X (.Assign [.Name x l] e pos) (aGv te (nT i)):=by intro pins s σ H D I h;refine wpAny_Assign_Name (thn (M pins s σ H _ I h) λv s1 ⟨y,H1,B,r1,Z⟩=>?_) hs;exact iG B L hi W r1 (λs2 G=>⟨_,H1,G,Z⟩) U
end
structure It where
 go:Nat->Hp->Prop
 yld:Nat->Hp->V->Hp->Prop
 stop:Nat->Hp->Prop
noncomputable def iI(X:Cx)(pins:List (Addr×Obj))(H:Hp)(b:Addr):Prop:=
 H b=none/\b≠X.env.locals/\b∉X.fs/\(b∈X.ex\/X.s₀.heap.objs.size<=b)/\(∀x c,X.env.cells.lookup x=some c->c≠b)/\∀p∈X.pn++pins,p.1≠b
theorem Inv.fpOk{X:Cx}{pins:List (Addr×Obj)}{σ:St}{H H':Hp}{s:Ad}{b:Addr}(I:Inv X pins σ H s)(hb:s.heap.objs.size<=b)(l:H' b=none):iI X pins H' b:=by refine⟨l,BC (A8 I.lt hb),I.nofs hb,.inr (AX I.sz hb),λx c e z=>?_,λp B z=>?_⟩;obtain⟨v,q⟩:=I.cell x c e;exact absurd (A8 q.lt (by rw[z];exact hb)) (AN _);exact absurd (A8 (Am (I.pin p B).1) (by rw[z];exact hb)) (AN _)
structure uI (P:A0) (w:AH) (K:An) (tg:Av) (J'':It) (fp:List Addr) (it:Addr) (tn:Nat->Heap->Prop):Prop where
 mem:it∈fp
 obj:∀i h,tn i h->∀b∈fp,∃o,h.get? b=some o/\∀v,o.data≠.cell v
 keep:∀i h h',tn i h->(∀b∈fp,∀o,h.get? b=some o->h'.get? b=some o)->tn i h'
 item:∀(X:Cx),X.prog=P->X.w=w->X.K=K->X.calm=true->∀(i:Nat) (pins:List (Addr×Obj)) (s:Ad) (σ:St) (H:Hp) (E:Value->Ad->Prop),Inv X pins σ H s->(∀b∈fp,iI X pins H b)->tn i s.heap->J''.go i H ->
  Ap (A2 P w) X.A (Dd (.ref it)) (λr s1=>∃u,r=some u /\
   Ap (A2 P w) X.A (Ep tg (.ref it) u) (λ_ s2=>∃x H',Inv X pins σ H' s2/\aP x u/\J''.yld i H x H'/\tn (i+1) s2.heap/\∀b∈fp,H' b=none) E s1) E s
 done:∀(X:Cx),X.prog=P->X.w=w->X.K=K->X.calm=true->∀(i:Nat) (pins:List (Addr×Obj)) (s:Ad) (σ:St) (H:Hp) (E:Value->Ad->Prop),Inv X pins σ H s->(∀b∈fp,iI X pins H b)->tn i s.heap->J''.stop i H ->
  Ap (A2 P w) X.A (Dd (.ref it)) (λr s1=>r=none/\Inv X pins σ H s1) E s
 self:∀(A:AV) (i:Nat) (s:Ad) (Q:Value->Ad->Prop) (E:Value->Ad->Prop),tn i s.heap->Q (.ref it) s->Ap (A2 P w) A (IC (.ref it)) Q E s
abbrev TI:=St->Hp->(It->Hp->Prop)->Prop
noncomputable def PIE(X:Cx)(pins:List (Addr×Obj))(σ:St)(tg:Av)(R:It->Hp->Prop)(itv:Value)(s2:Ad):Prop:=
 ∃(it:Addr) (fp:List Addr) (tn:Nat->Heap->Prop) (J'':It) (H':Hp),itv=.ref it/\Inv X pins σ H' s2/\uI X.prog X.w X.K tg J'' fp it tn/\tn 0 s2.heap/\(∀b∈fp,iI X pins H' b)/\R J'' H'
noncomputable def PI(X:Cx)(tg iter:Av)(wi:TI):Prop:=
 ∀(pins:List (Addr×Obj)) (s:Ad) (σ:St) (H:Hp) (R:It->Hp->Prop),Inv X pins σ H s->wi σ H R ->
  Ap (A2 X.prog X.w) X.A (Cc iter X.env) (λv s1=>Ap (A2 X.prog X.w) X.A (IC v) (PIE X pins σ tg R) X.xe s1) X.xe s
theorem nU{M:Ic}{A:AV}{E:Value->Ad->Prop}{s:Ad}{tg:Av}{it:Addr}{u:Value}{o:Obj}{n:String}{vs:Array Value}{Q:Unit->Ad->Prop}(I:s.heap.get? it=some o)(B:o.cls=.type n)(hd:o.data=.fields vs)
 (G:["enumerate", "zip", "dict_itemiterator", "dict_reverseitemiterator", "odict_iterator", "itertools.zip_longest", "itertools.pairwise"].contains n=false) (l:Q () s):Ap M A (Ep tg (.ref it) u) Q E s:=by
 unfold Ep;cases tg <;> first
  | exact Af l
  | (cases u <;> first
   | exact Af l
   | (refine Aa (wpAny_load I ?_)
      rw[B,hd];show Ap M A (if (["enumerate", "zip", "dict_itemiterator", "dict_reverseitemiterator", "odict_iterator", "itertools.zip_longest", "itertools.pairwise"].contains n&&vs[0]?==some (BD _))=true then _ else _) Q E s;rw[if_neg (by intro h;rw[G,ID] at h;cases h)];exact Af l))
noncomputable def Itl(K:An)(a:Addr):It:=
 ⟨λi H=>∃xs x,SqL K H a xs/\xs[i]? = some x,λi H x H'=>H'=H/\∀xs,SqL K H a xs->xs[i]? = some x,λi H=>∃xs,SqL K H a xs/\xs.length<=i⟩
noncomputable def Itt(K:An)(a:Addr):It:=
 ⟨λi H=>∃xs x,SqT K H a xs/\xs[i]? = some x,λi H x H'=>H'=H/\∀xs,SqT K H a xs->xs[i]? = some x,λi H=>∃xs,SqT K H a xs/\xs.length<=i⟩
noncomputable def Itr(lo:Int)(n:Nat):It:=⟨λi _=>i<n,λi H x H'=>H'=H/\x=.int (lo+i),λi _=>n<=i⟩
theorem nV{P:A0}{w:AH}{K:An}{tg:Av}(a it:Addr):uI P w K tg (Itl K a) [it] it (λi h=>h.IsListIter it a i) where
 mem:=by simp
 obj:=λi h st b hb=>by
  have e:b=it:=by simpa using hb
  subst e;obtain⟨o,e,c,d⟩:=st;exact⟨o,e,λv z=>by rw[d] at z;cases z⟩
 keep:=λi h h' st k=>st.at λo e=>k it (by simp) o e
 item:=by intro X M W L hc i pins s σ H E I B st U;subst M W L;obtain⟨xs,x,G,Z⟩:=U;obtain⟨its,rv,p,hz⟩:=I.list G;obtain⟨u,hu,ru⟩:=rv.get Z;obtain⟨f0,f1,f2,f3,f4,f5⟩:=B it (by simp);refine wpAny_pyNext_list_item st p.isList (x:=u) (by simpa using hu) λh' l sb=>?_;have I1:Inv X pins σ H { s with heap:=h' }:=I.turned (t':=s.toks) (λb o hb e=>(sb.2 b hb).trans e) f0 f1 f3 f4 f5;obtain⟨o,e,c,d⟩:=id l;exact⟨u,rfl,nU (s:={ s with heap:=h' }) e c d (by decide) ⟨x,H,I1,ru,⟨rfl,λys hy=>by rw[I.list_inj hy G];exact Z⟩,l,λb hb=>(B b hb).1⟩⟩
 done:=by intro X M W L hc i pins s σ H E I B st U;subst M W L;obtain⟨xs,G,Z⟩:=U;obtain⟨its,rv,p,hz⟩:=I.list G;obtain⟨f0,f1,f2,f3,f4,f5⟩:=B it (by simp);have hl:=rv.length;exact wpAny_pyNext_list_end (I.ok.hd hc) st p.isList (by simp;omega) λh' eb=>⟨rfl,I.turned (t':=s.toks) (λb o hb e=>eb b o hb e) f0 f1 f3 f4 f5⟩
 self:=λ_ _ _ _ _ st h=>wpAny_pyIter_listiter st h
theorem uJ{P:A0}{w:AH}{K:An}{tg:Av}(a it:Addr):uI P w K tg (Itt K a) [it] it (λi h=>h.IsTupleIter it a i) where
 mem:=by simp
 obj:=λi h st b hb=>by
  have e:b=it:=by simpa using hb
  subst e;obtain⟨o,e,c,d⟩:=st;exact⟨o,e,λv z=>by rw[d] at z;cases z⟩
 keep:=λi h h' st k=>st.at λo e=>k it (by simp) o e
 item:=by intro X M W L hc i pins s σ H E I B st U;subst M W L;obtain⟨xs,x,G,Z⟩:=U;obtain⟨its,rv,p,hz⟩:=I.tuple G;obtain⟨u,hu,ru⟩:=rv.get Z;obtain⟨f0,f1,f2,f3,f4,f5⟩:=B it (by simp);refine wpAny_pyNext_tuple_item st (show s.heap.IsTuple a its.toArray from p) (x:=u) (by simpa using hu) λh' l sb=>?_;have I1:Inv X pins σ H { s with heap:=h' }:=I.turned (t':=s.toks) (λb o hb e=>(sb.2 b hb).trans e) f0 f1 f3 f4 f5;obtain⟨o,e,c,d⟩:=id l;exact⟨u,rfl,nU (s:={ s with heap:=h' }) e c d (by decide) ⟨x,H,I1,ru,⟨rfl,λys hy=>by rw[I.tuple_inj hy G];exact Z⟩,l,λb hb=>(B b hb).1⟩⟩
 done:=by intro X M W L hc i pins s σ H E I B st U;subst M W L;obtain⟨xs,G,Z⟩:=U;obtain⟨its,rv,p,hz⟩:=I.tuple G;obtain⟨f0,f1,f2,f3,f4,f5⟩:=B it (by simp);have hl:=rv.length;exact wpAny_pyNext_tuple_end (I.ok.hd hc) st (show s.heap.IsTuple a its.toArray from p) (by simp;omega) λh' eb=>⟨rfl,I.turned (t':=s.toks) (λb o hb e=>eb b o hb e) f0 f1 f3 f4 f5⟩
 self:=λ_ _ _ _ _ st h=>wpAny_pyIter_tupleiter st h
theorem uK{P:A0}{w:AH}{K:An}{tg:Av}(it:Addr)(lo:Int)(n:Nat):uI P w K tg (Itr lo n) [it] it (λi h=>JR h it (lo+(i:Nat)*1) ((n:Int)-(i:Nat)) 1) where
 mem:=by simp
 obj:=λi h st b hb=>by
  have e:b=it:=by simpa using hb
  subst e;exact⟨_,st,λv z=>by
   have z':Ie _=G4 v:=z;cases z'⟩
 keep:=λi h h' st k=>k it (by simp) _ st
 item:=by intro X L W G M i pins s σ H E I B st U;subst L W G;obtain⟨f0,f1,f2,f3,f4,f5⟩:=B it (by simp);have W0:=Walks.range (prog:=X.prog) (w:=X.w) (I.ok.hd M) it lo 1 n;refine W0.item i s _ _ U st λv h' tk hv l kk=>?_;obtain⟨t,rfl⟩:=hv;have Z:Inv X pins σ H { s with heap:=h',toks:=tk }:=I.turned (λb o hb e=>kk b o (by simpa using hb) e) f0 f1 f3 f4 f5;refine⟨_,rfl,nU (s:={ s with heap:=h',toks:=tk }) (n:= "range_iterator") l rfl rfl (by decide) ⟨.int (lo+i),H,Z,⟨t,?_⟩,⟨rfl,rfl⟩,l,λb hb=>(B b hb).1⟩⟩;rw[JS]
 done:=by intro X L W G M i pins s σ H E I B st U;subst L W G;obtain⟨f0,f1,f2,f3,f4,f5⟩:=B it (by simp);exact wpAny_pyNext_range_end (I.ok.hd M) st (by have:n<=i:=U;omega) λh' eb=>⟨rfl,I.turned (t':=s.toks) (λb o hb e=>eb b o hb e) f0 f1 f3 f4 f5⟩
 self:=λ_ _ _ _ _ st h=>wpAny_pyIter_rangeiter st h
section
variable {X:Cx} {tg:Av}
noncomputable def aIQ(K:An)(tl:TE):TI:=λσ H R=>tl σ H λx H1=>∃a,x=.ref a/\(∃xs,SqL K H1 a xs)/\R (Itl K a) H1
theorem aDL{l:Av}{G:TE}(hl:PE X l G):PI X tg l (aIQ X.K G):=by
 intro pins s σ H R I h;refine thn (hl pins s σ H _ I h) λv s1 ⟨x,H1,B,U,M⟩=>?_;obtain⟨a,e,⟨xs,L⟩,q⟩:=M;subst e;cases U;obtain⟨its,rv,p,hz⟩:=B.list L;refine Dg p.isList ?_;refine⟨s1.heap.objs.size,[s1.heap.objs.size],_,_,H1,rfl,B.kept (t':=s1.toks) λb o e=>Ab _ e,nV a _,⟨_,Aq _ rfl,rfl,rfl⟩,λb hb=>?_,q⟩;have e:b=s1.heap.objs.size:=by simpa using hb
 subst e;exact B.fpOk (As _) (B.hok.fresh (As _))
theorem rL{pins:List (Addr×Obj)}{σ:St}{H:Hp}{s:Ad}{R:It->Hp->Prop}{E:Value->Ad->Prop}{lo hi:Int}{t u v:Tok}{tk:Nat}(I:Inv X pins σ H s)(L:-(2 ^ 62)<=lo)(M:lo<2 ^ 62)(U:-(2 ^ 62)<=hi)(W:hi<2 ^ 62)
 (q:R (Itr lo (hi-lo).toNat) H):Ap (A2 X.prog X.w) X.A (IC (.ref s.heap.objs.size)) (PIE X pins σ tg R) E { s with heap:=s.heap.push { cls:=.type "range",data:=.fields #[.int lo t,.int hi u,.int 1 v] },toks:=tk }:=by
 refine wpAny_pyIter_range (IsRange.new ..) (small_one L M U W) ?_;have l:Inv X pins σ H { s with heap:=s.heap.push { cls:=.type "range",data:=.fields #[.int lo t,.int hi u,.int 1 v] },toks:=tk }:=I.kept λb o e=>Ab _ e;refine⟨(s.heap.push { cls:=.type "range",data:=.fields #[.int lo t,.int hi u,.int 1 v] }).objs.size,[(s.heap.push { cls:=.type "range",data:=.fields #[.int lo t,.int hi u,.int 1 v] }).objs.size],_,_,H,rfl,
  l.kept (t':=tk) λb o e=>Ab _ e,uK _ lo (hi-lo).toNat,?_,λb hb=>?_,q⟩
 have B:lo+((0:Nat):Int)*1=lo:=by simp
 have G:(((hi-lo).toNat:Nat):Int)-((0:Nat):Int)=Jz lo hi 1:=by rw[rangeSize_one];split <;> omega
 show JR _ _ (lo+((0:Nat):Int)*1) ((((hi-lo).toNat:Nat):Int)-((0:Nat):Int)) 1;rw[B,G];exact Aq _ rfl;have e:b=(s.heap.push { cls:=.type "range",data:=.fields #[.int lo t,.int hi u,.int 1 v] }).objs.size:=by simpa using hb
 subst e;exact l.fpOk (As _) (l.hok.fresh (As _))
noncomputable def aIR(ta:TA):TI:=λσ H R=>ta σ H λvs H1=>∃j:Int,vs=[.int j]/\-(2 ^ 62)<=j/\j<2 ^ 62/\R (Itr 0 j.toNat) H1
noncomputable def aIS(ta:TA):TI:=λσ H R=>ta σ H λvs H1=>∃i j:Int,vs=[.int i,.int j]/\(-(2 ^ 62)<=i/\i<2 ^ 62/\-(2 ^ 62)<=j/\j<2 ^ 62)/\R (Itr i (j-i).toNat) H1
theorem zI{a:Av}{B:TA}{p pos:CF}(M:Gl X "range")(hm:X.mg "range" = none)(L:PA X [a] B)(hs:A6 [a] X.env=[(false,Cc a X.env)]:=by rfl):PI X tg (.Call (.Name "range" p) [a] [] pos) (aIR B):=by
 intro pins s σ H R I h;refine JT (cJ I M hm boot_range (Ba (thn (L pos pins s σ H _ I h) λus s1 ⟨vs,H1,G,W,l⟩=>?_) hs rfl));obtain⟨j,e,l,U,q⟩:=l;subst e;cases W with
 | cons r rr=>cases rr;obtain⟨t,rfl⟩:=r;exact call_range_1 (rL G (by omega) (by omega) l U (by simpa using q))
theorem zJ{a b:Av}{G:TA}{p pos:CF}(U:Gl X "range")(hm:X.mg "range" = none)(M:PA X [a,b] G)(hs:A6 [a,b] X.env=[(false,Cc a X.env),(false,Cc b X.env)]:=by rfl)(l:A6 [b] X.env=[(false,Cc b X.env)]:=by rfl) :
 PI X tg (.Call (.Name "range" p) [a,b] [] pos) (aIS G):=by
 intro pins s σ H R I h;refine JT (cJ I U hm boot_range (Ba (thn (M pos pins s σ H _ I h) λus s1 ⟨vs,H1,L,r1,B⟩=>?_) (by rw[hs,l]) (by rw[l];rfl)));obtain⟨i,j,e,⟨B,W,Z,q4⟩,q⟩:=B;subst e;cases r1 with
 | cons r rr=>
  cases rr with
  | cons r' rr=>cases rr;obtain⟨t,rfl⟩:=r;obtain⟨t',rfl⟩:=r';exact call_range_2 (rL L B W Z q4 q)
noncomputable def aMa(wi:TI)(g:TG)(tb:TS):TS:=λD σ H=>wi σ H λJ'' H1=>∃W0:Nat->Nat->St->Hp->Prop,(∃m,W0 0 m σ H1)/\∀i m σ H,W0 i m σ H ->
 (J''.stop i H/\D.nx σ H)\/(J''.go i H/\∃N:St->Hp->Prop,(∀σ' H',N σ' H'->∃m',m'<m/\W0 (i+1) m' σ' H')/\∀x H',J''.yld i H x H'->g x σ H' λσ2 H2=>tb { D with nx:=N,ct:=N,bk:=D.nx } σ2 H2)
noncomputable def lE(fp:List Addr)(h:Heap):List (Addr×Obj):=fp.filterMap λb=>(h.get? b).map λo=>(b,o)
theorem eM{fp:List Addr}{h:Heap}{b:Addr}{o:Obj}(hb:b∈fp)(e:h.get? b=some o):(b,o)∈lE fp h:=BK.mpr ⟨b,hb,by rw[e];rfl⟩
theorem zK{fp:List Addr}{h:Heap}{p:Addr×Obj}(B:p∈lE fp h):p.1∈fp/\h.get? p.1=some p.2:=by
 obtain⟨b,hb,e⟩:=BK.mp B;cases q:h.get? b with
 | none=>rw[q] at e;cases e|some o=>rw[q] at e;have l:(b,o)=p:=Au e;subst l;exact⟨hb,q⟩
theorem Inv.pinned{pins:List (Addr×Obj)}{σ:St}{H:Hp}{s:Ad}{fp:List Addr}(I:Inv X pins σ H s)(B:∀b∈fp,iI X pins H b)(G:∀b∈fp,∃o,s.heap.get? b=some o/\∀v,o.data≠.cell v):Inv X (pins++lE fp s.heap) σ H s:=
 I.pins_of λp L=>(Bx.mp L).elim (λz=>I.pin p (AC _ z)) λz=>by obtain⟨hb,e⟩:=zK z;obtain⟨f0,f1,f2,_⟩:=B p.1 hb;obtain⟨o,l,d⟩:=G p.1 hb;rw[e] at l;cases l;exact⟨e,f0,f1,f2,d⟩
theorem Inv.unpinned{pins pl:List (Addr×Obj)}{σ:St}{H:Hp}{s:Ad}(I:Inv X (pins++pl) σ H s):Inv X pins σ H s:=I.pins_of λp l=>I.pin p (AC _ (AK _ l))
theorem aAT{M:Av}{body:List BR}{wi:TI}{g:TG}{tb:TS}{pos:CF}(hp:Fz (A2 X.prog X.w) X.A X.env X.xe)(hc:X.calm=true)(hi:PI X tg M wi)(hg:PG X tg g)(hb:PSs X body tb)
 (hs:∀x,BV M X.env x=pure x:=by intro _;rfl):PS X (.For tg M body [] pos) (aMa wi g tb):=by
 intro pins s σ H D I h;refine wpAny_For (thn (hi pins s σ H _ I h) λv s1 h1=>thn h1 λq8 s2 h2=>?_) hs;obtain⟨it,fp,tn,J'',H2,e,I2,T,st2,f2,W0,⟨m0,w0⟩,q2⟩:=h2;subst e;have U:∀{H':Hp},(∀b∈fp,H' b=none)->∀b∈fp,iI X pins H' b:=λhn b hb=>⟨hn b hb,(f2 b hb).2⟩
 refine codeAny_forLoop_any (λn s'=>∃i σ' H',Inv X pins σ' H' s'/\tn i s'.heap/\(∀b∈fp,H' b=none)/\W0 i n σ' H') ?_ m0 ⟨0,σ,H2,I2,st2,λb hb=>(f2 b hb).1,w0⟩;rintro n s3 ⟨i,W,H3,I3,st3,q1,w3⟩;rcases q2 i n W H3 w3 with⟨stop,qn⟩|⟨go,N,hN,step⟩
 refine D8 hp (thn (T.done X rfl rfl rfl hc i pins s3 W H3 X.xe I3 (U q1) st3 stop) λr s4 ⟨hr,I4⟩=>?_);subst hr;exact Eo ⟨W,H3,I4,qn⟩;refine D8 hp (thn (T.item X rfl rfl rfl hc i pins s3 W H3 X.xe I3 (U q1) st3 go) λr s4 ⟨u,hr,h4⟩=>?_);subst hr;refine D8 hp (thn h4 λ_ s5 ⟨x,H5,I5,r5,y5,q0,q4⟩=>?_);have q3:=I5.pinned (U q4) (T.obj _ _ q0);refine D8 hp (thn (hg _ s5 W H5 x u _ q3 r5 (step x H5 y5)) λ_ s6 ⟨q5,H6,I6,q6⟩=>?_);refine D8 hp (thn (hb _ s6 q5 H6 _ I6 q6) λf s7 Z=>?_);have L:∀{l:St} {B:Hp},Inv X (pins++lE fp s5.heap) l B s7->N l B->∃m,m<n/\∃i σ' H',Inv X pins σ' H' s7/\tn i s7.heap/\(∀b∈fp,H' b=none)/\W0 i m σ' H':=λ{l B} G n7=>by obtain⟨m',hm,w7⟩:=hN l B n7;refine⟨m',hm,i+1,l,B,G.unpinned,T.keep _ _ _ q0 λb hb o e=>(G.pin (b,o) (AC _ (AC _ (eM hb e)))).1,λb hb=>?_,w7⟩;obtain⟨o,e,d⟩:=T.obj _ _ q0 b hb;exact(G.pin (b,o) (AC _ (AC _ (eM hb e)))).2.1
 cases f with
 | next=>obtain⟨l,B,G,n7⟩:=Z;exact L G n7|cont=>obtain⟨l,B,G,n7⟩:=Z;exact L G n7|brk=>obtain⟨l,B,G,Z⟩:=Z;exact⟨l,B,G.unpinned,Z⟩|ret v=>obtain⟨x7,l,B,G,r7,Z⟩:=Z;exact⟨x7,l,B,G.unpinned,r7,Z⟩
end
theorem aAU{K:An}{a:Addr}{xs:List V}{g:TG}{tb:TS}{D:Ends}{σ:St}{H:Hp}(l:Nat->St->Hp->Prop)(U:l 0 σ H)(hl:∀i σ H,i<=xs.length->l i σ H->SqL K H a xs)
 (hs:∀i x σ H,xs[i]? = some x->l i σ H->g x σ H λB I=>tb { D with nx:=l (i+1),ct:=l (i+1),bk:=D.nx } B I) (hd:∀σ H,l xs.length σ H->D.nx σ H) :
 ∃L:Nat->Nat->St->Hp->Prop,(∃m,L 0 m σ H)/\∀i m σ H,L i m σ H ->
  ((Itl K a).stop i H/\D.nx σ H)\/((Itl K a).go i H/\∃N:St->Hp->Prop,(∀σ' H',N σ' H'->∃M,M<m/\L (i+1) M σ' H')/\∀x H',(Itl K a).yld i H x H'->g x σ H' λB I=>tb { D with nx:=N,ct:=N,bk:=D.nx } B I):=by
 refine⟨λi m σ H=>m=xs.length-i/\i<=xs.length/\l i σ H,⟨xs.length,by simp,AW _,U⟩,?_⟩;rintro i m σ H ⟨rfl,hi,p⟩;have q:=hl i σ H hi p;by_cases G:i<xs.length;refine .inr ⟨⟨xs,xs[i],q,by simp[G]⟩,l (i+1),λσ' H' W=>⟨xs.length-(i+1),by omega,rfl,G,W⟩,λx H' y=>?_⟩;obtain⟨e,y⟩:=y;subst e;exact hs i x σ _ (y xs q) p;have e:i=xs.length:=by omega
 subst e;exact .inl ⟨⟨xs,q,As _⟩,hd σ H p⟩
abbrev R2:=V->V->Hp->VK->Prop
noncomputable def OpR(X:Cx)(f:Value->Value->Ko Value)(r:R2):Prop:=
 ∀(pins:List (Addr×Obj)) (s:Ad) (σ:St) (H:Hp) (x y:V) (v u:Value) (Q:VK),Inv X pins σ H s->aP x v->aP y u->r x y H Q ->
  Ap (A2 X.prog X.w) X.A (f v u) (EP X pins σ Q) X.xe s
noncomputable def UnR(X:Cx)(f:Value->Ko Value)(r:V->Hp->VK->Prop):Prop:=
 ∀(pins:List (Addr×Obj)) (s:Ad) (σ:St) (H:Hp) (x:V) (v:Value) (Q:VK),Inv X pins σ H s->aP x v->r x H Q ->
  Ap (A2 X.prog X.w) X.A (f v) (EP X pins σ Q) X.xe s
noncomputable def eE(X:Cx)(f:Value)(r:List V->Hp->VK->Prop):Prop:=
 ∀(pins:List (Addr×Obj)) (s:Ad) (σ:St) (H:Hp) (xs:List V) (us:List Value) (Q:VK),Inv X pins σ H s->aM xs us->r xs H Q ->
  Ap (A2 X.prog X.w) X.A (call f us) (EP X pins σ Q) X.xe s
noncomputable def aMb(X:Cx)(r:V->Hp->(Bool->Hp->Prop)->Prop):Prop:=
 ∀(pins:List (Addr×Obj)) (s:Ad) (σ:St) (H:Hp) (x:V) (v:Value) (Q:Bool->Hp->Prop),Inv X pins σ H s->aP x v->r x H Q ->
  Ap (A2 X.prog X.w) X.A (truthy v) (TP X pins σ Q) X.xe s
noncomputable def tOp(r:R2)(ta tb:TE):TE:=λσ H Q=>ta σ H λx H1=>tb σ H1 λy H2=>r x y H2 Q
noncomputable def tUn(r:V->Hp->VK->Prop)(ta:TE):TE:=λσ H Q=>ta σ H λx H1=>r x H1 Q
noncomputable def rI(C:Int->Int->Prop)(g:Int->Int->V):R2:=λx y H Q=>∃i j,x=.int i/\y=.int j/\C i j/\Q (g i j) H
noncomputable def rI0(g:Int->Int->V):R2:=λx y H Q=>∃i j,x=.int i/\y=.int j/\Q (g i j) H
noncomputable def rU(g:Int->V):V->Hp->VK->Prop:=λx H Q=>∃i,x=.int i/\Q (g i) H
section
variable {X:Cx} {a b c:Av} {ta tb tc:TE} {pos:CF}
theorem aIT(U:PE X a ta)(hb:PE X b tb){pins:List (Addr×Obj)}{s:Ad}{σ:St}{H:Hp}{R:V->V->Hp->Prop}(I:Inv X pins σ H s)
 (h:ta σ H λx H1=>tb σ H1 λy l=>R x y l) {Q:Value->Ad->Prop} {f:Value->Value->Ko Value}
 (W:∀v u s2 x y l,Inv X pins σ l s2->aP x v->aP y u->R x y l->Ap (A2 X.prog X.w) X.A (f v u) Q X.xe s2) :
 Ap (A2 X.prog X.w) X.A (Cc a X.env) (λv B=>Ap (A2 X.prog X.w) X.A (Cc b X.env) (λu G=>Ap (A2 X.prog X.w) X.A (f v u) Q X.xe G) X.xe B) X.xe s:=by refine thn (U pins s σ H _ I h) λv s1 ⟨x,H1,L,r1,Z⟩=>?_;refine thn (hb pins s1 σ H1 _ L Z) λu s2 ⟨y,l,M,r2,q2⟩=>?_;exact W v u s2 x y l M r1 r2 q2
theorem aIU{op:UnaryOp}{r:V->Hp->VK->Prop}(G:UnR X (unaryOp op) r)(B:PE X a ta):PE X (.UnaryOp op a pos) (tUn r ta):=by intro pins s σ H Q I h;exact UnaryOp_ (thn (B pins s σ H _ I h) λv s1 ⟨x,H1,l,M,L⟩=>G pins s1 σ H1 x v Q l M L)
theorem opI{f:Value->Value->Ko Value}{C:Int->Int->Prop}{g:Int->Int->Int}
 (l:∀(i j:Int) (t u:Tok) (s:Ad) (Q:Value->Ad->Prop) (E:Value->Ad->Prop),C i j->Q (.int (g i j) s.toks) { s with toks:=s.toks+1 }->Ap (A2 X.prog X.w) X.A (f (.int i t) (.int j u)) Q E s) :
 OpR X f (rI C λi j=>.int (g i j)):=by intro pins s σ H x y v u Q I G L h;obtain⟨i,j,rfl,rfl,B,q⟩:=h;obtain⟨t,rfl⟩:=G;obtain⟨t',rfl⟩:=L;exact l i j t t' s _ _ B ⟨.int (g i j),H,I.tok _,⟨_,rfl⟩,q⟩
theorem aIV{f:Value->Value->Ko Value}{g:Int->Int->Int}
 (l:∀(i j:Int) (t u:Tok) (s:Ad) (Q:Value->Ad->Prop) (E:Value->Ad->Prop),Q (.int (g i j) s.toks) { s with toks:=s.toks+1 }->Ap (A2 X.prog X.w) X.A (f (.int i t) (.int j u)) Q E s) :
 OpR X f (rI0 λi j=>.int (g i j)):=by intro pins s σ H x y v u Q I B G h;obtain⟨i,j,rfl,rfl,q⟩:=h;obtain⟨t,rfl⟩:=B;obtain⟨t',rfl⟩:=G;exact l i j t t' s _ _ ⟨.int (g i j),H,I.tok _,⟨_,rfl⟩,q⟩
theorem aGw{f:Value->Value->Ko Value}{g:Int->Int->Bool}
 (l:∀(i j:Int) (t u:Tok) (s:Ad) (Q:Value->Ad->Prop) (E:Value->Ad->Prop),Q (.bool (g i j)) s->Ap (A2 X.prog X.w) X.A (f (.int i t) (.int j u)) Q E s) :
 OpR X f (rI0 λi j=>.bl (g i j)):=by intro pins s σ H x y v u Q I B G h;obtain⟨i,j,rfl,rfl,q⟩:=h;obtain⟨t,rfl⟩:=B;obtain⟨t',rfl⟩:=G;exact l i j t t' s _ _ ⟨.bl (g i j),H,I,rfl,q⟩
noncomputable def aMc(i j:Int):Prop:=0<j/\j<1073741824
noncomputable def aGx(i j:Int):Prop:=(-(2 ^ 64)<i/\i<2 ^ 64)\/(-(2 ^ 64)<j/\j<2 ^ 64)
theorem aGx.ok{i j:Int}(h:aGx i j):IntMulOk i j:=by
 rcases h with⟨l,B⟩|⟨l,B⟩
 exact .of_left (Jj l B);exact .of_right (Jj l B)
theorem aGy:OpR X (DH .Add) (rI0 λi j=>.int (i+j)):=aIV λ_ _ _ _ _ _ _ q=>add_int q
theorem aGz:OpR X (DH .Sub) (rI0 λi j=>.int (i-j)):=aIV λ_ _ _ _ _ _ _ q=>sub_int q
theorem aGA:OpR X (DH .Mult) (rI aGx λi j=>.int (i*j)):=opI λ_ _ _ _ _ _ _ l q=>mul_int q l.ok
theorem aDM:OpR X (DH .FloorDiv) (rI aMc λi j=>.int (i / j)):=opI λi j _ _ _ _ _ l q=>by have B:(0:Int)<j:=l.1;have G:j<1073741824:=l.2;exact floordiv_int (by omega) (by rw[Int.fdiv_eq_ediv_of_nonneg i (by omega)];exact q) (.inl (PyProof.noPylong_small (by omega)))
theorem aGB:OpR X (DH .Mod) (rI (λ_ j=>0<j) λi j=>.int (i % j)):=opI λi j _ _ _ _ _ l q=>by have B:(0:Int)<j:=l;exact mod_int' (by omega) (by rw[Int.fmod_eq_emod_of_nonneg i (by omega)];exact q)
theorem unI{f:Value->Ko Value}{g:Int->Int}
 (l:∀(i:Int) (t:Tok) (s:Ad) (Q:Value->Ad->Prop) (E:Value->Ad->Prop),Q (.int (g i) s.toks) { s with toks:=s.toks+1 }->Ap (A2 X.prog X.w) X.A (f (.int i t)) Q E s) :
 UnR X f (rU λi=>.int (g i)):=by intro pins s σ H x v Q I B h;obtain⟨i,rfl,q⟩:=h;obtain⟨t,rfl⟩:=B;exact l i t s _ _ ⟨.int (g i),H,I.tok _,⟨_,rfl⟩,q⟩
theorem aGC:UnR X (unaryOp .USub) (rU λi=>.int (-i)):=unI λ_ _ _ _ _ q=>neg_int q
theorem aAV{pins:List (Addr×Obj)}{σ:St}{H:Hp}{s:Ad}{Q:VK}{k l:Bool}(I:Inv X pins σ H s)(q:Q (.bl k) H)(e:k=l):EP X pins σ Q (.bool l) s:=by subst e;exact⟨.bl k,H,I,rfl,q⟩
theorem aIW:OpR X (C9 .Lt) (rI0 λi j=>.bl (decide (i<j))):=aGw λ_ _ _ _ _ _ _ q=>lt_int q
theorem aIX:OpR X (C9 .LtE) (rI0 λi j=>.bl (decide (i<=j))):=aGw λ_ _ _ _ _ _ _ q=>le_int q
theorem aIY:OpR X (C9 .Gt) (rI0 λi j=>.bl (decide (j<i))):=aGw λ_ _ _ _ _ _ _ q=>gt_int q
theorem aGD:OpR X (C9 .Is) (λx y H Q=>y=.non/\Q (.bl (decide (x=.non))) H):=by
 intro pins s σ H x y v u Q I l B h;obtain⟨rfl,q⟩:=h;cases B;refine is_none_gen (aAV I q ?_);cases x <;> first
  | (cases l;rfl)
  | (obtain⟨t,rfl⟩:=l;rfl)
theorem aDN:OpR X (C9 .IsNot) (λx y H Q=>y=.non/\Q (.bl (!decide (x=.non))) H):=by
 intro pins s σ H x y v u Q I l B h;obtain⟨rfl,q⟩:=h;cases B;refine isnot_none_gen (aAV I q ?_);cases x <;> first
  | (cases l;rfl)
  | (obtain⟨t,rfl⟩:=l;rfl)
theorem aDO{op:CmpOp}{r:R2}(L:OpR X (C9 op) r)(G:PE X a ta)(hb:PE X b tb)(hm:GI op b=false):PE X (.Compare a [op] [b] pos) (tOp r ta tb):=by intro pins s σ H Q I h;exact wpAny_Compare1 (aIT G hb I h λv u s2 x y l B M U q=>L pins s2 σ l x y v u Q B M U q) hm
noncomputable def aFA(t:TE):TT:=λσ H Q=>t σ H λx H'=>∃k,x=.bl k/\Q k H'
theorem aDP{op:CmpOp}{r:R2}(W:OpR X (C9 op) r)(U:PE X a ta)(hb:PE X b tb)(hm:GI op b=false):PT X (.Compare a [op] [b] pos) (aFA (tOp r ta tb)):=by
 intro pins s σ H Q I h;refine wpAny_isTrue_Compare1 (thn (U pins s σ H _ I h) λv s1 ⟨x,H1,G,r1,Z⟩=>thn (hb pins s1 σ H1 _ G Z) λu s2 ⟨y,l,L,r2,q2⟩=>
  thn (W pins s2 σ l x y v u _ L r1 r2 q2) λc s3 ⟨z,B,M,r3,k,e,q3⟩=>?_) hm
 subst e;cases r3;exact BU ⟨B,M,q3⟩
noncomputable def aAW(r r':R2)(ta tb tc:TE):TE:=λσ H Q=>ta σ H λx H1=>tb σ H1 λy H2=>r x y H2 λz H3=>∃k,z=.bl k /\
 (if k=true then tc σ H3 λw' H4=>r' y w' H4 Q else Q (.bl false) H3)
theorem aAX{op l:CmpOp}{r U:R2}(ho:OpR X (C9 op) r)(B:OpR X (C9 l) U)(ha:PE X a ta)(hb:PE X b tb)(hc:PE X c tc)
 (hm:J0 [op,l] [b,c]=false:=by with_unfolding_all rfl):PE X (.Compare a [op,l] [b,c] pos) (aAW r U ta tb tc):=by
 intro pins s σ H Q I h;refine Compare_chain (thn (ha pins s σ H _ I h) λv s1 ⟨x,H1,I1,r1,q1⟩=>chain_link (thn (hb pins s1 σ H1 _ I1 q1) λu s2 ⟨y,Z,I2,W,q2⟩=>
  thn (ho pins s2 σ Z x y v u _ I2 r1 W q2) λd s3 ⟨z,G,L,r3,k,e,M⟩=>?_)) hm
 subst e;cases r3;refine BU ?_;cases k with
 | false=>exact ite_ff ⟨.bl false,G,L,rfl,M⟩|true=>exact ite_tt (chain_last (thn (hc pins s3 σ G _ L M) λw' s4 ⟨z',H4,I4,r4,q4⟩=>B pins s4 σ H4 y z' u w' Q I4 W r4 q4))
theorem aAY{op l:CmpOp}{r U:R2}(ho:OpR X (C9 op) r)(B:OpR X (C9 l) U)(ha:PE X a ta)(hb:PE X b tb)(hc:PE X c tc)
 (hm:J0 [op,l] [b,c]=false:=by with_unfolding_all rfl):PT X (.Compare a [op,l] [b,c] pos) (aFA (aAW r U ta tb tc)):=by
 intro pins s σ H Q I h;refine isTrue_chain (thn (ha pins s σ H _ I h) λv s1 ⟨x,H1,I1,r1,q1⟩=>test_link (thn (hb pins s1 σ H1 _ I1 q1) λu s2 ⟨y,Z,I2,W,q2⟩=>
  thn (ho pins s2 σ Z x y v u _ I2 r1 W q2) λd s3 ⟨z,G,L,r3,k,e,M⟩=>?_)) hm
 subst e;cases r3;refine BU ?_;cases k with
 | false=>obtain⟨k',e',q'⟩:=M;cases e';exact ite_ff ⟨G,L,q'⟩|true=>refine ite_tt (test_last (thn (hc pins s3 σ G _ L M) λw' s4 ⟨z',H4,I4,r4,q4⟩=>thn (B pins s4 σ H4 y z' u w' _ I4 W r4 q4) λd' s5 ⟨z2,H5,I5,r5,k2,e2,q5⟩=>?_));subst e2;cases r5;exact BU ⟨H5,I5,q5⟩
noncomputable def aDQ(K:An)(x:V)(H:Hp)(k:Bool):Prop:=
 match x with
 | .non=>k=false|.bl b=>k=b|.int i=>k=(i != 0)
 | .str y=>y.length<=sizeLine/\k=((y.length:Int) != 0)
 | .byt y=>y.size<=sizeLine/\k=((y.size:Int) != 0)
 | .ref p=>(∃xs,SqL K H p xs/\k=!xs.isEmpty)\/(∃xs,SqT K H p xs/\k=!xs.isEmpty)\/∃kvs,H p=some (.dK kvs)/\k=!kvs.isEmpty|_=>False
theorem uL{κ:Type}{kvs:List (κ×V)}{vs:List (κ×Value)}(r:KV kvs vs):(!vs.isEmpty)=!kvs.isEmpty:=by cases r <;> rfl
theorem lF{xs:List V}{its:List Value}(r:aM xs its):(!its.toArray.isEmpty)=!xs.isEmpty:=by cases r <;> simp
theorem gM:(sizeLine:Nat)<2 ^ 63:=by rw[AS];decide
theorem aAZ:aMb X (λx H Q=>∃k,aDQ X.K x H k/\Q k H):=by
 intro pins s σ H x v Q I G h;obtain⟨k,e,q⟩:=h;have hl:=gM;have hs:sizeLine=16777216:=AS;cases x with
 | non=>cases G;have l:k=false:=e;subst l;exact truthy_none ⟨H,I,q⟩|bl b=>cases G;have l:k=b:=e;subst l;exact BU ⟨H,I,q⟩|int i=>obtain⟨t,rfl⟩:=G;have l:k=(i != 0):=e;subst l;exact PySem.P.truthy_int ⟨H,I,q⟩|str y=>obtain⟨t,rfl⟩:=G;obtain⟨U,l⟩:y.length<=sizeLine/\k=((y.length:Int) != 0):=e;subst l;exact PySem.P.truthy_str (by omega) ⟨H,I.tok _,q⟩|byt y=>obtain⟨t,rfl⟩:=G;obtain⟨U,l⟩:y.size<=sizeLine/\k=((y.size:Int) != 0):=e;subst l;exact PySem.W.truthy_bytes (by omega) ⟨H,I.tok _,q⟩|ref p=>
  cases G;have l:(∃xs,SqL X.K H p xs/\k=!xs.isEmpty)\/(∃xs,SqT X.K H p xs/\k=!xs.isEmpty)\/∃kvs,H p=some (.dK kvs)/\k=!kvs.isEmpty:=e;rcases l with⟨xs,L,l⟩|⟨xs,L,l⟩|⟨kvs,L,l⟩
  subst l;obtain⟨its,r,pl,hz⟩:=I.list L;have B:=r.length;exact wpAny_truthy_list pl.isList (by simp only[Al];omega) ⟨H,I.tok _,by rw[lF r];exact q⟩;subst l;obtain⟨its,r,pl,hz⟩:=I.tuple L;have B:=r.length;exact truthy_tuple pl (by simp only[Al];omega) ⟨H,I.tok _,by rw[lF r];exact q⟩;subst l;obtain⟨hz,M,vs,r,m⟩:kvs.length<=sizeLine/\(p==CH)=false/\∃vs,KV kvs vs/\s.heap.DictOf (eJ X.prog X.w) p vs:=I.hok p _ L;have B:kvs.length=vs.length:=Ji r;exact wpAny_truthy_dict M m (by omega) ⟨H,I.tok _,by rw[uL r];exact q⟩
 | _=>exact(show False from e).elim
theorem aBa(G:PE X a ta)(L:∀l,isTrue a X.env l=(do let v<-l;Hj a.pos;FK [v] (truthy v))) :
 PT X a (λσ H Q=>ta σ H λx H'=>∃k,aDQ X.K x H' k/\Q k H'):=by intro pins s σ H Q I h;exact isTrue_plain (thn (G pins s σ H _ I h) λv s1 ⟨x,H1,B,U,M⟩=>aAZ pins s1 σ H1 x v Q B U M) (L _)
theorem lG{x:V}{us:List Value}(r:aM [x] us):∃u,us=[u]/\aP x u:=by
 cases r with
 | cons l B=>cases B;exact⟨_,rfl,l⟩
theorem zL:eE X (.type "int") (λxs H Q=>(∃i,xs=[.int i]/\Q (.int i) H)\/∃k,xs=[.bl k]/\Q (.int (if k then 1 else 0)) H):=by
 intro pins s σ H xs us Q I r h;rcases h with⟨i,rfl,q⟩|⟨k,rfl,q⟩
 obtain⟨u,rfl,t,rfl⟩:=lG r;exact call_int_int ⟨.int i,H,I,⟨_,rfl⟩,q⟩;obtain⟨u,rfl,l⟩:=lG r;cases l;exact call_int_bool ⟨.int (if k then 1 else 0),H,I.tok _,⟨_,rfl⟩,q⟩
end
structure uM (h:Heap) (x dx C:Addr) (mA:Str->Option Value):Prop where
 obj:h.get? x=some (Co C dx)
 ns:h.Ns1 dx mA
 ne:dx≠x
theorem zM{h:Heap}{dx:Addr}{mA:Str->Option Value}(n:h.Ns1 dx mA):∃od,h.get? dx=some od/\∀name,EQ name od=some (mA name):=by
 obtain⟨o,es,ep,I,hd,G,_,hm⟩:=n;refine⟨o,I,λname=>?_⟩;have e:=hm name;unfold nsFind findBy at e;rw[<-Array.find?_toList] at e;unfold EQ;rw[hd];dsimp only;split;rename_i y q;rw[q] at e;exact congrArg some e;rename_i q;rw[q] at e;have a:es.toList.any (·.refKey)=false:=by rw[Fi];intro y L;obtain⟨z,t,l⟩:=G y (Array.mem_toList_iff.mp L);simp[KM,l]
 have B:¬ es.toList.any (·.refKey)=true:=by rw[a];exact D9
 rw[if_neg B];exact congrArg some e
theorem uM.look{h:Heap}{x dx C:Addr}{mA:Str->Option Value}(I:uM h x dx C mA):∃od,IE h x (Co C dx) C (some od)/\∀name,EQ name od=some (mA name):=
 let ⟨od,ho,hl⟩:=zM I.ns
 ⟨od,⟨I.obj,rfl,rfl,ho⟩,hl⟩
section
variable {prog:A0} {w:AH} {A:AV} {E:Value->Ad->Prop} {s:Ad} {K:An} {x dx C f:Addr} {mA:Str->Option Value} {name:Str} {v:Value}
theorem aDR{l:Bool}{Q:Value->Ad->Prop}(X:K.In s.heap)(I:uM s.heap x dx C mA)(L:DU K C name=true)(M:Fj K C=true)
 (G:B7 K (.ref C) name=some none) (U:mA name=some v) (B:HM v=true) (h:Q v { s with toks:=s.toks+1 }) :
 Ap (A2 prog w) A (K2 (.ref x) name l) Q E s:=by obtain⟨od,J'',hl⟩:=I.look;exact PySem.W.get_value X J'' (EB L).1 (PySem.W.findObj_own M G rfl (by rw[hl,U])) B h
theorem aBb{pl:Ko Bool}{Q:Value×List Value->Ad->Prop}(X:K.In s.heap)(I:uM s.heap x dx C mA)(l:DU K C name=true)
 (B:B7 K (.ref C) name=some (some (.ref f))) (G:Hk K (.ref f)=true) (L:mA name=none) (h:Q (.ref f,[.ref x]) s) :
 Ap (A2 prog w) A (HN (.ref x) name pl) Q E s:=by obtain⟨od,J'',hl⟩:=I.look;exact PySem.W.method_fn X J'' (EB l).1 (EB l).2 B (beq_iff_eq.mp G) (by show(EQ name od).map (·.isSome)=some false;rw[hl,L];rfl) h
theorem aDS{ns:List Str}{Q:Unit->Ad->Prop}(X:K.In s.heap)(I:uM s.heap x dx C mA)
 (hs:B7 K (.ref C) "__setattr__" = some (some (.builtin "object.__setattr__"))) (hp:Hl K C=true) (ht:FZ K C name=some none) (hh:Fj K C=true)
 (hw:Hg mA ns) (q0:ns.length<=sizeLine)
 (h:∀h',uM h' x dx C (λy=>if y=name then some v else mA y)->Bq dx s.heap h'->Q () { s with heap:=h',toks:=s.toks+2 }) :
 Ap (A2 prog w) A (setAttr (.ref x) name v) Q E s:=by obtain⟨od,J'',hl⟩:=I.look;refine PySem.W.set_plain X J'' hs (PySem.W.osa_open (s:={ s with toks:=s.toks+1 }) (r:=none) X J'' hp ht λb=>?_);obtain⟨cd,Z,L⟩:=PySem.W.any_some hh;have hx:s.heap.get? x=some ⟨.ref C,some dx,.plain,#[]⟩:=I.obj;refine Aa (Af (Aa (Aa (IF hx (Aa (Kq (s:={ s with toks:=s.toks+1 }) (PySem.W.looks_clsIn X Z) ?_))))));rw[L];refine Af (a:=some dx) (Aa (Af (Aa ?_)));refine wpAny_nsSet1 (s:={ s with toks:=s.toks+1 }) I.ns λh' l B=>?_;obtain⟨oD,esD,W,U,M,G⟩:=l.count (K3 name v hw);refine Aa (wpAny_lookBehind U (by rw[M];exact pastItsLine_dict (AX G (by rw[Dr];omega))) ?_);exact Af (h _ ⟨(B.2 _ (BS I.ne)).trans I.obj,l,I.ne⟩ B)
theorem aBc{R:GS->Ad->Prop}{vs:List Value}{l:List (Str×Value)}(X:K.In s.heap)(hm:Il K C=true)
 (hi:B7 K (.ref C) "__init__" = some (some (.ref f))) (B:PySem.W.typeIn K (.ref f)=some (.type "function"))
 (h:Dh (A2 prog w) (A.under (.builtin "type.__call__" ⟨.ref C::vs,l⟩)) (.call (.ref f) ⟨.ref (s.heap.objs.size+1)::vs,l⟩) (PySem.W.InitBack (s.heap.objs.size+1) R)
  { s with heap:=(s.heap.push BG).push (Co C s.heap.objs.size) }) :
 Dh (A2 prog w) A (.call (.ref C) ⟨vs,l⟩) R s:=by obtain⟨G,g,d,t,os⟩:=s;exact PySem.W.make_core (PySem.W.makes_of X hm) (PySem.W.looks_findIn X hi) (λself=>PySem.W.bind_fn X self B) (.inl rfl) h
end
noncomputable def eA(f:Str)(v:V):List (Str×V)->List (Str×V)
 | []=>[(f,v)]
 | (g,x)::r=>if g=f then (g,v)::r else (g,x)::eA f v r
theorem jV(f g:Str)(v:V):∀fs:List (Str×V),(eA f v fs).lookup g=if g=f then some v else fs.lookup g
 | []=>by show Bl g [(f,v)]=_;by_cases h:g=f;have hb:(g==f)=true:=beq_iff_eq.mpr h;simp only[Bl,hb,if_pos h];have hb:(g==f)=false:=beq_eq_false_iff_ne.mpr h;simp only[Bl,hb,if_neg h]|(k,x)::r=>by have B:=jV f g v r;rw[show eA f v ((k,x)::r)=(if k=f then (k,v)::r else (k,x)::eA f v r) from rfl];by_cases l:k=f;rw[if_pos l];by_cases h:g=k;have hb:(g==k)=true:=beq_iff_eq.mpr h;simp only[Bl,hb,if_pos (h.trans l)];have hb:(g==k)=false:=beq_eq_false_iff_ne.mpr h;simp only[Bl,hb,if_neg (λe:g=f=>h (e.trans l.symm))];rw[if_neg l];by_cases h:g=k;have hb:(g==k)=true:=beq_iff_eq.mpr h;simp only[Bl,hb,if_neg (λe:g=f=>l (h.symm.trans e))];have hb:(g==k)=false:=beq_eq_false_iff_ne.mpr h;simp only[Bl,hb];exact B
theorem jF(f:Str)(v:V):∀fs:List (Str×V),f∈(eA f v fs).map (·.1)/\∀g,g∈fs.map (·.1)->g∈(eA f v fs).map (·.1)
 | []=>⟨by simp[eA],λg h=>by simp at h⟩
 | (k,x)::r=>by obtain⟨i1,i2⟩:=jF f v r;rw[show eA f v ((k,x)::r)=(if k=f then (k,v)::r else (k,x)::eA f v r) from rfl];by_cases l:k=f;rw[if_pos l];subst l;exact⟨by simp,λg h=>by simpa using h⟩;rw[if_neg l];refine⟨?_,λg h=>?_⟩;rw[GJ];exact Ae _ i1;rw[GJ] at h ⊢;rcases Ao.mp h with e|e;exact Ao.mpr (.inl e);exact Ae _ (i2 g e)
theorem jW(f:Str)(v:V):∀fs:List (Str×V),(eA f v fs).length<=fs.length+1
 | []=>by simp[eA]|(k,x)::r=>by have B:=jW f v r;rw[show eA f v ((k,x)::r)=(if k=f then (k,v)::r else (k,x)::eA f v r) from rfl];by_cases l:k=f;rw[if_pos l,Dr,Dr];omega;rw[if_neg l,Dr,Dr];omega
theorem nK.some_of{v:V}{o:Option Value}(r:nK (some v) o):∃u,o=some u/\aP v u:=by
 cases o with
 | none=>exact(show False from r).elim|some u=>exact⟨u,rfl,r⟩
theorem nK.none_of{o:Option Value}(r:nK none o):o=none:=by
 cases o with
 | none=>rfl|some u=>exact(show False from r).elim
theorem zN{v:V}{u:Value}(r:aP v u):HM u=true:=by
 cases v with
 | non=>cases(show u=AZ from r);rfl|bl b=>cases(show u=DA b from r);rfl|int i=>obtain⟨t,e⟩:=(show ∃t,u=G2 i t from r);cases e;rfl|str x=>obtain⟨t,e⟩:=(show ∃t,u=HI x t from r);cases e;rfl|byt b=>obtain⟨t,e⟩:=(show ∃t,u=JO b t from r);cases e;rfl|flt b=>obtain⟨t,e⟩:=(show ∃t,u=JP b t from r);cases e;rfl|ref a=>cases(show u=A5 a from r);rfl|ty n=>cases(show u=CG n from r);rfl
section
variable {P:A0} {w:AH} {H H':Hp} {h h':Heap} {a C dx:Addr} {fs fs':List (Str×V)}
theorem pX(hok:HOk P w H h)(e:H a=some (.ins C dx fs)):∃mA,uM h a dx C mA/\(∀f,nK (fs.lookup f) (mA f))/\Hg mA (fs.map (·.1))/\fs.length<=1000/\H dx=some (.own a):=by
 obtain⟨d,z,ne,l,mA,n,r,q⟩:=(show bQ P w H h a (.ins C dx fs) from hok a _ e)
 exact⟨mA,⟨l,n,ne⟩,r,q,z,d⟩
end
structure Cls (K:An) (C:Addr):Prop where
 pg:DU K C KN=true
 hd:Fj K C=true
 po:Hl K C=true
 sa:B7 K (.ref C) "__setattr__" = some (some (.builtin "object.__setattr__"))
theorem Cls.get{K:An}{C:Addr}(c:Cls K C)(f:Str):DU K C f=true:=c.pg
noncomputable def cT(K:An)(C:Addr)(f:Str):Prop:=B7 K (.ref C) f=some none
theorem cT.taker{K:An}{C:Addr}{f:Str}(n:cT K C f):FZ K C f=some none:=by unfold FZ;rw[show B7 K (.ref C) f=some none from n];rfl
structure rM (K:An) (C:Addr) (m:Str) (f:Addr):Prop where
 at_:B7 K (.ref C) m=some (some (.ref f))
 fn:Hk K (.ref f)=true
 kp:CO K (.ref f)=true
section
variable {X:Cx} {pins:List (Addr×Obj)} {σ:St} {H:Hp} {s:Ad} {a C dx:Addr} {fs:List (Str×V)} {f:Str} {v:V} {A:AV} {E:Value->Ad->Prop}
theorem uN{b:Bool}{Q:Value->Ad->Prop}(I:Inv X pins σ H s)(e:H a=some (.ins C dx fs))(c:Cls X.K C)(n:cT X.K C f)(l:fs.lookup f=some v)
 (h:∀u G,Inv X pins σ H G->aP v u->Q u G):Ap (A2 X.prog X.w) A (K2 (.ref a) f b) Q E s:=by obtain⟨mA,O,r,_,_,_⟩:=pX I.hok e;obtain⟨u,L,B⟩:=nK.some_of (v:=v) (o:=mA f) (by rw[<-l];exact r f);exact aDR I.kIn O (c.get f) c.hd n L (zN B) (h u _ (I.tok _) B)
theorem uO{m:Str}{g:Addr}{pl:Ko Bool}{Q:Value×List Value->Ad->Prop}(I:Inv X pins σ H s)(e:H a=some (.ins C dx fs))(c:Cls X.K C)(k:rM X.K C m g)(l:fs.lookup m=none)
 (h:Q (.ref g,[.ref a]) s):Ap (A2 X.prog X.w) A (HN (.ref a) m pl) Q E s:=by obtain⟨mA,O,r,_,_,_⟩:=pX I.hok e;have B:mA m=none:=nK.none_of (by rw[<-l];exact r m);exact aBb I.kIn O (c.get m) k.at_ k.fn B h
theorem uP{y:V}{u:Value}{Q:Unit->Ad->Prop}(I:Inv X pins σ H s)(e:H a=some (.ins C dx fs))(c:Cls X.K C)(n:cT X.K C f)(hl:fs.length<1000)(U:aP y u)
 (h:∀G,Inv X pins σ (upd H a (.ins C dx (eA f y fs))) G->Q () G):Ap (A2 X.prog X.w) A (setAttr (.ref a) f u) Q E s:=by
 obtain⟨mA,O,r,L,_,B⟩:=pX I.hok e;have hz:(fs.map (·.1)).length<=sizeLine:=by rw[Er,AS];omega
 refine aDS I.kIn O c.sa c.po n.taker c.hd L hz λh' l W=>h _ ?_;have hd:∃o,h'.get? dx=some o:=let ⟨o,_,_,e',_⟩:=l.ns;⟨o,e'⟩;refine I.write (x:=a) (e:=dx) (by rw[e];exact Dl) (.inr B) (λb q hb z=>(W.2 b hb).trans z) hd ?_;refine⟨by rw[aD O.ne];exact B,?_,O.ne,l.obj,_,l.ns,λg=>?_,λg M=>?_⟩;have:=jW f y fs;omega;show nK ((eA f y fs).lookup g) (if g=f then some u else mA g);rw[jV];by_cases q:g=f;rw[if_pos q,if_pos q];exact U;rw[if_neg q,if_neg q];exact r g;by_cases q:g=f;rw[q];exact(jF f y fs).1;refine(jF f y fs).2 g (L g λz=>M ?_);show(if g=f then some u else mA g)=none;rw[if_neg q];exact z
theorem Inv.made(I:Inv X pins σ H s):Inv X pins σ (upd (upd H s.heap.objs.size (.own (s.heap.objs.size+1))) (s.heap.objs.size+1) (.ins C s.heap.objs.size []))
 { s with heap:=(s.heap.push BG).push (Co C s.heap.objs.size) }:=by
 have l:(s.heap.push BG).get? s.heap.objs.size=some BG:=Aq s.heap rfl;have G:((s.heap.push BG).push (Co C s.heap.objs.size)).get? (s.heap.objs.size+1)=some (Co C s.heap.objs.size):=by have:=Aq (s.heap.push BG) (o:=Co C s.heap.objs.size) rfl;rwa [Bf] at this
 have L:(s.heap.push BG).Ns s.heap.objs.size (λ_=>none):=⟨BG,#[],_,l,rfl,(λe M=>absurd M (by simp)),λ_=>rfl⟩
 have B:=I.laid (a:=s.heap.objs.size) (o:=.own (s.heap.objs.size+1)) (h':=s.heap.push BG) (t':=s.toks) (λb u q=>Ab _ q) (As _) ⟨_,l⟩;refine B.laid (a:=s.heap.objs.size+1) (o:=.ins C s.heap.objs.size []) (t':=s.toks) (λb u q=>Ab _ q) (J7 (Bf _ _)) ?_;have ne:s.heap.objs.size≠s.heap.objs.size+1:=Az (Bz _);refine⟨by rw[aD ne,aK],AW _,ne,G,λ_=>none,(K4 L).at λo q=>Ab _ q,λ_=>Dl,λy U=>absurd rfl U⟩
theorem aDT{prog:A0}{w:AH}{env:GG}{e:Av}{f:Str}{pos:CF}{s:Ad}{Q:Value->Ad->Prop}(hb:Eh e f env (Cc e env)=Cc e env)
 (h:Ap (A2 prog w) A (Cc e env) (λo l=>Ap (A2 prog w) A (K2 o f true) Q E l) E s):Ap (A2 prog w) A (Cc (.Attribute e f pos) env) Q E s:=
 Attribute_any_ h (by rw[arm_eval_Attribute,hb])
end
noncomputable def aMd(K:An)(ta:TE)(f:Str):TE:=λσ H Q=>ta σ H λx H1=>∃a C dx fs v,x=.ref a/\H1 a=some (.ins C dx fs)/\Cls K C/\cT K C f/\fs.lookup f=some v/\Q v H1
noncomputable def aMe(K:An)(ta tv:TE)(f:Str):TS:=λD σ H=>tv σ H λy H1=>ta σ H1 λx H2=>∃a C dx fs,x=.ref a/\H2 a=some (.ins C dx fs)/\Cls K C/\cT K C f/\fs.length<1000 /\
 D.nx σ (upd H2 a (.ins C dx (eA f y fs)))
section
variable {X:Cx} {o e value:Av} {f:Str} {pos pos' tpos:CF} {ta tv:TE}
theorem aGE(M:PE X e ta)(hb:Eh e f X.env (Cc e X.env)=Cc e X.env):PE X (.Attribute e f pos) (aMd X.K ta f):=by intro pins s σ H Q I h;refine aDT hb (thn (M pins s σ H _ I h) λu s1 ⟨x,H1,B,W,a,C,dx,fs,v,ex,L,c,n,l,q⟩=>?_);subst ex;obtain rfl:u=A5 a:=W;exact uN B L c n l λZ s2 G U=>⟨v,H1,G,U,q⟩
theorem aGF(U:PE X o ta)(W:PE X value tv)(hs:G3 value (some (.Attribute o f pos')) pos.line X.env=pure false):PS X (.Assign [.Attribute o f pos'] value pos) (aMe X.K ta tv f):=by intro pins s σ H D I h;refine plainObj_wpAny_Assign_Attribute (thn (W pins s σ H _ I h) λu s1 ⟨y,H1,B,ry,q⟩=>thn (U pins s1 σ H1 _ B q) λZ s2 ⟨x,H2,G,rx,a,C,dx,fs,ex,M,c,n,l,q2⟩=>?_) hs;subst ex;obtain rfl:Z=A5 a:=rx;exact uP G M c n l ry λs3 L=>⟨σ,_,L,q2⟩
end
structure dQ (k:Nat) (A:AV):Prop where
 hd:A.handled=none
 gd:A.guards=some []
 dp:A.depth+3*k+5<IG
 un:A.units+16*k+200<cLine
theorem dQ.deeper{k:Nat}{A:AV}(r:dQ (k+1) A)(env:GG):dQ k (A.deeper env):=
 ⟨r.hd,r.gd,by have:=r.dp;show A.depth+1+3*k+5<_;omega,by have:=r.un;show A.units+3+16*k+200<_;omega⟩
theorem uQ{A:AV}{C:Addr}{us:List Value}{l:List (Str×Value)}:(A.under (.builtin "type.__call__" ⟨.ref C::us,l⟩)).depth=A.depth+1:=by
 first|rfl|simp[Hm,Code.weight,Code.isCreation,Code.isGuard,Code.isCaller,JU,Hn,guardIds]
theorem uR{A:AV}{C:Addr}{us:List Value}{l:List (Str×Value)}:(A.under (.builtin "type.__call__" ⟨.ref C::us,l⟩)).units=A.units+1:=by
 first|rfl|simp[Hm,Code.cUnits,JU,Hn]
theorem dQ.make{k:Nat}{A:AV}(r:dQ (k+1) A)(C:Addr)(us:List Value)(l:List (Str×Value)):dQ k (A.under (.builtin "type.__call__" ⟨.ref C::us,l⟩)):=
 ⟨r.hd,r.gd,by have:=r.dp;rw[uQ];omega,by have:=r.un;rw[uR];omega⟩
theorem dQ.depth{k:Nat}{A:AV}(r:dQ k A):A.depth<IG:=by have:=r.dp;omega
noncomputable def aGG:TA:=λ_ H Q=>Q [] H
noncomputable def aFB(ta:TE)(tr:TA):TA:=λσ H Q=>ta σ H λx H1=>tr σ H1 λxs H2=>Q (x::xs) H2
section
variable {X:Cx} {e:Av} {es:List Av} {te:TE} {t:TA} {pos:CF}
theorem cU:PA X [] aGG:=λ_ _ _ _ H Q I h=>CA ⟨[],H,I,.nil,h⟩
theorem bV(L:PE X e te)(M:PA X es t)(hs:A6 (e::es) X.env=(false,Cc e X.env)::A6 es X.env:=by rfl):PA X (e::es) (aFB te t):=by intro pos pins s σ H Q I h;rw[hs];show Ap _ _ (Fh ((false,Cc e X.env)::BQ pos (A6 es X.env))) _ _ s;refine BL (thn (L pins s σ H _ I h) λu s1 ⟨x,H1,B,Z,U⟩=>?_);exact thn (M pos pins s1 σ H1 _ B U) λus s2 ⟨xs,l,G,r2,W⟩=>⟨x::xs,l,G,.cons Z r2,W⟩
noncomputable def aMf(t:TA):TE:=λσ H Q=>t σ H λxs H1=>xs.length<=sizeLine/\∀p,H1 p=none->Q (.ref p) (upd H1 p (.tup xs))
noncomputable def aMg(t:TA):TE:=λσ H Q=>t σ H λxs H1=>xs.length<=sizeLine/\∀p,H1 p=none->Q (.ref p) (upd H1 p (.lst xs))
theorem aBd{x1}(h:PA X es t):PE X (.Tuple es x1 pos) (aMf t):=by intro pins s σ H Q I G;refine wpAny_Tuple_spliced (thn (h pos pins s σ H _ I G) λus s1 ⟨xs,H1,l,r,z,q⟩=>⟨by rw[<-r.length];exact z,?_⟩);have B:H1 s1.heap.objs.size=none:=l.hok.fresh (As _);refine⟨.ref s1.heap.objs.size,upd H1 s1.heap.objs.size (.tup xs),l.laid (t':=s1.toks) (λb u e=>Ab _ e) (As _) ?_,rfl,q _ B⟩;exact⟨z,us,r,⟨_,Aq _ rfl,rfl,_,rfl⟩⟩
theorem uS(h:PA X es t):PE X (.List es pos) (aMg t):=by intro pins s σ H Q I G;refine wpAny_List_spliced (thn (h pos pins s σ H _ I G) λus s1 ⟨xs,H1,l,r,z,q⟩=>⟨by rw[<-r.length];exact z,?_⟩);have B:H1 s1.heap.objs.size=none:=l.hok.fresh (As _);refine⟨.ref s1.heap.objs.size,upd H1 s1.heap.objs.size (.lst xs),l.laid (t':=s1.toks) (λb u e=>Ab _ e) (As _) ?_,rfl,q _ B⟩;exact⟨z,us,0,r,Aq _ rfl⟩
end
abbrev Sp:=List V->Hp->VK->XK->Prop
abbrev CXT:=List GG->Hp->Ad->XK->Value->Ad->Prop
structure uT (P:A0) (w:AH) (K:An) (mg:Str->Option Value) (base:Heap) (A:AV) (outer:List GG) (s:Ad) (H:Hp):Prop where
 frames:A.frames=some outer
 mod:Mod K mg base
 bs:∀b o,base.get? b=some o->s.heap.get? b=some o/\H b=none
 bsz:base.objs.size<=s.heap.objs.size
 funs:s.heap.FunFrames base outer
 frf:∀b∈frs outer,H b=none
 hok:HOk P w H s.heap
 bare:EH s.gens
noncomputable def CE(outer:List GG)(P:A0)(w:AH)(H:Hp)(s:Ad)(Q:VK)(u:Value)(s':Ad):Prop:=
 ∃v H',s'.os=s.os/\EH s'.gens/\Un (frs outer) [] H H' s.heap s'.heap/\HOk P w H' s'.heap/\aP v u/\Q v H'
noncomputable def CR(CX:CXT)(outer:List GG)(P:A0)(w:AH)(H:Hp)(s:Ad)(Q:VK)(E:XK)(r:GS)(s':Ad):Prop:=
 match r with
 | .ok (.ret u)=>CE outer P w H s Q u s'|.ok _=>False|.error e=>CX outer H s E e s'
structure dG (P:A0) (w:AH) (K:An) (mg:Str->Option Value) (base:Heap) (CX:CXT) (k:Nat) (f:Addr) (fd:Cs) (ps:List Str) (sp:Sp):Prop where
 len:∀vs H Q E,sp vs H Q E->vs.length=ps.length
 run:∀(A:AV) (outer:List GG) (s:Ad) (H:Hp) (args:Args) (us:List Value) (vs:List V) (Q:VK) (E:XK),dQ k A->uT P w K mg base A outer s H->J8 s fd args (ps.zip us)->aM vs us->sp vs H Q E ->
  Dh (A2 P w) A (.call (.ref f) args) (CR CX outer P w H s Q E) s
theorem uT.make{P:A0}{w:AH}{K:An}{mg:Str->Option Value}{base:Heap}{A:AV}{outer:List GG}{s:Ad}{H:Hp}(e:uT P w K mg base A outer s H)(C:Addr)(us:List Value)(l:List (Str×Value)) :
 uT P w K mg base (A.under (.builtin "type.__call__" ⟨.ref C::us,l⟩)) outer s H:=⟨by first|exact e.frames|(simpa[Hm,Code.envs,Hn,pushEnvs] using e.frames),e.mod,e.bs,e.bsz,e.funs,e.frf,e.hok,e.bare⟩
section
variable {X:Cx} {pins:List (Addr×Obj)} {σ:St} {H:Hp} {s s':Ad}
theorem Inv.env0(I:Inv X pins σ H s):uT X.prog X.w X.K X.mg X.base X.A X.stack s H:=
 ⟨I.ok.frames,I.ok.mod,I.bs,AX I.ok.bsz I.sz,I.stack,I.stkFree,I.hok,I.bare⟩
theorem Inv.after{Q:VK}{u:Value}(I:Inv X pins σ H s)(h:CE X.stack X.prog X.w H s Q u s'):EP X pins σ Q u s':=by obtain⟨v,H',os,bare,un,hok,r,q⟩:=h;obtain⟨B,g,d,t,l⟩:=s';obtain rfl:l=s.os:=os;exact⟨v,H',I.call (h':=B) (g':=g) (d':=d) (t':=t) (ch:=[]) un hok bare (λb z=>absurd z (by simp)),r,q⟩
end
noncomputable def aFC(sp:Sp)(dvs:List V)(E:XK)(t:TA):TE:=λσ H Q=>t σ H λvs H1=>sp (vs++dvs) H1 Q E
noncomputable def aIZ(C:Addr)(m:Str)(sp:Sp)(dvs:List V)(E:XK)(ta:TE)(t:TA):TE:=λσ H Q=>ta σ H λx H1=>∃a dx fs,x=.ref a/\H1 a=some (.ins C dx fs)/\fs.lookup m=none /\
 t σ H1 λvs H2=>sp (x::(vs++dvs)) H2 Q E
noncomputable def aJa(C:Addr)(sp:Sp)(dvs:List V)(E:XK)(t:TA):TE:=λσ H Q=>t σ H λvs H1=>∀x dx,H1 x=none->H1 dx=none->dx≠x ->
 sp (.ref x::(vs++dvs)) (upd (upd H1 dx (.own x)) x (.ins C dx [])) (λv H2=>v=.non/\Q (.ref x) H2) E
noncomputable def bZ(K:An)(fd:Cs)(ps:List Str)(ds:List Value):Prop:=
 ∀(s:Ad) (us:List Value),K.In s.heap->(us++ds).length=ps.length->J8 s fd ⟨us,[]⟩ (ps.zip (us++ds))
theorem bZ.all{K:An}{fd:Cs}{ps:List Str}(h:∀us:List Value,us.length=ps.length->IH fd ⟨us,[]⟩=pure (ps.zip us)):bZ K fd ps []:=λs us _ hl=>by rw[BB] at hl ⊢;exact .of_eq (h us hl)
noncomputable def fB(CX:CXT)(X:Cx)(E:XK):Prop:=∀(pins:List (Addr×Obj)) (σ:St) (H:Hp) (s:Ad) (e:Value) (s':Ad),Inv X pins σ H s->CX X.stack H s E e s'->X.xe e s'
section
variable {X:Cx} {CX:CXT} {k:Nat} {f C:Addr} {fd:Cs} {ps:List Str} {sp:Sp} {dvs:List V} {ds:List Value} {E:XK} {x m:Str} {p pos apos:CF} {e o:Av} {es:List Av} {ta:TE} {t:TA}
theorem uU{pins:List (Addr×Obj)}{σ:St}{H:Hp}{s:Ad}{Q:VK}{us:List Value}{vs:List V}(F:dG X.prog X.w X.K X.mg X.base CX k f fd ps sp)(L:dQ k X.A)(hb:bZ X.K fd ps ds)(hd:aM dvs ds)(M:fB CX X E)
 (I:Inv X pins σ H s) (r:aM vs us) (h:sp (vs++dvs) H Q E):Ap (A2 X.prog X.w) X.A (call (.ref f) us) (EP X pins σ Q) X.xe s:=by
 have B:aM (vs++dvs) (us++ds):=r.append hd;have hl:(us++ds).length=ps.length:=by rw[<-B.length];exact F.len _ _ _ _ h
 refine GU (Ds (F.run X.A X.stack s H ⟨us,[]⟩ (us++ds) (vs++dvs) Q E L I.env0 (hb s us I.kIn hl) B h) λr U l=>?_);cases r with
 | error e=>exact M pins σ H s e U I l|ok G=>
  cases G with
  | ret u=>exact I.after l|next=>exact BJ l|brk=>exact BJ l|cont=>exact BJ l
theorem aDU(F:dG X.prog X.w X.K X.mg X.base CX k f fd ps sp)(Z:dQ k X.A)(U:Gl X x)(hm:X.mg x=some (.ref f))(W:CO X.K (.ref f)=true)(hb:bZ X.K fd ps ds)(hd:aM dvs ds)(hx:fB CX X E)
 (L:PA X (e::es) t) (l:(x==("__debug__" : Str))=false:=by decide) (M:A6 (e::es) X.env=(false,Cc e X.env)::A6 es X.env:=by rfl) (B:(BQ pos (A6 es X.env)).any (·.1)=false:=by rfl) :
 PE X (.Call (.Name x p) (e::es) [] pos) (aFC sp dvs E t):=by intro pins s σ H Q I h;refine Bv (eK I U hm ?_ l);refine DB (h₀:=X.base) I.ok.mod.kin W (thn (L pos pins s σ H _ I h) λus s1 ⟨vs,H1,G,r,q⟩=>⟨G.kIn,?_⟩) M B;exact uU F Z hb hd hx G r q
theorem aBe(F:dG X.prog X.w X.K X.mg X.base CX k f fd ps sp)(L:dQ k X.A)(B:Gl X x)(hm:X.mg x=some (.ref f))(G:CO X.K (.ref f)=true)(hb:bZ X.K fd ps ds)(hd:aM dvs ds)(M:fB CX X E)
 (l:(x==("__debug__" : Str))=false:=by decide):PE X (.Call (.Name x p) [] [] pos) (aFC sp dvs E aGG):=by intro pins s σ H Q I h;refine Bv (eK I B hm ?_ l);exact PySem.W.callWith_K0 I.kIn G (uU (us:=[]) F L hb hd M I .nil h)
theorem aDV{pl:Ko Bool}(Z:PE X o ta)(c:Cls X.K C)(hm:rM X.K C m f)(F:dG X.prog X.w X.K X.mg X.base CX k f fd ps sp)(hr:dQ k X.A)(hb:bZ X.K fd ps ds)(hd:aM dvs ds)(hx:fB CX X E)(W:PA X (e::es) t)
 (G:A6 (e::es) X.env=(false,Cc e X.env)::A6 es X.env:=by rfl) (B:(BQ pos (A6 es X.env)).any (·.1)=false:=by rfl)
 (ht:Cc (.Call (.Attribute o m apos) (e::es) [] pos) X.env=(do
  let ov<-Cc o X.env
  Hj apos.atName
  let (f,first)<-FK [ov] (HN ov m pl)
  callWith pos f first (BQ pos (A6 (e::es) X.env)) (ES pos (Dm [] X.env))):=by rfl) :
 PE X (.Call (.Attribute o m apos) (e::es) [] pos) (aIZ C m sp dvs E ta t):=by intro pins s σ H Q I h;refine PySem.W.methodCall_KW (pl:=pl) (thn (Z pins s σ H _ I h) λu s1 ⟨x,H1,L,rx,a,dx,fs,ex,U,l,q⟩=>?_) ht;subst ex;obtain rfl:u=A5 a:=rx;refine uO L U c hm l ?_;refine DB (first:=[.ref a]) (h₀:=X.base) I.ok.mod.kin hm.kp (thn (W pos pins s1 σ H1 _ L q) λus s2 ⟨vs,H2,M,r,q2⟩=>⟨M.kIn,?_⟩) G B;exact uU (us:=.ref a::us) (vs:=.ref a::vs) F hr hb hd hx M (.cons rfl r) q2
structure Mk (K:An) (C f:Addr):Prop where
 makes:Il K C=true
 init:B7 K (.ref C) "__init__" = some (some (.ref f))
 fn:Hk K (.ref f)=true
 kp:CO K (.ref C)=true
theorem aBf{pins:List (Addr×Obj)}{σ:St}{H:Hp}{s:Ad}{Q:VK}{us:List Value}{vs:List V}(M:Mk X.K C f)(F:dG X.prog X.w X.K X.mg X.base CX k f fd ps sp)(hr:dQ (k+1) X.A)(hb:bZ X.K fd ps ds)(hd:aM dvs ds)
 (hx:fB CX X E) (I:Inv X pins σ H s) (r:aM vs us)
 (h:∀x dx,H x=none->H dx=none->dx≠x->sp (.ref x::(vs++dvs)) (upd (upd H dx (.own x)) x (.ins C dx [])) (λv U=>v=.non/\Q (.ref x) U) E) :
 Ap (A2 X.prog X.w) X.A (call (.ref C) us) (EP X pins σ Q) X.xe s:=by
 have G:=h (s.heap.objs.size+1) s.heap.objs.size (I.hok.fresh (CW _)) (I.hok.fresh (As _)) (Az (Bz _));have B:=Inv.made (C:=C) I;have L:aM (V.ref (s.heap.objs.size+1)::(vs++dvs)) (A5 (s.heap.objs.size+1)::(us++ds)):=.cons rfl (r.append hd);have hl:(A5 (s.heap.objs.size+1)::us++ds).length=ps.length:=by have e:=L.length;rw[F.len _ _ _ _ G] at e;exact e.symm
 refine GU (aBc (f:=f) I.kIn M.makes M.init (beq_iff_eq.mp M.fn) (Ds (F.run _ X.stack _ _ ⟨A5 (s.heap.objs.size+1)::us,[]⟩ (A5 (s.heap.objs.size+1)::(us++ds)) _ _ E (hr.make C us [])
  (B.env0.make C us []) (hb _ (A5 (s.heap.objs.size+1)::us) B.kIn hl) L G) λr s' l=>?_))
 cases r with
 | error e=>exact hx pins σ _ _ e s' B l|ok Z=>
  cases Z with
  | ret u=>obtain⟨v,H',W,rv,ev,q3⟩:=B.after l;subst ev;exact⟨rv,⟨V.ref (s.heap.objs.size+1),H',W,rfl,q3⟩⟩|next=>exact BJ l|brk=>exact BJ l|cont=>exact BJ l
theorem aDW(M:Mk X.K C f)(F:dG X.prog X.w X.K X.mg X.base CX k f fd ps sp)(Z:dQ (k+1) X.A)(W:Gl X x)(hm:X.mg x=some (.ref C))(hb:bZ X.K fd ps ds)(hd:aM dvs ds)(hx:fB CX X E)
 (L:PA X (e::es) t) (l:(x==("__debug__" : Str))=false:=by decide) (U:A6 (e::es) X.env=(false,Cc e X.env)::A6 es X.env:=by rfl) (B:(BQ pos (A6 es X.env)).any (·.1)=false:=by rfl) :
 PE X (.Call (.Name x p) (e::es) [] pos) (aJa C sp dvs E t):=by intro pins s σ H Q I h;refine Bv (eK I W hm ?_ l);refine DB (h₀:=X.base) I.ok.mod.kin M.kp (thn (L pos pins s σ H _ I h) λus s1 ⟨vs,H1,G,r,q⟩=>⟨G.kIn,?_⟩) U B;exact aBf M F Z hb hd hx G r q
end
structure iJ (N P:List Str) (sc:Da):Prop where
 kind:sc.kind=.function
 co:sc.isCoroutine=false
 gen:sc.isGenerator=false
 nd:N.Nodup
 pre:N.take P.length=P
 par:∀x∈P,sc.names.lookup x=some .local\/sc.names.lookup x=some .cell
 nofree:∀y∈sc.names,y.2≠.free
theorem nW{kindOf:Str->Option Cm}{x:Str}:∀{binds:List (Str×Value)} {m:Str->Option Value},(∀v,(x,v)∉binds)->II kindOf binds m x=m x
 | [],_,_=>rfl|(n,v)::r,m,h=>by
  unfold II;rw[nW λw l=>h w (Ae _ l)];split;have:x≠n:=by rintro rfl;exact h v Aj
  simp[this];rfl
theorem nX{kindOf:Str->Option Cm}{x:Str}:∀{binds:List (Str×Value)} {m:Str->Option Value},(∀v,(x,v)∉binds)->IJ kindOf binds m x=m x
 | [],_,_=>rfl|(n,v)::r,m,h=>by
  unfold IJ;rw[nX λw l=>h w (Ae _ l)];split;rfl;have:x≠n:=by rintro rfl;exact h v Aj
  simp[this]
theorem nY{kindOf:Str->Option Cm}{x:Str}{v:Value}:∀{P:List Str} {vs:List Value} {i:Nat} {m:Str->Option Value},P.Nodup->P[i]? = some x->vs[i]? = some v->kindOf x=some .local ->
 II kindOf (P.zip vs) m x=some v
 | [],_,_,_,_,h,_,_=>by simp at h|_::_,[],_,_,_,_,h,_=>by simp at h|p::P,w::vs,0,m,nd,h1,h2,hk=>by simp at h1 h2;subst h1;subst h2;show II kindOf ((p,w)::P.zip vs) m p=_;unfold II;rw[nW λv l=>(AG.mp nd).1 (Et l).1,if_pos hk];simp|p::P,w::vs,i+1,m,nd,h1,h2,hk=>by show II kindOf ((p,w)::P.zip vs) m x=_;unfold II;exact nY (i:=i) (AG.mp nd).2 (by simpa using h1) (by simpa using h2) hk
theorem nZ{kindOf:Str->Option Cm}{x:Str}{v:Value}:∀{P:List Str} {vs:List Value} {i:Nat} {m:Str->Option Value},P.Nodup->P[i]? = some x->vs[i]? = some v->kindOf x≠some .local ->
 IJ kindOf (P.zip vs) m x=some v
 | [],_,_,_,_,h,_,_=>by simp at h|_::_,[],_,_,_,_,h,_=>by simp at h|p::P,w::vs,0,m,nd,h1,h2,hk=>by simp at h1 h2;subst h1;subst h2;show IJ kindOf ((p,w)::P.zip vs) m p=_;unfold IJ;rw[nX λv l=>(AG.mp nd).1 (Et l).1,if_neg hk];simp|p::P,w::vs,i+1,m,nd,h1,h2,hk=>by show IJ kindOf ((p,w)::P.zip vs) m x=_;unfold IJ;exact nZ (i:=i) (AG.mp nd).2 (by simpa using h1) (by simpa using h2) hk
noncomputable def start(N:List Str)(vs:List V):St:=vs.map some++Ag (N.length-vs.length) none
noncomputable def lH(CX:CXT)(P:A0)(w:AH)(K:An)(mg:Str->Option Value)(base:Heap)(N:List Str)(qual:Str)(scope:Da)(f:Addr)(cd:Value)(A:AV)(outer:List GG)(s:Ad)(H:Hp)(E:XK):Cx where
 prog:=P
 w:=w
 K:=K
 mg:=mg
 base:=base
 A:=A.deeper (envOfC qual scope s.heap.objs.size f cd)
 N:=N
 s₀:=s
 H₀:=H
 env:=envOfC qual scope s.heap.objs.size f cd
 outer:=outer
 stack:=envOfC qual scope s.heap.objs.size f cd::outer
 ex:=[]
 calm:=true
 fn:=λ_=>true
 pn:=[]
 xe:=λe s'=>Ap (A2 P w) (A.deeper (envOfC qual scope s.heap.objs.size f cd)) (J9 (envOfC qual scope s.heap.objs.size f cd) e) (λ_ s''=>CX outer H s E e s'') (λe' s''=>CX outer H s E e' s'') s'
theorem rN{sc:Da}{n:Nat}{x:Str}(h:sc.names.lookup x=some .cell):∃c,(J1 n sc.names []).lookup x=some c:=by have q:=FL sc.names n [] (.inl h);exact CI.mp q
theorem zO{CX:CXT}{P:A0}{w:AH}{K:An}{mg:Str->Option Value}{base:Heap}{N ps:List Str}{qual:Str}{scope:Da}{f:Addr}{U:Value}{A:AV}{outer:List GG}{s s1:Ad}{H:Hp}{E:XK}{us:List Value}{vs:List V}
 (S:iJ N ps scope) (hd:A.handled=none) (B:uT P w K mg base A outer s H) (hl:vs.length=ps.length) (r:aM vs us)
 (x:InCallC s s.heap.objs.size (II (envOfC qual scope s.heap.objs.size f U).kindOf (ps.zip us) λ_=>none) (J1 (s.heap.objs.size+1) scope.names []) (IJ (envOfC qual scope s.heap.objs.size f U).kindOf (ps.zip us) λ_=>none) s1) :
 Inv (lH CX P w K mg base N qual scope f U A outer s H E) [] (start N vs) H s1:=by
 have q0:ps.length<=N.length:=by have:=congrArg Fl S.pre;rw[AI] at this;omega
 obtain⟨W,tk,rfl,Z⟩:=x.done;have I:∀b:Addr,b∉(lH CX P w K mg base N qual scope f U A outer s H E).ex:=λb z=>absurd (show b∈([]:List Addr) from z) (by simp);refine⟨⟨B.mod,S.kind,rfl,rfl,As _,λy z c W l=>?_,λy G=>?_,λy c _ h=>?_,λ_=>hd,Around.frames_deeper B.frames,.inr ⟨rfl,rfl⟩,λb z=>absurd z (I b),B.bs,B.bsz,λb _ _=>I b,λb z=>absurd z (I b),B.funs,B.frf⟩,
  rfl,B.bare,Un.kept Z,⟨_,x.toInCall.ns,λi y v W l h3=>?_⟩,λy c h=>⟨_,x.cell y c h⟩,B.hok.fresh (As _),λy c h=>?_,λp L=>absurd (show p∈([]:List (Addr×Obj)) from L) (by simp),B.hok.kept Z,?_⟩
 exact name_of_addr x.apart (B0 W) (B0 l);have G:scope.names.lookup y=some .cell\/scope.names.lookup y=some .free:=G;rcases G with G|G;exact rN G;exact absurd rfl (S.nofree _ (B0 G));exact DG (x.above y c (B0 h));have hi:i<vs.length:=by unfold start at l;by_cases hi:i<vs.length;exact hi;rw[Ax (by simpa using hi)] at l;rw[A7] at l;split at l <;> cases l
 have ha:vs[i]? = some v:=by
  unfold start at l;rw[Aw (by simpa using hi),Ak] at l;cases e:vs[i]? with
  | none=>rw[e] at l;cases l|some a=>rw[e] at l;cases l;rfl
 obtain⟨u,hu,rv⟩:=r.get ha;have L:ps[i]? = some y:=by rw[<-S.pre,List.getElem?_take_of_lt (by omega)];exact W
 have M:ps.Nodup:=by rw[<-S.pre];exact S.nd.sublist (Ho _ _)
 refine⟨u,rv,?_⟩;rcases S.par y (List.mem_of_getElem? L) with k|k;exact .inl ⟨k,nY M L hu k⟩;obtain⟨c,e⟩:=rN (n:=s.heap.objs.size+1) k;refine .inr ⟨.inl k,c,e,?_⟩;have q:=x.cell y c e;rw[nZ M L hu (by show scope.names.lookup y≠_;rw[k];decide)] at q;exact q;exact B.hok.fresh (DG (x.above y c (B0 h)));unfold start;show _=N.length;rw[DC,Er,A4];omega
theorem aFD{CX:CXT}{P:A0}{w:AH}{K:An}{mg:Str->Option Value}{base:Heap}{k:Nat}{f:Addr}{name qual:Str}{l:G5}{body:List BR}{scope:Da}{dV kV doc pm cdv ct oc:Value}{an od:Option Addr}
 {osl:Array (Option Value)} {N ps:List Str} {sp:Sp} (lk:K.lookup f=some ⟨oc,od,.func (FM name qual l body scope dV kV doc pm an cdv ct),osl⟩) (W:IK K cdv qual=true) (S:iJ N ps scope)
 (len:∀vs H Q E,sp vs H Q E->vs.length=ps.length)
 (B:∀(A:AV) (outer:List GG) (s:Ad) (H:Hp) (vs:List V) (Q:VK) (E:XK),dQ k (A.deeper (envOfC qual scope s.heap.objs.size f cdv))->sp vs H Q E ->
  ∃t,PSs (lH CX P w K mg base N qual scope f cdv A outer s H E) body t/\t { nx:=λ_ H'=>Q .non H',rt:=Q } (start N vs) H) :
 dG P w K mg base CX (k+1) f (FM name qual l body scope dV kV doc pm an cdv ct) ps sp:=by
 refine⟨len,λA outer s H args us vs Q E Z L hb r U=>?_⟩;have hl:=len _ _ _ _ U;have KX:K.In s.heap:=L.mod.kin.keeps λb o e=>(L.bs b o e).1;have lim:s.heap.NoLimit:=L.mod.nolimit.keeps λb o e=>(L.bs b o e).1;have G:∀y∈ps.zip us,scope.names.lookup y.1=some .local\/(scope.names.lookup y.1=some .cell/\((J1 (s.heap.objs.size+1) scope.names []).lookup y.1).isSome=true):=λ⟨n,v⟩ hy=>by rcases S.par n (Et hy).1 with q|q;exact .inl q;exact .inr ⟨q,FL _ _ _ (.inl q)⟩
 refine codeAny_call_function Z.depth (KX _ _ lk) rfl S.co S.gen rfl (PySem.W.codeRec_of KX W) (hb _ _ _ _ ?_);refine wpAny_newFunctionEnv_cells S.kind G λenv he s1 x=>?_;subst he;refine⟨lim.keeps x.toInCall.keep,codeAny_func ?_⟩;obtain⟨t,ht,hq⟩:=B A outer s H vs Q E (Z.deeper _) U;have I:Inv (lH CX P w K mg base N qual scope f cdv A outer s H E) [] (start N vs) H s1:=zO S Z.hd L hl r x;refine Cy (ht [] s1 (start N vs) H _ I hq) (λfl s' hs=>?_) λe s' hs=>hs;have M:∀{σ':St} {H':Hp} {v:V} {u:Value},Inv (lH CX P w K mg base N qual scope f cdv A outer s H E) [] σ' H' s'->aP v u->Q v H'->CE outer P w H s Q u s':=
  λ{σ' H' v u} J'' rv q=>⟨v,H',J''.os,J''.bare,J''.base,J''.hok,rv,q⟩
 cases fl with
 | ret u=>obtain⟨v,σ',H',J'',rv,q⟩:=hs;exact M J'' rv q|next=>obtain⟨σ',H',J'',q⟩:=hs;exact M (v:=V.non) (u:=AZ) J'' rfl q|brk=>obtain⟨_,_,_,q⟩:=hs;exact BJ q|cont=>obtain⟨_,_,_,q⟩:=hs;exact BJ q
section
variable {X:Cx} {x:Str} {p pos:CF} {e:Av} {es:List Av} {t:TA} {id T:String} {r:List V->Hp->VK->Prop}
noncomputable def tCB(r:List V->Hp->VK->Prop)(t:TA):TE:=λσ H Q=>t σ H λvs H1=>r vs H1 Q
theorem rO(M:eE X (.builtin id) r)(W:Gl X x)(hm:X.mg x=none)(hv:B4 x=some (.builtin id))(L:PA X (e::es) t)(Z:x ≠ "__name__" := by decide)(l:(x==("__debug__" : Str))=false:=by decide)
 (U:A6 (e::es) X.env=(false,Cc e X.env)::A6 es X.env:=by rfl) (B:(BQ pos (A6 es X.env)).any (·.1)=false:=by rfl):PE X (.Call (.Name x p) (e::es) [] pos) (tCB r t):=by intro pins s σ H Q I h;refine Bv (cJ I W hm hv ?_ Z l);exact Cf (thn (L pos pins s σ H _ I h) λus s1 ⟨vs,H1,G,r1,q1⟩=>M pins s1 σ H1 vs us Q G r1 q1) U B
theorem jG(M:eE X (.type T) r)(W:Gl X x)(hm:X.mg x=none)(hv:B4 x=some (.type T))(L:PA X (e::es) t)(Z:x ≠ "__name__" := by decide)(l:(x==("__debug__" : Str))=false:=by decide)
 (U:A6 (e::es) X.env=(false,Cc e X.env)::A6 es X.env:=by rfl) (B:(BQ pos (A6 es X.env)).any (·.1)=false:=by rfl):PE X (.Call (.Name x p) (e::es) [] pos) (tCB r t):=by intro pins s σ H Q I h;refine Bv (cJ I W hm hv ?_ Z l);exact Ba (thn (L pos pins s σ H _ I h) λus s1 ⟨vs,H1,G,r1,q1⟩=>M pins s1 σ H1 vs us Q G r1 q1) U B
end
end L2
namespace HT
open PySem PyProof.Rows
section
variable {prog:A0} {w:AH} {A:AV} {E:Value->Ad->Prop} {s:Ad}
theorem cat_tup{t b:Addr}{vs ws:List Value}{Q:Value->Ad->Prop}(ht:IsTup s.heap t vs.toArray)(hb:IsTup s.heap b ws.toArray)(hv:vs≠[])
 (h1:ws=[]->Q (.ref t) s) (h2:ws≠[]->Q (.ref s.heap.objs.size) { s with heap:=s.heap.push { cls:=.type "tuple",data:=.seq (vs++ws).toArray } })
 (Z:vs.length+ws.length<=sizeLine):Ap (A2 prog w) A (DH .Add (.ref t) (.ref b)) Q E s:=by
 obtain⟨⟨cls,dd,data,sl⟩,M,hc,n,hd⟩:=id ht;obtain⟨⟨q0,B,W,L⟩,l,G,n2,I⟩:=id hb;simp only at hc hd G I;subst hc hd G I;have e:vs.toArray++ws.toArray=(vs++ws).toArray:=by simp
 by_cases U:ws=[]
 exact FN ⟨_,M,rfl⟩ ⟨_,l,rfl⟩ F0 GK DI DE (D2 _ _)
  (tuple_addW1 t b vs.toArray ws.toArray n n2 dd B sl L (by simpa using hv) (by simp[U])) ⟨M,l,h1 U⟩
 refine FN ⟨_,M,rfl⟩ ⟨_,l,rfl⟩ F0 GK DI DE (D2 _ _)
  (tuple_addW2 t b vs.toArray ws.toArray n n2 dd B sl L (by simpa using hv) (by simpa using U) (by rw[Al,Al];exact Z)) ⟨M,l,?_⟩
 rw[e];exact h2 U
noncomputable def sIx(n d:Nat):Option Int->Nat
 | none=>d|some v=>if v<0 then (v+(n:Int)).toNat else min v.toNat n
theorem aGH(n d:Nat)(hd:d<=n)(o:Option Int):sIx n d o<=n:=by
 cases o with
 | none=>exact hd|some v=>show(if v<0 then (v+(n:Int)).toNat else min v.toNat n)<=n;by_cases l:v<0;rw[if_pos l];omega;rw[if_neg l];exact Nat.min_le_right _ _
theorem wP(v:Int)(n d:Nat):(if v<0 then max (v+(n:Int)) 0 else min v (n:Int))=((sIx n d (some v):Nat):Int):=by
 show(if v<0 then max (v+(n:Int)) 0 else min v (n:Int))=(((if v<0 then (v+(n:Int)).toNat else min v.toNat n):Nat):Int)
 by_cases l:v<0;simp only[if_pos l];omega;simp only[if_neg l];omega
theorem uV(lo hi:Option Int)(n:Nat):Dw lo hi 1 (n:Int)=(((sIx n 0 lo:Nat):Int),((sIx n n hi:Nat):Int)):=by
 have l:¬ ((1:Int)<0):=by omega
 unfold Dw;simp only[l,if_false];refine JV ?_ ?_;cases lo with
 | none=>rfl|some v=>exact wP v n 0
 cases hi with
 | none=>rfl|some v=>exact wP v n n
theorem uW(i j:Nat):C7 (i:Int) (j:Int) 1=j-i:=by
 unfold C7;have l:(1:Int)>0:=by omega
 simp only[l,if_true,Int.ediv_one];split <;> omega
theorem lJ{v:Value}{o:Option Int}{Q:Option Int->Ad->Prop}(p:GV v o)(h:Q o s):Ap (A2 prog w) A (Im v) Q E s:=by
 cases p with
 | none=>exact IL h|int i t=>exact slicePart_int h
theorem jH{sl:Addr}{G I:Value}{lo hi:Option Int}{n:Nat}{Q:Int×Int×Nat->Ad->Prop}(hs:s.heap.IsSliceOf sl G I .none)(pl:GV G lo)(M:GV I hi)
 (h:Q (((sIx n 0 lo:Nat):Int),1,sIx n n hi-sIx n 0 lo) s):Ap (A2 prog w) A (ET (.ref sl) (pure (n:Int))) Q E s:=by obtain⟨os,B,L,l⟩:=id hs;unfold ET Jf;refine Aa (Aa (AT B l (x:=G) rfl (Aa (AT B l (x:=I) rfl (Aa (AT B l (x:=.none) rfl (Af ?_)))))));refine Aa (IL ?_);show Ap _ _ (if ((1:Int)==0)=true then _ else _) _ _ s;rw[if_neg (by decide)];refine Aa (lJ pl (Aa (lJ M (Aa (Af ?_)))));show Ap _ _ (match Dw lo hi 1 (n:Int) with|(lo,hi)=>pure (lo,(1:Int),C7 lo hi 1)) _ _ s;rw[uV lo hi n];show Ap _ _ (pure (((sIx n 0 lo:Nat):Int),(1:Int),C7 ((sIx n 0 lo:Nat):Int) ((sIx n n hi:Nat):Int) 1)) _ _ s;rw[uW];exact Af h
theorem aBg(xs:Array Value)(i k:Nat):((AD k).filterMap λ(m:Nat)=>xs[((i:Int)+(m:Int)*1).toNat]?).toArray=((xs.toList.drop i).take k).toArray:=by
 have e:(λ(m:Nat)=>xs[((i:Int)+(m:Int)*1).toNat]?)=λm=>xs[i+m]? := by
  funext m
  have:((i:Int)+(m:Int)*1).toNat=i+m:=by omega
  rw[this]
 rw[e];have:=pick_run xs i k;rw[List.filterMap_map] at this;have l:((λx=>xs[x]?)∘λx=>i+x)=λm=>xs[i+m]? := rfl;rw[l] at this;rw[this]
theorem getItem_tuple_cut{t sl:Addr}{items:Array Value}{U W:Value}{lo hi:Option Int}{Q:Value->Ad->Prop}(B:IsTup s.heap t items)(hs:s.heap.IsSliceOf sl U W .none)(pl:GV U lo)(pu:GV W hi)
 (hw:¬ (sIx items.size 0 lo=0/\sIx items.size items.size hi=items.size))
 (h:Q (.ref s.heap.objs.size) { s with heap:=s.heap.push { cls:=.type "tuple",data:=.seq ((items.toList.drop (sIx items.size 0 lo)).take (sIx items.size items.size hi-sIx items.size 0 lo)).toArray } })
 (q0:items.size<=sizeLine):Ap (A2 prog w) A (Iy (.ref t) (.ref sl)) Q E s:=by
 have l:sizeOk (.seq ((items.toList.drop (sIx items.size 0 lo)).take (sIx items.size items.size hi-sIx items.size 0 lo)).toArray):=by show((items.toList.drop (sIx items.size 0 lo)).take (sIx items.size items.size hi-sIx items.size 0 lo)).toArray.size<=sizeLine;rw[Al,AI,BO,AM];omega
 have hj:sIx items.size items.size hi<=items.size:=aGH _ _ (As _) hi;obtain⟨os,M,I,Z⟩:=id hs;have G:s.TypeIs (.ref sl) "slice" := ⟨os,M,I⟩
 unfold Iy
 try with_reducible refine BA ?_
 first|refine Aa (Af ?_)|skip
 refine Aa (wpAny_sequenceKey B.typeIs (by decide) ?_);refine Aa (Bj (name:=Cv "__getitem__") B.typeIs CL
  (Bs CL B.typeIs entry_tuple_getitem ?_ (args_tuple_getitem _ _)))
 show Ap _ _ (IM (.ref t) >>= _) _ _ s;refine Aa (tupleItemsOf_ B ?_);refine Aa (EI G ?_);rw[if_pos (by decide)];refine Aa (jH hs pl pu ?_);have L:¬ ((((sIx items.size 0 lo:Nat):Int)==0&&(1:Int)==1&&(sIx items.size items.size hi-sIx items.size 0 lo)==items.size)=true):=by intro q;rw[HP,HP] at q;have q1:((sIx items.size 0 lo:Nat):Int)=0:=eq_of_beq q.1.1;have q2:sIx items.size items.size hi-sIx items.size 0 lo=items.size:=eq_of_beq q.2;exact hw ⟨by omega,by omega⟩
 show Ap _ _ (if (((sIx items.size 0 lo:Nat):Int)==0&&(1:Int)==1&&(sIx items.size items.size hi-sIx items.size 0 lo)==items.size)=true then _ else _) _ _ s;rw[if_neg L,aBg]
 first
  | exact Aa (m:=CJ _) (Bm (Af ⟨_,rfl,Af h⟩) l)
  | exact Aa (m:=CJ _) (Bm (Aa (Af (Af ⟨_,rfl,Af h⟩))) l)
  | exact Aa (Aa (m:=CJ _) (Bm (Af (Af ⟨_,rfl,Af h⟩)) l))
  | exact Aa (Aa (m:=CJ _) (Bm (Af ⟨_,rfl,Af h⟩) l))
end
end HT
namespace L2
open PySem PySem.Spec PyProof.Rows
abbrev TO:=St->Hp->(Option Int->Hp->Prop)->Prop
noncomputable def PO(X:Cx)(e:Option Av)(t:TO):Prop:=
 ∀(pins:List (Addr×Obj)) (s:Ad) (σ:St) (H:Hp) (Q:Option Int->Hp->Prop),Inv X pins σ H s->t σ H Q ->
  Ap (A2 X.prog X.w) X.A (evalPart e X.env) (λu s'=>∃o H',Inv X pins σ H' s'/\GV u o/\Q o H') X.xe s
noncomputable def aDX:TO:=λ_ H Q=>Q none H
noncomputable def aJb(t:TE):TO:=λσ H Q=>t σ H λx H1=>∃i,x=.int i/\Q (some i) H1
section
variable {X:Cx} {e:Av} {te:TE} {lo hi:Option Av} {tl th:TO} {pos p2:CF}
theorem aDY:PO X none aDX:=by intro pins s σ H Q I h;rw[Jk];exact Af ⟨none,H,I,.none,h⟩
theorem aDZ(h:PE X e te):PO X (some e) (aJb te):=by intro pins s σ H Q I B;rw[evalPart_some];refine thn (h pins s σ H _ I B) λu s1 ⟨x,H1,l,L,G⟩=>?_;obtain⟨i,rfl,q⟩:=G;obtain⟨t,rfl⟩:=L;exact⟨some i,H1,l,.int i t,q⟩
noncomputable def SlR(X:Cx)(r:V->Option Int->Option Int->Hp->VK->Prop):Prop:=
 ∀(pins:List (Addr×Obj)) (s:Ad) (σ:St) (H:Hp) (x:V) (v vl vu:Value) (lo hi:Option Int) (sl:Addr) (Q:VK),Inv X pins σ H s->aP x v->s.heap.IsSliceOf sl vl vu .none->GV vl lo->GV vu hi->r x lo hi H Q ->
  ∃T id,IN (.type T) "__getitem__" = pure (some (.builtin id))/\s.TypeIs v T/\Ap (A2 X.prog X.w) X.A (Iy v (.ref sl)) (EP X pins σ Q) X.xe s
theorem SlR.or{r B:V->Option Int->Option Int->Hp->VK->Prop}(h:SlR X r)(h':SlR X B):SlR X (λx lo hi H Q=>r x lo hi H Q\/B x lo hi H Q):=by intro pins s σ H x v L M lo hi sl Q I G hs pl l q;rcases q with q|q;exact h pins s σ H x v L M lo hi sl Q I G hs pl l q;exact h' pins s σ H x v L M lo hi sl Q I G hs pl l q
noncomputable def tSl(r:V->Option Int->Option Int->Hp->VK->Prop)(te:TE)(tl th:TO):TE:=λσ H Q=>te σ H λx H1=>tl σ H1 λl H2=>th σ H2 λu H3=>r x l u H3 Q
theorem aBh{r:V->Option Int->Option Int->Hp->VK->Prop}(hr:SlR X r)(he:PE X e te)(hl:PO X lo tl)(hu:PO X hi th):PE X (.Subscript e (.Slice lo hi none p2) pos) (tSl r te tl th):=by intro pins s σ H Q I h;refine Subscript_ (thn (he pins s σ H _ I h) λv s1 ⟨x,H1,W,r1,q1⟩=>?_);refine wpAny_Slice (thn (hl pins s1 σ H1 _ W q1) λG s2 ⟨l,U,Z,pl,q2⟩=>thn (hu pins s2 σ U _ Z q2) λL B ⟨u,M,I3,pu,q3⟩=>?_);rw[Jk];refine Af ?_;have I4:Inv X pins σ M { B with heap:=B.heap.push { cls:=.type "slice",data:=.fields #[G,L,.none] } }:=I3.kept (t':=B.toks) λb ob q=>Ab _ q;obtain⟨T,id,hT,ht,hg⟩:=hr pins { B with heap:=B.heap.push { cls:=.type "slice",data:=.fields #[G,L,.none] } } σ M x v G L l u B.heap.objs.size Q I4 r1 (Kr ..) pl pu q3;show Ap (A2 X.prog X.w) X.A (Jl e (.Slice lo hi none p2) v (.ref B.heap.objs.size)) (EP X pins σ Q) X.xe { B with heap:=B.heap.push { cls:=.type "slice",data:=.fields #[G,L,.none] } };exact tail_any (ops:=[.ref B.heap.objs.size,v]) ht hT hg (by with_unfolding_all rfl)
noncomputable def rP(xs:List V)(lo hi:Option Int):List V:=(xs.drop (HT.sIx xs.length 0 lo)).take (HT.sIx xs.length xs.length hi-HT.sIx xs.length 0 lo)
theorem jX(xs:List V)(lo hi:Option Int):(rP xs lo hi).length<=xs.length:=by unfold rP;rw[AI,BO];omega
noncomputable def aBi(K:An):V->Option Int->Option Int->Hp->VK->Prop:=λx lo hi H Q=>∃a xs,x=.ref a/\SqT K H a xs /\
 ¬ (HT.sIx xs.length 0 lo=0/\HT.sIx xs.length xs.length hi=xs.length)/\∀p,H p=none->Q (.ref p) (upd H p (.tup (rP xs lo hi)))
theorem aGI:SlR X (aBi X.K):=by
 intro pins s σ H x v Z vu lo hi sl Q I U hs pl M h;obtain⟨a,xs,rfl,L,G,q⟩:=h;cases U;obtain⟨its,r,B,hz⟩:=I.tuple L;have l:its.toArray.size=xs.length:=by rw[Al];exact r.length.symm
 refine⟨"tuple",_,CL.lookup,B.typeIs,?_⟩;refine HT.getItem_tuple_cut B hs pl M (by rw[l];exact G) ?_ (by rw[l];exact hz);rw[l];refine⟨.ref s.heap.objs.size,_,I.laid (t':=s.toks) (o:=.tup (rP xs lo hi)) (λb W q=>Ab _ q) (As _) ?_,rfl,q _ (I.hok.fresh (As _))⟩;exact⟨AX (jX xs lo hi) hz,_,(r.drop (HT.sIx xs.length 0 lo)).take (HT.sIx xs.length xs.length hi-HT.sIx xs.length 0 lo),J2 _ _⟩
noncomputable def aJc(K:An):R2:=λx y H Q=>∃a b xs ys,x=.ref a/\y=.ref b/\SqT K H a xs/\SqT K H b ys/\xs≠[]/\xs.length+ys.length<=sizeLine /\
 (ys=[]->Q (.ref a) H)/\(ys≠[]->∀p,H p=none->Q (.ref p) (upd H p (.tup (xs++ys))))
theorem aM.nil_iff{xs:List V}{us:List Value}(r:aM xs us):us=[]↔xs=[]:=by
 cases r with
 | nil=>simp|cons _ _=>simp
theorem aEa:OpR X (DH .Add) (aJc X.K):=by intro pins s σ H x y v u Q I rx ry h;obtain⟨a,b,xs,ys,rfl,rfl,L,hb,M,hz,W,Z⟩:=h;cases rx;cases ry;obtain⟨its,B,U,_⟩:=I.tuple L;obtain⟨G,l,p2,_⟩:=I.tuple hb;refine HT.cat_tup U p2 (λz=>M (B.nil_iff.mp z)) (λz=>⟨.ref a,H,I,rfl,W (l.nil_iff.mp z)⟩) (λz=>?_) (by rw[<-B.length,<-l.length];exact hz);refine⟨.ref s.heap.objs.size,_,I.laid (t':=s.toks) (o:=.tup (xs++ys)) (λb ob q=>Ab _ q) (As _) ?_,rfl,Z (λw=>z (l.nil_iff.mpr w)) _ (I.hok.fresh (As _))⟩;exact⟨by rw[DC];exact hz,_,B.append l,J2 _ _⟩
end
noncomputable def ixN(n:Nat)(i:Int):Option Nat:=if 0<=i then (if i<n then some i.toNat else none) else if -(n:Int)<=i then some (i+n).toNat else none
noncomputable def atI{α:Type}(xs:List α)(i:Int):Option α:=(ixN xs.length i).bind λj=>xs[j]?
theorem wQ{n:Nat}{i:Int}{j:Nat}(h:ixN n i=some j):J3 i n=some j/\j<n/\-(n:Int)<=i/\i<n:=by unfold ixN at h;by_cases B:0<=i;rw[if_pos B] at h;by_cases l:i<n;rw[if_pos l] at h;have e:i.toNat=j:=Au h;exact⟨by rw[Ig B l,e],by omega,by omega,l⟩;rw[if_neg l] at h;cases h;rw[if_neg B] at h;by_cases l:-(n:Int)<=i;rw[if_pos l] at h;have e:(i+n).toNat=j:=Au h;exact⟨by rw[Hq (by omega) l,e],by omega,l,by omega⟩;rw[if_neg l] at h;cases h
theorem pY{α:Type}{xs:List α}{i:Int}{v:α}(h:atI xs i=some v):∃j,J3 i xs.length=some j/\xs[j]? = some v/\j<xs.length/\-(xs.length:Int)<=i/\i<xs.length:=by
 unfold atI at h;cases e:ixN xs.length i with
 | none=>rw[e] at h;cases h|some j=>rw[e] at h;obtain⟨l,B,G,I⟩:=wQ e;exact⟨j,l,h,B,G,I⟩
noncomputable def wR(b:Av):Prop:=∀o i,JW b false o i=operate [o,i] (Iy o i)
noncomputable def IxR(X:Cx)(r:R2):Prop:=
 ∀(value slice:Av) (pins:List (Addr×Obj)) (s:Ad) (σ:St) (H:Hp) (x y:V) (v u:Value) (Q:VK),Inv X pins σ H s->aP x v->aP y u->r x y H Q ->
  JW slice false v u=operate [v,u] (Iy v u)->Ap (A2 X.prog X.w) X.A (Jl value slice v u) (EP X pins σ Q) X.xe s
noncomputable def MtR(X:Cx)(id:String)(r:V->List V->Hp->VK->Prop):Prop:=
 ∀(pins:List (Addr×Obj)) (s:Ad) (σ:St) (H:Hp) (x:V) (xs:List V) (v:Value) (us:List Value) (Q:VK),Inv X pins σ H s->aP x v->aM xs us->r x xs H Q ->
  Ap (A2 X.prog X.w) X.A (call (.builtin id) (v::us)) (EP X pins σ Q) X.xe s
section
variable {X:Cx} {a b:Av} {ta tb:TE} {pos:CF}
theorem IxR.or{r G:R2}(h:IxR X r)(h':IxR X G):IxR X (λx y H Q=>r x y H Q\/G x y H Q):=by intro B l pins s σ H x y v u Q I L M q hs;rcases q with q|q;exact h B l pins s σ H x y v u Q I L M q hs;exact h' B l pins s σ H x y v u Q I L M q hs
theorem aBj{r:R2}(L:IxR X r)(G:PE X a ta)(hb:PE X b tb)(hs:wR b):PE X (.Subscript a b pos) (tOp r ta tb):=by intro pins s σ H Q I h;exact Subscript_ (aIT G hb I h λv u s2 x y l B M U q=>L a b pins s2 σ l x y v u Q B M U q (hs _ _))
noncomputable def aJd(K:An):R2:=λx y H Q=>∃p xs i v,x=.ref p/\y=.int i/\SqL K H p xs/\atI xs i=some v/\Q v H
noncomputable def aJe(K:An):R2:=λx y H Q=>∃p xs i v,x=.ref p/\y=.int i/\SqT K H p xs/\atI xs i=some v/\Q v H
noncomputable def aJf:R2:=λx y H Q=>∃z i c,x=.str z/\y=.int i/\z.length<=sizeLine/\atI z.cps.toList i=some c/\Q (.str ⟨#[c]⟩) H
theorem pZ:IxR X (aJd X.K):=by
 intro U M pins s σ H x y v u Q I rx ry h hs;obtain⟨p,xs,i,z,rfl,rfl,hq,he,q⟩:=h;cases rx;obtain⟨t,rfl⟩:=ry;obtain⟨its,r,pl,hz⟩:=I.list hq;obtain⟨j,B,h2,h3,h4,h5⟩:=pY he;obtain⟨w,W,L⟩:=r.get h2;have hl:=r.length;have hn:=gM;have l:EP X pins σ Q w s:=⟨z,H,I,L,q⟩
 by_cases Z:0<=i;have G:i.toNat=j:=by rw[Ig Z h5] at B;exact Au B
 exact item_listR pl.isList Z (by omega) (by rw[G];simpa using W) l hs;have G:(i+(its.toArray.size:Int)).toNat=j:=by rw[Hq (by omega) h4] at B;rw[Al,<-hl];exact Au B
 exact FO (x:=w) pl.isList.typeIs Hr.lookup
  (wpAny_getItem_list_neg (Q:=λr s'=>r=w/\EP X pins σ Q r s') pl.isList (by omega) (by rw[Al] <;> omega) (by omega) (by rw[G];simpa using W) ⟨rfl,l⟩) hs
theorem aGJ:IxR X (aJe X.K):=by
 intro L G pins s σ H x y v u Q I rx ry h hs;obtain⟨p,xs,i,z,rfl,rfl,hq,Z,q⟩:=h;cases rx;obtain⟨t,rfl⟩:=ry;obtain⟨its,r,pl,hz⟩:=I.tuple hq;obtain⟨j,U,W,h3,h4,h5⟩:=pY Z;obtain⟨w,M,B⟩:=r.get W;have hl:=r.length;have hn:=gM;have l:EP X pins σ Q w s:=⟨z,H,I,B,q⟩
 exact FO (x:=w) pl.typeIs slot_tuple_getitem.lookup
  (getItem_tuple (j:=j) (Q:=λr s'=>r=w/\EP X pins σ Q r s') pl (by omega) (by omega) (by rw[Al,<-hl];exact U) (by simpa using M) ⟨rfl,l⟩) hs
theorem aGK:IxR X aJf:=by
 intro B l pins s σ H x y v u Q I rx ry h hs;obtain⟨z,i,c,rfl,rfl,hz,he,q⟩:=h;obtain⟨t,rfl⟩:=rx;obtain⟨t',rfl⟩:=ry;obtain⟨j,G,U,h3,W,Z⟩:=pY he;have hl:z.cps.toList.length=z.length:=by simp[Ks]
 rw[hl] at G W Z;have hn:=gM;exact tail_any (typeIs_str s z t) slot_str_getitem.lookup (getItem_str (c:=c) (by
  have L:decide (i < -(2 ^ 63:Int))=false:=Be (by omega);have M:decide (i ≥ 2 ^ 63)=false:=Be (by omega);rw[L,M,Jm]) (by rw[G];simpa using U) ⟨.str ⟨#[c]⟩,H,I.tok _,⟨_,rfl⟩,q⟩) hs
noncomputable def rIx(K:An):R2:=λx y H Q=>aJd K x y H Q\/aJe K x y H Q\/aJf x y H Q
theorem aGL:IxR X (rIx X.K):=pZ.or (aGJ.or aGK)
theorem uX(its:List Value)(n j:Nat)(u:Value):B1 (·.setIfInBounds j u) { cls:=.type "list",data:=.seq its.toArray n }={ cls:=.type "list",data:=.seq (its.set j u).toArray n }:=by simp[B1]
theorem Inv.lst{pins:List (Addr×Obj)}{σ:St}{H:Hp}{s:Ad}{p:Addr}{xs:List V}(I:Inv X pins σ H s)(h:H p=some (.lst xs)) :
 ∃(its:List Value) (n:Nat),aM xs its/\s.heap.get? p=some { cls:=.type "list",data:=.seq its.toArray n }/\xs.length<=sizeLine:=by obtain⟨z,its,n,r,e⟩:=I.hok p _ h;exact⟨its,n,r,e,z⟩
theorem Inv.lstUpd{pins:List (Addr×Obj)}{σ:St}{H:Hp}{s:Ad}{p:Addr}{xs ys:List V}{its its':List Value}{n n':Nat}{f:Obj->Obj}(I:Inv X pins σ H s)(h:H p=some (.lst xs))
 (B:s.heap.get? p=some { cls:=.type "list",data:=.seq its.toArray n }) (l:f { cls:=.type "list",data:=.seq its.toArray n }={ cls:=.type "list",data:=.seq its'.toArray n' }) (r:aM ys its') (hz:ys.length<=sizeLine) (t:Nat) :
 Inv X pins σ (upd H p (.lst ys)) { s with heap:=s.heap.update p f,toks:=t }:=by
 have e:(s.heap.update p f).get? p=some { cls:=.type "list",data:=.seq its'.toArray n' }:=by rw[Bg f B (by rw[l] <;> rfl),l]
 refine I.write (x:=p) (e:=p) (by rw[h];trivial) (.inl rfl) (λb u hb q=>(AE _ _ (BS hb)).trans q) ⟨_,e⟩ ?_;exact⟨hz,its',n',r,e⟩
noncomputable def aJg:V->V->V->Hp->(Hp->Prop)->Prop:=λo i v H Q=>∃p xs k j,o=.ref p/\i=.int k/\H p=some (.lst xs)/\ixN xs.length k=some j/\Q (upd H p (.lst (xs.set j v)))
theorem aBk:aIN X aJg:=by
 intro pins s σ H o i v ov iv u Q I ro ri rv h;obtain⟨p,xs,k,j,rfl,rfl,Z,hj,q⟩:=h;cases ro;obtain⟨t,rfl⟩:=ri;obtain⟨its,n,r,G,hz⟩:=I.lst Z;obtain⟨l,h2,U,W⟩:=wQ hj;have hl:=r.length;have hn:=gM;have L:Inv X pins σ (upd H p (.lst (xs.set j v))) { s with heap:=s.heap.update p (B1 (·.setIfInBounds j u)) }:=
  I.lstUpd Z G (uX its n j u) (r.set rv j) (by rw[Ay];exact hz) s.toks
 by_cases M:0<=k;have B:k.toNat=j:=by rw[Ig M W] at l;exact Au l
 exact PySem.W.ki_setAt G M (by omega) (by rw[Al,<-hl];exact W) (by rw[B];exact⟨_,L,q⟩);have B:(k+(its.toArray.size:Int)).toNat=j:=by rw[Hq (by omega) U] at l;rw[Al,<-hl];exact Au l
 exact PySem.W.ki_setBack G (by omega) (by rw[Al,<-hl];exact U) (by omega) (by rw[B];exact⟨_,L,q⟩)
theorem qB(lo hi:Option Int)(n:Nat):(DF lo hi none n).1=((HT.sIx n 0 lo:Nat):Int)/\(DF lo hi none n).2.1=((HT.sIx n n hi:Nat):Int)/\(DF lo hi none n).2.2=1:=by
 refine⟨?_,?_,rfl⟩;cases lo with
 | none=>simp[DF,HT.sIx]|some i=>simp only[DF,HT.sIx,F1,show(1:Int)>0 by decide,if_true];by_cases h:i<0;simp only[h,if_true] <;> omega;simp only[h,if_false] <;> omega
 cases hi with
 | none=>simp[DF,HT.sIx]|some i=>simp only[DF,HT.sIx,F1,show(1:Int)>0 by decide,if_true];by_cases h:i<0;simp only[h,if_true] <;> omega;simp only[h,if_false] <;> omega
theorem nL(its:List Value)(lo hi:Option Int):slicePick its.toArray lo hi none=((its.drop (HT.sIx its.length 0 lo)).take (HT.sIx its.length its.length hi-HT.sIx its.length 0 lo)).toArray:=by obtain⟨l,B,G⟩:=qB lo hi its.toArray.size;unfold slicePick;rw[l,B,G];simp only[sliceRange_one,pick_run,Al] <;> rfl
noncomputable def aBl(K:An):V->Option Int->Option Int->Hp->VK->Prop:=λx lo hi H Q=>∃a xs,x=.ref a/\SqL K H a xs/\∀p,H p=none->Q (.ref p) (upd H p (.lst (rP xs lo hi)))
theorem aEb:SlR X (aBl X.K):=by intro pins s σ H x v W Z lo hi sl Q I M hs pl L h;obtain⟨a,xs,rfl,G,q⟩:=h;cases M;obtain⟨its,r,B,hz⟩:=I.list G;have l:=r.length;refine⟨"list",_,Hr.lookup,B.isList.typeIs,?_⟩;refine wpAny_getItem_list_slice B.isList hs pl L .none (by simp) ?_ (by rw[Al] <;> omega);rw[nL,<-l];refine⟨.ref s.heap.objs.size,_,I.laid (t':=s.toks) (o:=.lst (rP xs lo hi)) (λb U q=>Ab _ q) (As _) ?_,rfl,q _ (I.hok.fresh (As _))⟩;exact⟨AX (jX xs lo hi) hz,_,0,(r.drop (HT.sIx xs.length 0 lo)).take (HT.sIx xs.length xs.length hi-HT.sIx xs.length 0 lo),Aq _ rfl⟩
theorem qD:eE X (.builtin "len") (λxs H Q=>∃p ys,xs=[.ref p]/\(SqL X.K H p ys\/SqT X.K H p ys)/\Q (.int ys.length) H):=by intro pins s σ H xs us Q I r h;obtain⟨p,ys,rfl,B,q⟩:=h;obtain⟨u,rfl,L⟩:=lG r;cases L;have M:=gM;rcases B with B|B;obtain⟨its,G,pl,hz⟩:=I.list B;have l:=G.length;exact Calls.call_len_list pl.isList (by simp only[Al] <;> omega) ⟨.int ys.length,H,I.tok _,⟨s.toks+1,by rw[Al,l]⟩,q⟩;obtain⟨its,G,pl,hz⟩:=I.tuple B;have l:=G.length;exact len_tuple pl (by simp only[Al] <;> omega) ⟨.int ys.length,H,I.tok _,⟨s.toks+1,by rw[Al,l]⟩,q⟩
theorem qF:eE X (.builtin "len") (λxs H Q=>∃z,xs=[.str z]/\z.length<=sizeLine/\Q (.int z.length) H):=by intro pins s σ H xs us Q I r h;obtain⟨z,rfl,hz,q⟩:=h;obtain⟨u,rfl,t,rfl⟩:=lG r;have l:=gM;exact len_str (by omega) ⟨.int z.length,H,I.tok _,⟨_,rfl⟩,q⟩
theorem eE.or{f:Value}{r l:List V->Hp->VK->Prop}(h:eE X f r)(h':eE X f l):eE X f (λxs H Q=>r xs H Q\/l xs H Q):=by intro pins s σ H xs us Q I B q;rcases q with q|q;exact h pins s σ H xs us Q I B q;exact h' pins s σ H xs us Q I B q
theorem qG:eE X (.type "list") (λxs H Q=>∃p ys,xs=[.ref p]/\(SqL X.K H p ys\/SqT X.K H p ys)/\∀l,H l=none->Q (.ref l) (upd H l (.lst ys))):=by
 intro pins s σ H xs us Q I r h;obtain⟨p,ys,rfl,U,q⟩:=h;obtain⟨u,rfl,rx⟩:=lG r;cases rx;have L:∀(its:List Value),aM ys its->ys.length<=sizeLine->∀(h':Heap) (B:Nat),(∀b o',s.heap.get? b=some o'->h'.get? b=some o') ->
  h'.get? s.heap.objs.size=some { cls:=.type "list",dict:=none,data:=.seq its.toArray B,slots:=#[] }->EP X pins σ Q (.ref s.heap.objs.size) { s with heap:=h' }:=λits G hz h' B kp e=>
  ⟨.ref s.heap.objs.size,_,I.laid (t':=s.toks) kp (As _) (show bQ X.prog X.w _ h' _ (.lst ys) from⟨hz,its,B,G,e⟩),rfl,q _ (I.hok.fresh (As _))⟩
 rcases U with U|U;obtain⟨its,G,pl,hz⟩:=I.list U;have M:=G.length;obtain⟨o,Z,W,n,hd⟩:=pl.isList;exact Jn p (.inl rfl) Z W hd (λh' B kp e=>L its G hz h' B kp e) (by simp only[Al] <;> omega);obtain⟨its,G,pl,hz⟩:=I.tuple U;have M:=G.length;obtain⟨o,Z,W,n,hd⟩:=pl;exact Jn p (.inr rfl) Z W hd (λh' B kp e=>L its G hz h' B kp e) (by simp only[Al] <;> omega)
theorem nM:eE X (.type "tuple") (λxs H Q=>∃p ys,xs=[.ref p]/\((SqL X.K H p ys/\∀l,H l=none->Q (.ref l) (upd H l (.tup ys)))\/(SqT X.K H p ys/\Q (.ref p) H))):=by
 intro pins s σ H xs us Q I r h;obtain⟨p,ys,rfl,h⟩:=h;obtain⟨u,rfl,W⟩:=lG r;cases W;rcases h with⟨B,q⟩|⟨B,q⟩
 obtain⟨its,G,pl,hz⟩:=I.list B;have M:=G.length;refine call_tuple_list pl.isList (λh' kp=>?_) (by simp only[Al] <;> omega);have L:Inv X pins σ H { s with heap:=h' }:=I.kept (t':=s.toks) kp;have U:Inv X pins σ (upd H h'.objs.size (.tup ys)) { s with heap:=h'.push { cls:=.type "tuple",data:=.seq its.toArray } }:=
  L.laid (t':=s.toks) (λb o e=>Ab _ e) (As _) (show bQ X.prog X.w _ _ _ (.tup ys) from⟨hz,its,G,J2 _ _⟩)
 exact⟨.ref h'.objs.size,_,U,rfl,q _ (L.hok.fresh (As _))⟩;obtain⟨its,G,pl,hz⟩:=I.tuple B;exact call_tuple_same pl ⟨.ref p,H,I,rfl,q⟩
noncomputable def tyV(K:An)(T:String)(x:V)(H:Hp):Prop:=match x with
 | .str _=>T = "str"|.int _=>T = "int"|.ref p=>(T = "list" /\ ∃xs,SqL K H p xs)\/(T = "tuple" /\ ∃o,K.lookup p=some o/\o.cls=.type "tuple" /\ o.dict=none) \/
  (T = "dict" /\ ((∃kvs,H p=some (.dK kvs))\/∃kvs,H p=some (.dT kvs)))\/(T = "set" /\ ∃S n,H p=some (.set S n))
 | _=>False
theorem aGM{pins:List (Addr×Obj)}{σ:St}{H:Hp}{s:Ad}{T:String}{x:V}{v:Value}(I:Inv X pins σ H s)(r:aP x v)(ty:tyV X.K T x H) :
 s.TypeIs v T/\∀a,v=.ref a->∃G,s.heap.get? a=some G/\G.dict=none:=by
 cases x with
 | str z=>obtain⟨t,rfl⟩:=r;cases(show T = "str" from ty);exact⟨typeIs_str s z t,λ_ e=>nomatch e⟩|int i=>obtain⟨t,rfl⟩:=r;cases(show T = "int" from ty);exact⟨typeIs_int s i t,λ_ e=>nomatch e⟩|ref p=>
  cases r;rcases ty with⟨rfl,xs,M⟩|⟨rfl,o,l,L,hd⟩|⟨rfl,l⟩|⟨rfl,S,n,l⟩
  obtain⟨its,_,pl,_⟩:=I.list M;refine⟨pl.isList.typeIs,λa e=>?_⟩;cases e;obtain⟨o,n,e,c,hd,_⟩:=pl;exact⟨o,e,hd⟩;refine⟨⟨o,I.kIn p o l,L⟩,λa e=>?_⟩;cases e;exact⟨o,I.kIn _ o l,hd⟩;have z:∃o,s.heap.get? p=some o/\o.ExactDict:=by
   rcases l with⟨kvs,l⟩|⟨kvs,l⟩
   obtain⟨_,_,_,_,o,_,_,e,ex,_⟩:=I.hok p _ l;exact⟨o,e,ex⟩;obtain⟨_,_,_,_,o,_,_,e,ex,_⟩:=I.hok p _ l;exact⟨o,e,ex⟩
  obtain⟨o,e,ex⟩:=z;refine⟨⟨o,e,ex.1⟩,λa B=>?_⟩;cases B;exact⟨o,e,ex.2.1⟩;obtain⟨o,_,_,_,e,ex,_⟩:=I.hok p _ l;refine⟨⟨o,e,ex.1⟩,λa B=>?_⟩;cases B;exact⟨o,e,ex.2.1⟩
 | _=>exact BJ ty
noncomputable def tBM(K:An)(T:String)(r:V->List V->Hp->VK->Prop)(to:TE)(t:TA):TE:=λσ H Q=>to σ H λx H1=>tyV K T x H1/\t σ H1 λxs H2=>r x xs H2 Q
variable {o e:Av} {es:List Av} {to:TE} {t:TA} {name:Str} {apos cpos:CF} {T id:String} {r:V->List V->Hp->VK->Prop}
theorem rQ(pa:PlainAttrs T)(slot:Slot T name id)(M:typeOf (.builtin id)=pure (.type "method_descriptor"))(hm:MtR X id r)(ho:PE X o to)(ha:PA X (e::es) t)
 (B:Eh o name X.env (Cc o X.env)=Cc o X.env:=by rfl)
 (L:((BQ cpos (A6 (e::es) X.env)).all (λx=>!x.1)&&(ES cpos (Dm [] X.env)).all (λx=>x.1.isSome)
  && decide ((e::es).length+([]:List Fk).length+(if ([]:List Fk).isEmpty then 0 else 1)<30))=true:=by rfl)
 (G:(apos.endLine==cpos.line)=true:=by rfl) (hs:A6 (e::es) X.env=(false,Cc e X.env)::A6 es X.env:=by rfl) (l:(BQ cpos (A6 es X.env)).any (·.1)=false:=by rfl) :
 PE X (.Call (.Attribute o name apos) (e::es) [] cpos) (tBM X.K T r to t):=by intro pins s σ H Q I h;refine DJ B L G rfl (thn (ho pins s σ H _ I h) λv s1 ⟨x,H1,U,Z,ty,q1⟩=>?_);obtain⟨h1,h2⟩:=aGM U Z ty;refine⟨T,id,pa,slot,M,h1,h2,?_⟩;have W:=ha cpos pins s1 σ H1 _ U q1;rw[hs] at W ⊢;refine DK (by show(false||(BQ cpos (A6 es X.env)).any (·.1))=false;rw[l] <;> rfl) (Dn ?_);exact thn W λus s2 ⟨vs,H2,I2,r2,q2⟩=>hm pins s2 σ H2 x vs v us Q I2 Z r2 q2
end
noncomputable def MtM(X:Cx)(id:String)(r:V->List V->Hp->VK->Prop):Prop:=
 ∀(pins:List (Addr×Obj)) (s:Ad) (σ:St) (H:Hp) (x:V) (xs:List V) (v:Value) (us:List Value) (Q:VK),Inv X pins σ H s->aP x v->aM xs us->r x xs H Q ->
  Ap (A2 X.prog X.w) X.A (call (.builtin id) (v::us)) (EP X pins σ Q) X.xe s
theorem aM.one:∀{x:V} {us:List Value},aM [x] us->∃u,us=[u]/\aP x u:=by intro x us h;cases h with|cons r t=>cases t;exact⟨_,rfl,r⟩
theorem aM.two:∀{x y:V} {us:List Value},aM [x,y] us->∃u v,us=[u,v]/\aP x u/\aP y v:=by intro x y us h;cases h with|cons r t=>cases t with|cons q t=>cases t;exact⟨_,_,rfl,r,q⟩
theorem aM.zero:∀{us:List Value},aM [] us->us=[]
 | _,.nil=>rfl
theorem aM.eraseIdx:∀{xs:List V} {us:List Value} (i:Nat),aM xs us->aM (xs.eraseIdx i) (us.eraseIdx i)
 | _,_,_,.nil=>.nil|_,_,0,.cons _ t=>t|_,_,i+1,.cons r t=>.cons r (aM.eraseIdx i t)
theorem aM.reverse{xs:List V}{us:List Value}(h:aM xs us):aM xs.reverse us.reverse:=by
 induction h with
 | nil=>exact .nil|cons r t l=>rw[DL,DL];exact aM.append l (.cons r .nil)
theorem oA{α:Type}:∀(l:List α) (i:Nat),(l.eraseIdx i).length<=l.length
 | [],_=>As _|_::_,0=>CW _|_::r,i+1=>DV (oA r i)
section
variable {X:Cx} {pins:List (Addr×Obj)} {σ:St} {H:Hp} {s:Ad} {l b:Addr} {xs ys zs:List V}
theorem Inv.lset{its its':List Value}{n:Nat}{f:Array Value->Array Value}{t':Nat}(I:Inv X pins σ H s)(B:H l=some (.lst xs))
 (e:s.heap.get? l=some { cls:=.type "list",data:=.seq its.toArray n }) (G:f its.toArray=its'.toArray) (M:aM ys its') (hz:ys.length<=sizeLine) :
 Inv X pins σ (upd H l (.lst ys)) { s with heap:=s.heap.update l (B1 f),toks:=t' }:=by have q:=HQ e f;rw[G] at q;refine I.write (x:=l) (e:=l) (by rw[B];exact trivial) (.inl rfl) (λU u hb L=>(AE s.heap (B1 f) (BS hb)).trans L) ⟨_,q⟩ ?_;exact⟨hz,its',_,M,q⟩
theorem Inv.lnew{its:List Value}{t':Nat}(I:Inv X pins σ H s)(B:aM ys its)(hz:ys.length<=sizeLine) :
 Inv X pins σ (upd H s.heap.objs.size (.lst ys)) { s with heap:=s.heap.push { cls:=.type "list",data:=.seq its.toArray },toks:=t' }:=
 I.laid (λ_ _ q=>Ab _ q) (As _) ⟨hz,its,0,B,Aq _ rfl⟩
theorem Inv.fresh(I:Inv X pins σ H s):H s.heap.objs.size=none:=I.hok.fresh (As _)
theorem Inv.lstM(I:Inv X pins σ H s)(B:H l=some (.lst xs)):xs.length<=sizeLine/\∃(its:List Value) (n:Nat),aM xs its/\xs.length=its.length/\s.heap.get? l=some { cls:=.type "list",data:=.seq its.toArray n }:=by obtain⟨z,its,n,r,e⟩:=I.hok l _ B;exact⟨z,its,n,r,r.length,e⟩
theorem aBm{n:Nat}(h:n<=sizeLine):D3 n=false:=by unfold D3;exact Be (by omega)
end
section
variable {X:Cx}
noncomputable def wU:V->List V->Hp->VK->Prop:=λx vs H Q=>∃l xs y,x=.ref l/\vs=[y]/\H l=some (.lst xs)/\xs.length<sizeLine/\Q .non (upd H l (.lst (xs++[y])))
theorem oC:MtM X "list.append" wU:=by intro pins s σ H x vs v us Q I L rv h;obtain⟨l,xs,y,rfl,rfl,B,hz,q⟩:=h;cases L;obtain⟨u,rfl,G⟩:=rv.one;obtain⟨z,its,n,r,hl,e⟩:=I.lstM B;refine FP GW ⟨_,e,rfl⟩ GA (Go _ _) (Hs l its.toArray n u (by rw[Al];omega)) ⟨e,?_⟩;refine⟨.non,_,I.lset (its':=its++[u]) B e (by simp) (r.append (.cons G .nil)) ?_,rfl,q⟩;rw[DC,DT];omega
noncomputable def aEc:V->List V->Hp->VK->Prop:=λx vs H Q=>∃l b xs zs,x=.ref l/\vs=[.ref b]/\H l=some (.lst xs)/\H b=some (.lst zs)/\xs.length+zs.length<=sizeLine/\Q .non (upd H l (.lst (xs++zs)))
theorem zP:MtM X "list.extend" aEc:=by
 intro pins s σ H x vs v us Q I rx rv h;obtain⟨l,b,xs,zs,rfl,rfl,M,W,hz,q⟩:=h;cases rx;obtain⟨u,rfl,ru⟩:=rv.one;cases ru;obtain⟨z,its,n,r,hl,e⟩:=I.lstM M;obtain⟨z2,B,n2,r2,Z,U⟩:=I.lstM W;have L:its.toArray.size+B.toArray.size<=sizeLine:=by rw[Al,Al];omega
 have G:¬ (!its.toArray.isEmpty&&D3 (its.toArray.size+B.toArray.size))=true:=by rw[aBm L,Bool.and_false];exact D9
 refine FP F.slot_list_extend ⟨_,e,rfl⟩ F.entry_list_extend (F.args_list_extend_2 _ _)
  (Ht l its.toArray n b B.toArray n2 G (by rw[Al];omega) (by omega)) ⟨e,U,?_⟩
 refine⟨.non,_,I.lset (its':=its++B) M e (by simp) (r.append r2) ?_,rfl,q⟩;rw[DC];omega
noncomputable def aGN:V->List V->Hp->VK->Prop:=λx vs H Q=>∃l xs i k y,x=.ref l/\vs=[.int i]/\H l=some (.lst xs)/\-(2 ^ 63)<=i/\i<2 ^ 63/\J3 i xs.length=some k/\xs[k]? = some y/\Q y (upd H l (.lst (xs.eraseIdx k)))
theorem aBn:MtM X "list.pop" aGN:=by
 intro pins s σ H x vs v us Q I rx rv h;obtain⟨l,xs,i,k,y,rfl,rfl,G,L,M,U,Z,q⟩:=h;cases rx;obtain⟨u,rfl,ru⟩:=rv.one;obtain⟨t,rfl⟩:=ru;obtain⟨z,its,n,r,hl,e⟩:=I.lstM G;obtain⟨w,W,B⟩:=r.get Z;refine FP F.slot_list_pop ⟨_,e,rfl⟩ F.entry_list_pop (F.args_list_pop_2 _ _)
  (JX l its.toArray n i t k w (fitsIndex_both L M) (by rw[Al,<-hl];exact U) (by rw[<-B2];exact W) (by rw[Al];omega)) ⟨e,?_⟩
 refine⟨y,_,I.lset (its':=its.eraseIdx k) G e ?_ (r.eraseIdx k) ?_,B,q⟩;show its.toArray.eraseIdxIfInBounds k=(its.eraseIdx k).toArray;rw[List.eraseIdxIfInBounds_toArray];have:=oA xs k;omega
end
end L2
namespace Att
open PySem PySem.W PySem.Calls PyProof.Rows
theorem kE{P:IP}{h:Heap}:∀(ns:List Int) (vs:List Value),WellAll P h vs (ns.map KO)->Iz vs ns:=by
 intro ns
 induction ns with
 | nil=>intro vs w;rw[List.map_nil] at w;cases w;exact .nil|cons n ns l=>
  intro vs w;rw[GJ] at w;cases w with
  | cons a b=>cases a;exact .cons _ _ (l _ b)
theorem zQ{l:K5}{n:Nat}(hn:l.most=some n){P:IP}{h:Heap}{args:List WData}{G:List Value}
 (B:l.row.toRowW.claim.pre args=true) (Z:WellAll P h G args) :
 ∃a vs ns,G=[A5 a]/\args=[WData.list (ns.map KO)]/\h.get? a=some { cls:=.type "list",data:=.seq vs.toArray }/\Iz vs ns/\ns.length<=n:=by
 have W:WShape.hasAll [] args [.list .int]=true:=(pre_splitW B).1;have hc:l.pre.holds [] { args:=args }=true:=(pre_splitW B).2;obtain⟨d,r,rfl,h1,h2⟩:=hasAllW_cons W;obtain rfl:=hasAllW_nil h2;obtain⟨xs,rfl,h3⟩:=hasW_list h1;obtain⟨ns,rfl⟩:=items_int h3;have L:ns.length<=n:=by
  unfold OpenLaw.pre at hc;have M:(WTm.not (.lt (.lit (.int (n:Int))) (.len (.arg 0)))).holds [] { args:=[.list (ns.map .int)] }=true:=by have M:=(holds_andW hc).1;rw[hn] at M;exact M
  have U:=condW_of M (w_not (w_lt w_lit (w_len_list (w_arg rfl))));rw[Er] at U;refine Nat.le_of_not_lt λq=>?_;have q':(n:Int)<((ns.length:Nat):Int):=by omega
  first
   | (rw[AR q'] at U;exact absurd U (by decide))
   | (simp at U;omega)
 cases Z with
 | cons w1 w2=>
  cases w2;cases w1 with
  | list ho I=>exact⟨_,_,ns,rfl,rfl,ho,kE ns _ I,L⟩
theorem zR(l:K5)(args:List WData):l.row.toRowW.claim.post args (.bool true) args=true:=
 postW_of (r:=l.row.toRowW) (X:=(true==true))
  (show Kt [] (.bool true) .bool=true by first|rfl|decide|simp[Kt,WShape.arms,WShape.armsAll])
  (show(WTm.eq .res (.lit (.bool true))).value [] { args:=args,res:=some (.bool true),after:=args }=some (.bool (true==true)) from w_eq_bool (w_res rfl) w_lit) rfl
theorem attach_call{l:K5}{n:Nat}{q:A0}{I:List Str}{XP:(Str->Option Value)->Heap->Prop}{YP:AH->Heap->Prop}{d:DefRec}
 (hn:l.most=some n) (q1:d.params.defaults=[])
 (call:∀(w:AH) (s₀ B:Ad) (mg mb:Str->Option Value) (fa:Addr) (o:Obj) (pm Z doc:Value) (a:Addr) (vs:List Value) (ns:List Int),
  Ground q I [] XP w s₀ mg mb B.heap->YP w B.heap ->
  B.heap.get? fa=some o->o.data=.func (docDef d.name d.params d.body d.scope pm Z doc)->B.heap.CodeRec Z d.name->mg d.name=some (.ref fa) ->
  B.heap.get? a=some { cls:=.type "list",data:=.seq vs.toArray }->Iz vs ns->ns.length<=n->B.gens=#[] ->
  Dh (A2 l.prog w) FQ (.call (.ref fa) ⟨[.ref a],[]⟩) (λr s'=>r=.ok (.ret (.bool true))/\OldK B.heap s'.heap/\s'.os=B.os/\EH s'.gens) B) :
 WalkO q I XP YP l.row.toRowW d [] (λf vs=>IQ f vs):=by intro w s₀ B mg mb G Y fa o pm Z doc dV kV ho hd q0 hD q2 hg args q5 as W q4 q7 q3 q6;obtain rfl:dV=.none:=Dflts.none hD q1;obtain rfl:kV=.none:=Dflts.noKw hD;obtain⟨a,vs,ns,rfl,rfl,U,L,M⟩:=zQ hn W q3;refine enter_call (Ds (call w s₀ B mg mb fa o pm Z doc a vs ns G Y ho (fd_plain hd) q0 q2 U L M hg) λr s' hq=>?_);obtain⟨rfl,h2,h3,h4⟩:=hq;exact⟨.inl ⟨.bool true,.bool true,[],rfl,λ_=>rfl,.bool true,zR l _,λ_=>⟨Hu,λ_ hm=>(nomatch hm)⟩⟩,h2,h3,h4⟩
end Att
namespace L2
open PySem PySem.Spec PyProof.Rows
theorem oE:∀{vs:List Value} {ns:List Int},Iz vs ns->aM (ns.map V.int) vs
 | _,_,.nil=>.nil|_,_,.cons n t h=>.cons ⟨t,rfl⟩ (oE h)
noncomputable def aEd(H:Hp):Prop:=∀b,H b=none\/∃o xs,H b=some (.frz o (.lst xs))
theorem aBo{P:A0}{w:AH}{K:An}{mg mb:Str->Option Value}{CX:CXT}{k:Nat}{fa a:Addr}{fd:Cs}{x:Str}{sp:Sp}{l:Ad}{vs:List Value}{ns:List Int}
 (KX:K.In l.heap) (Z:l.heap.Ns AB mg) (hb:l.heap.Ns FI mb) (q3:∀x:Str,x ≠ "__name__" -> mb x=B4 x) (W:l.heap.NoLimit) (hg:l.gens=#[])
 (ha:l.heap.get? a=some { cls:=.type "list",data:=.seq vs.toArray }) (hi:Iz vs ns) (hl:ns.length<=sizeLine) (hr:dQ k FQ)
 (F:∀base:Heap,K.In base->base.Ns AB mg->dG P w K mg base CX k fa fd [x] sp) (M:∀(s:Ad) (u:Value),J8 s fd ⟨[u],[]⟩ [(x,u)])
 (q4:∀H:Hp,aEd H->SqL K H a (ns.map V.int)->sp [.ref a] H (λv _=>v=.bl true) λ_ _ _=>False)
 (q2:∀H e G,CX [] H l (λ_ _ _=>False) e G->False) :
 Dh (A2 P w) FQ (.call (.ref fa) ⟨[.ref a],[]⟩) (λr G=>r=.ok (.ret (.bool true))/\OldK l.heap G.heap/\G.os=l.os/\EH G.gens) l:=by
 have rv:=oE hi;have q1:=hi.length;have L:∀H:Hp,aEd H->SqL K H a (ns.map V.int)->HOk P w H l.heap->(∀b,H b≠none->b=a)->(H a≠none->K.lookup a=none) ->
  Dh (A2 P w) FQ (.call (.ref fa) ⟨[.ref a],[]⟩) (λr G=>r=.ok (.ret (.bool true))/\OldK l.heap G.heap/\G.os=l.os/\EH G.gens) l:=by
  intro H hO hS hok hA hK;have B:∀{b:Addr} {o:Obj},l.heap.get? b=some o->H b=none->(pS l.heap H).get? b=some o:=λe n=>aAO e n;have q5:∀{b:Addr} {o:Obj} {es:Array EM} {ep:Nat},l.heap.get? b=some o->o.data=.dict es ep->H b=none:=λ{b o es ep} e d=>by
   cases q:H b with
   | none=>rfl|some u=>have e':b=a:=hA b (by rw[q];simp);subst e';rw[ha] at e;cases e;have d':JY vs.toArray _=Data.dict es ep:=d;cases d'
  have I:∀{b:Addr} {m:Str->Option Value},l.heap.Ns b m->(pS l.heap H).Ns b m:=λ{b m} ⟨o,es,ep,e,d,r⟩=>⟨o,es,ep,B e (q5 e d),d,r⟩
  have U:K.In (pS l.heap H):=λb o e=>B (KX b o e) (by
   cases q:H b with
   | none=>rfl|some u=>
    have e':b=a:=hA b (by rw[q];simp);subst e';rw[hK (by rw[q];simp)] at e;cases e)
  have hM:Mod K mg (pS l.heap H):=⟨U,I Z,⟨mb,I hb,q3⟩,let ⟨mc,h1,h2⟩:=W;⟨mc,I h1,h2⟩⟩
  have e0:uT P w K mg (pS l.heap H) FQ [] l H:=⟨rfl,hM,λb o e=>aDF e,J7 (zG _ _),trivial,λb hb=>absurd (show b∈([]:List Addr) from hb) (by simp),hok,.of_eq hg⟩
  refine Ds ((F _ U (I Z)).run FQ [] l H ⟨[.ref a],[]⟩ [.ref a] [.ref a] _ _ hr e0 (M l (.ref a)) (.cons rfl .nil) (q4 H hO hS)) λr G h=>?_;cases r with
  | error e=>exact(q2 H e G h).elim|ok fl=>
   cases fl with
   | next=>exact BJ h|brk=>exact BJ h|cont=>exact BJ h|ret u=>
    obtain⟨v,H',os,bare,un,q0,r',q⟩:=h;have q':v=.bl true:=q;subst q';obtain rfl:u=DA true:=r';refine⟨rfl,OldK.of_keep λb o e=>?_,os,bare⟩;cases q:H b with
    | none=>exact un.keep b o e q (by intro z;exact absurd (show b∈([]:List Addr) from z) (by simp)) (by simp)|some u=>
     rcases hO b with z|⟨ob,xs,z⟩
     rw[q] at z;cases z;have z2:=un.frzs b ob _ z;obtain⟨e1,_⟩:=hok b _ z;obtain⟨e2,_⟩:=q0 b _ z2;rw[e] at e1;cases e1;exact e2
 cases hk:K.lookup a with
 | some o=>have e:=KX a o hk;rw[ha] at e;cases e;refine L (λ_=>none) (λ_=>.inl rfl) (.inr ⟨_,vs.toArray,_,hk,rfl,rfl,rfl,by rw[Al,q1];exact hl,by simpa using rv⟩) (λb u z=>by have z':(none:Option HO)=some u:=z;cases z') (λb z=>absurd rfl z) λz=>absurd rfl z|none=>refine L (λb=>if b=a then some (.frz { cls:=.type "list",data:=.seq vs.toArray } (.lst (ns.map V.int))) else none) (λb=>?_) (.inl (.inr ⟨{ cls:=.type "list",data:=.seq vs.toArray },if_pos rfl⟩)) (λb u z=>?_) (λb z=>?_) λ_=>hk;by_cases hb:b=a;exact .inr ⟨_,_,if_pos hb⟩;exact .inl (if_neg hb);by_cases hb:b=a;have z':=(if_pos hb).symm.trans z;cases z';subst hb;exact⟨ha,by rw[Er];exact hl,vs,_,rv,ha⟩;have z':=(if_neg hb).symm.trans z;cases z';by_cases hb:b=a;exact hb;exact absurd (if_neg hb) z
noncomputable def eN(s:BR):G5:=match s with|.FunctionDef _ a _ _ _ _ _ _ _ _=>a|_=>{ posonlyargs:=[],args:=[],vararg:=none,kwonlyargs:=[],kw_defaults:=[],kwarg:=none,defaults:=[] }
noncomputable def defBody(s:BR):List BR:=match s with|.FunctionDef _ _ b _ _ _ _ _ _ _=>b|_=>[]
noncomputable def aQ(s:BR):Da:=match s with|.FunctionDef _ _ _ _ _ _ sc _ _ _=>sc|_=>{ kind:=.function,names:=[],isGenerator:=false,isCoroutine:=false }
abbrev CX0:CXT:=λ_ _ _ _ _ _=>False
abbrev E0:XK:=λ_ _ _=>False
theorem aJh{X:Cx}:fB CX0 X E0:=λ_ _ _ _ _ _ _ h=>h.elim
structure Fun (K:An) (x qual:Str) (st:BR) (f:Addr) (fd:Cs):Prop where
 ex:∃(oc:Value) (od:Option Addr) (kV doc pm:Value) (an:Option Addr) (cdv ct:Value) (osl:Array (Option Value)),
  fd=FM x qual (eN st) (defBody st) (aQ st) .none kV doc pm an cdv ct/\K.lookup f=some ⟨oc,od,.func fd,osl⟩/\IK K cdv qual=true
 kp:CO K (.ref f)=true
section
variable {P:A0} {w:AH} {K:An} {mg:Str->Option Value} {base:Heap}
theorem Fun.ok{x qual:Str}{st:BR}{f:Addr}{fd:Cs}{N ps:List Str}{k:Nat}{sp:Sp}(F:Fun K x qual st f fd)(S:iJ N ps (aQ st))(len:∀vs H Q E,sp vs H Q E->vs.length=ps.length)
 (l:∀(cdv:Value) (A:AV) (outer:List GG) (s:Ad) (H:Hp) (vs:List V) (Q:VK) (E:XK),dQ k (A.deeper (envOfC qual (aQ st) s.heap.objs.size f cdv))->sp vs H Q E ->
  ∃t,PSs (lH CX0 P w K mg base N qual (aQ st) f cdv A outer s H E).nox (defBody st) t/\t { nx:=λ_ H'=>Q .non H',rt:=Q } (start N vs) H):dG P w K mg base CX0 (k+1) f fd ps sp:=by obtain⟨oc,od,kV,doc,pm,an,cdv,ct,osl,rfl,L,B⟩:=F.ex;refine aFD L B S len λA outer s H vs Q E I G=>?_;obtain⟨t,h,q⟩:=l cdv A outer s H vs Q E I G;exact⟨t,h.nox,q⟩
theorem Fun.binds{x qual:Str}{st:BR}{f:Addr}{fd:Cs}{ps:List Str}(F:Fun K x qual st f fd)
 (h:∀(kV doc pm:Value) (an:Option Addr) (cdv ct:Value) (us:List Value),us.length=ps.length->IH (FM x qual (eN st) (defBody st) (aQ st) .none kV doc pm an cdv ct) ⟨us,[]⟩=pure (ps.zip us)):bZ K fd ps []:=by obtain⟨oc,od,kV,doc,pm,an,cdv,ct,osl,rfl,B,l⟩:=F.ex;exact .all (h kV doc pm an cdv ct)
end
theorem aGO{A B:Prop}(h:B):if false=true then A else B:=by rw[if_neg D9];exact h
theorem aMh{A B:Prop}(h:A):if true=true then A else B:=by rw[if_pos rfl];exact h
noncomputable def aE(H H':Hp):Prop:=∀b o,H b=some o->H' b=some o
theorem aE.refl(H:Hp):aE H H:=λ_ _ h=>h
theorem aE.trans{H H1 l:Hp}(a:aE H H1)(b:aE H1 l):aE H l:=λc o h=>b c o (a c o h)
theorem aE.free{H H':Hp}(e:aE H H'){l:Addr}(h:H' l=JZ):H l=JZ:=by
 cases q:H l with
 | none=>rfl|some o=>rw[e l o q] at h;cases h
theorem aE.seq{K:An}{H H':Hp}{a:Addr}{xs:List V}(e:aE H H')(h:SqL K H a xs):SqL K H' a xs:=by rcases h with(h|⟨o,h⟩)|h;exact .inl (.inl (e _ _ h));exact .inl (.inr ⟨o,e _ _ h⟩);exact .inr h
end L2
end
namespace L2
open PySem PySem.Spec PyProof.Rows
abbrev TKV:=List (List Int×Addr×Value)
noncomputable def aMi(k:List Int):Int:=reduceHash (Jg (k.map hashInt))
noncomputable def aGP(a:Addr)(xs:TKV)(h:Heap):Prop:=
 (a==CH)=false/\xs.length<=sizeLine/\∃o es ep,h.get? a=some o/\o.ExactDict/\o.data=.dict es ep/\es.toList=xs.map (λx=>⟨aMi x.1,.ref x.2.1,x.2.2⟩)/\(xs.map (·.1)).Nodup
abbrev cZ(a:Addr)(xs:TKV):HO:=.ext (aGP a xs)
theorem wV{a:Addr}{xs:TKV}:∀G I:Heap,aGP a xs G->(∀o,G.get? a=some o->I.get? a=some o)->aGP a xs I:=by rintro G I ⟨M,U,o',B,l,W,Z⟩ L;exact⟨M,U,o',B,l,L _ W,Z⟩
section
variable {prog:A0} {w:AH} {K:Type} [DecidableEq K] {knd:HeapKind prog w K} {A:AV} {E:Value->Ad->Prop} {s:Ad} {d a:Addr} {k:K} {xs:List (K×Addr×Value)}
theorem kF{v:Value}{Q:Value->Ad->Prop}(hu:knd.room A)(l:knd.is s.heap k a)(hm:s.heap.DictOfH knd d xs)
 (h1:∀p,EC xs k=some p->Q p.2 { s with toks:=s.toks+knd.draws k })
 (h2:EC xs k=none->∀h',h'.DictOfH knd d (xs++[(k,a,v)])->Bq d s.heap h'->Q v { s with heap:=h',toks:=s.toks+knd.draws k })
 (q0:xs.length<=sizeLine):Ap (A2 prog w) A (Gp d (.ref a) v) Q E s:=by
 obtain⟨o,es,ep,G,hc,hd,U,I,W⟩:=hm;unfold Gp
 try with_reducible refine BA ?_
 refine Aa (knd.pyHash hu l (Aa (wpAny_dictFind_heap (s:={ s with toks:=s.toks+knd.draws k }) hu l G hd U I W ?_ ?_)));intro L;have M:k∉xs.map (·.1):=not_mem_keys_of_get L;refine Aa (DW (Aa (wpAny_updateDictKeys (hz:=by have e:=size_of_entries U;omega) (s:={ s with toks:=s.toks+knd.draws k }) G hd (Af (h2 (atKey_none_of_get L) _ ⟨_,_,ep+1,Bg _ G (Obj.isFreed_of_dict (Gq hd _)),
  hc.mapDictKeys _,Gq hd _,?_,?_,?_⟩ (BE ..))))))
 simp[U,entryOfKey];intro x B;rcases Bx.mp B with B|B;exact knd.keeps (I x B) G hd (BE ..);simp only[A3] at B;subst B;exact knd.keeps l G hd (BE ..);rw[Cp,DM];refine⟨W,by simp,?_⟩;intro x B y hy;simp only[mC,mN,A3] at hy;subst hy;exact λe=>M (e▸B);intro j p Z;refine Aa (wpAny_dictEntries (s:={ s with toks:=s.toks+knd.draws k }) G hd ?_);rw[entry_at U j,Z];exact Aa (DW (Af (h1 p (atKey_of_get W Z))))
theorem iK(knd:HeapKind prog w K)(d a:Addr)(hd:(d==CH)=false)(v:Value) :
 MeetsIn prog w (C4.«dict.setdefault» ⟨[.ref d,.ref a,v],[]⟩) (λA R s=>knd.room A.in1/\∃k xs,knd.is s.heap k a/\s.heap.DictOfH knd d xs/\xs.length<=sizeLine /\
  (∀p,EC xs k=some p->R (.ok (.ret p.2)) { s with toks:=s.toks+knd.draws k }) /\
  (EC xs k=none->∀h',h'.DictOfH knd d (xs++[(k,a,v)])->Bq d s.heap h'->R (.ok (.ret v)) { s with heap:=h',toks:=s.toks+knd.draws k })):=
 .of_wp λA R s ⟨W,k,xs,l,hm,hz,I,L⟩=>by unfold C4.«dict.setdefault»;refine Aa ?_;unfold IR;refine Aa (wpAny_notOrdered_dict hm.typeIs ?_);show Ap _ _ (pure (d,A5 a,some v)) _ _ s;refine Af ?_;show Ap _ _ (if (d==CH)=true then _ else (Gp d (.ref a) v >>= _)) _ _ s;rw[if_neg (by rw[hd];exact bN)];exact Aa (kF W l hm (λp U=>Af ⟨p.2,rfl,I p U⟩) (λM h' B G=>Af ⟨v,rfl,L M h' B G⟩) hz)
end
section
variable {X:Cx} {pins:List (Addr×Obj)} {σ:St} {H:Hp} {s:Ad}
theorem intsT_are{is:List Int}:∀{us:List Value},aM (is.map V.int) us->ItemsAre (Eg X.prog X.w) is us:=by
 induction is with
 | nil=>intro us h;rw[mN] at h;cases h;exact .nil|cons i is l=>
  intro us h;rw[mC] at h;cases h with
  | cons r t=>obtain⟨tk,e⟩:∃t,_=G2 i t:=r;subst e;exact .cons (intKind_is _ _ i tk) (l t)
theorem qH(I:Inv X pins σ H s){c:Addr}{is:List Int}(h:SqT X.K H c (is.map V.int)):IsTupleKey (Eg X.prog X.w) s.heap is c:=by obtain⟨its,rv,⟨o,B,l,n,hd⟩,_⟩:=I.tuple h;exact⟨o,its.toArray,n,B,l,hd,by simpa using intsT_are rv⟩
theorem iL(I:Inv X pins σ H s){a:Addr}{xs:TKV}(e:H a=some (cZ a xs))(Z:∀x∈xs,SqT X.K H x.2.1 (x.1.map V.int)):(a==CH)=false/\xs.length<=sizeLine/\s.heap.DictOfH (HK (Eg X.prog X.w)) a xs:=by
 obtain⟨⟨l,B,o,es,ep,G,L,M,U,W⟩,_⟩:=(show bQ X.prog X.w H s.heap a (cZ a xs) from I.hok a _ e)
 exact⟨l,B,o,es,ep,G,L,M,U,λx hx=>qH I (Z x hx),W⟩
theorem InvT.big(I:Inv X pins σ H s):CH<s.heap.objs.size:=by have h:AB<s.heap.objs.size:=(I.ok.mod.glob.keeps I.bk).lt;exact EJ (by decide) h
noncomputable def aJi:TE:=λ_ H Q=>∀p,H p=none->Q (.ref p) (upd H p (cZ p []))
theorem wW{pos:CF}:PE X (.Dict [] [] pos) aJi:=λpins s σ H Q I h=>
 wpAny_Dict_empty ⟨.ref s.heap.objs.size,_,I.laid (a:=s.heap.objs.size) (o:=cZ s.heap.objs.size []) (t':=s.toks) (λ_ _ q=>Ab _ q) (As _)
  ⟨⟨beq_eq_false_iff_ne.mpr (BS (Az (InvT.big I))),AW _,_,#[],0,Aq _ rfl,⟨rfl,rfl,rfl⟩,rfl,rfl,EU⟩,⟨_,Aq _ rfl⟩,wV⟩,rfl,h _ (I.hok.fresh (As _))⟩
noncomputable def aFE(K:An)(a:Addr)(xs:TKV)(vs:List V)(H:Hp)(Q:VK):Prop:=∃(b:Addr) (k:List Int) (v:V),vs=[.ref b,v]/\H a=some (cZ a xs)/\(∀x∈xs,SqT K H x.2.1 (x.1.map V.int))/\SqT K H b (k.map V.int)/\xs.length<sizeLine /\
 (∀p,EC xs k=some p->∃v',aP v' p.2/\Q v' H)/\(EC xs k=none->∀u,aP v u->Q v (upd H a (cZ a (xs++[(k,b,u)]))))
theorem zS{a:Addr}{xs:TKV}{vs:List V}{us:List Value}{Q:VK}(hu:X.A.units+100<cLine)(I:Inv X pins σ H s)(r:aM vs us)(h:aFE X.K a xs vs H Q) :
 Ap (A2 X.prog X.w) X.A (call (.builtin "dict.setdefault") (.ref a::us)) (EP X pins σ Q) X.xe s:=by
 obtain⟨b,k,v,rfl,e,W,kb,hl,L,M⟩:=h;cases r with
 | cons r1 l=>
  cases l with
  | cons l r3=>cases r3;cases r1;rename_i u;obtain⟨g1,g2,g3⟩:=iL I e W;refine JA Eu g3.typeIs PySem.F.entry_dict_setdefault (PySem.F.args_dict_setdefault_3 _ _ _) (iK (HK (Eg X.prog X.w)) a b g1 u) ⟨show X.A.in1.units<cLine by show X.A.units+1<cLine;omega,k,xs,qH I kb,g3,g2,λp hp=>?_,λZ h' hm hs=>?_⟩;obtain⟨v',rv,q⟩:=L p hp;exact⟨v',H,I.tok _,rv,q⟩;obtain⟨G,es,ep,B,j2,j3,j4,_,j6⟩:=hm;refine⟨v,_,I.write (x:=a) (e:=a) (o:=cZ a (xs++[(k,b,u)])) (by rw[e];exact Dl) (.inl rfl) (λc q U z=>(hs.2 c U).trans z) ⟨G,B⟩ ⟨⟨g1,?_,G,es,ep,B,j2,j3,j4,j6⟩,⟨G,B⟩,wV⟩,l,M Z u l⟩;rw[lA];show xs.length+1<=_;omega
variable {o e:Av} {es:List Av} {to:TE} {t:TA} {apos cpos:CF}
theorem aEe(hu:X.A.units+100<cLine)(ho:PE X o to)(ha:PA X (e::es) t)
 (B:Eh o "setdefault" X.env (Cc o X.env)=Cc o X.env)
 (L:((BQ cpos (A6 (e::es) X.env)).all (λx=>!x.1)&&(ES cpos (Dm [] X.env)).all (λx=>x.1.isSome)
  && decide ((e::es).length+([]:List Fk).length+(if ([]:List Fk).isEmpty then 0 else 1)<30))=true)
 (G:(apos.endLine==cpos.line)=true) (hs:A6 (e::es) X.env=(false,Cc e X.env)::A6 es X.env) (l:(BQ cpos (A6 es X.env)).any (·.1)=false) :
 PE X (.Call (.Attribute o "setdefault" apos) (e::es) [] cpos) (λσ H Q=>to σ H λx H1=>∃a xs,x=.ref a/\H1 a=some (cZ a xs)/\(∀x∈xs,SqT X.K H1 x.2.1 (x.1.map V.int))/\t σ H1 λvs M=>aFE X.K a xs vs M Q):=by intro pins s σ H Q I h;refine DJ B L G rfl (thn (ho pins s σ H _ I h) λv s1 ⟨x,H1,U,r1,a,xs,e1,e2,e3,q1⟩=>?_);subst e1;obtain rfl:v=A5 a:=r1;obtain⟨g1,g2,g3⟩:=iL U e2 e3;refine⟨"dict", "dict.setdefault",F2,Eu,PySem.F.type_dict_setdefault,g3.typeIs,λb q=>?_,?_⟩;cases q;obtain⟨ob,_,_,h1,h2,_⟩:=g3;exact⟨ob,h1,h2.2.1⟩;have W:=ha cpos pins s1 σ H1 _ U q1;rw[hs] at W ⊢;refine DK (by show(false||(BQ cpos (A6 es X.env)).any (·.1))=false;rw[l] <;> rfl) (Dn ?_);exact thn W λus s2 ⟨vs,M,Z,r2,q2⟩=>zS hu Z r2 q2
end
end L2
namespace Hp
open PySem (Str Operator CmpOp)
inductive D where
 | non|bl (b:Bool)|int (i:Int)|str (x:Str)
 | tup (ds:List D)|lst (ds:List D)
 | err (c:Nat) (fs:List D)
 deriving Inhabited
mutual
noncomputable def noL:D->Bool
 | .tup ds=>noLs ds|.lst _=>false|.err _ _=>false|_=>true
noncomputable def noLs:List D->Bool
 | []=>true|d::ds=>noL d&&noLs ds
end
mutual
noncomputable def eU:D->Bool
 | .tup ds=>noDics ds|.lst ds=>noDics ds|.err _ _=>false|_=>true
noncomputable def noDics:List D->Bool
 | []=>true|d::ds=>eU d&&noDics ds
end
noncomputable def lim:Nat:=1000000
noncomputable def b2i(b:Bool):Int:=if b then 1 else 0
noncomputable def eqL(f:D->D->Option Bool):List D->List D->Option Bool
 | [],[]=>some true|a::as,b::bs=>match f a b,eqL f as bs with|some x,some y=>some (x&&y)|_,_=>none
 | _,_=>some false
noncomputable def eqF:Nat->D->D->Option Bool
 | 0,_,_=>none|n+1,a,b=>match a,b with|.int a,.int b=>some (a==b)|.str a,.str b=>some (a==b)|.tup as,.tup bs=>eqL (eqF n) as bs|.lst as,.lst bs=>if as.length=bs.length then eqL (eqF n) as bs else some false|_,_=>none
noncomputable def dH(n:Nat):List D->List D->Option Bool
 | [],[]=>some true|a::as,b::bs=>match eqF n a b,dH n as bs with|some x,some y=>some (x&&y)|_,_=>none
 | _,_=>some false
@[simp] theorem uY (n:Nat):∀as bs:List D,eqL (eqF n) as bs=dH n as bs
 | [],[]=>rfl|[],_::_=>rfl|_::_,[]=>rfl|a::as,b::bs=>by rw[eqL,dH,uY n as bs]
noncomputable def iM:Nat:=120
noncomputable def eqD(a b:D):Option Bool:=eqF iM a b
inductive R (α:Type) where
 | ok (a:α)|exc (x:D)|bad
 deriving Inhabited
noncomputable def R.bind{α β:Type}(x:R α)(f:α->R β):R β:=match x with|.ok a=>f a|.exc e=>.exc e|.bad=>.bad
instance:Monad R where
 pure:=.ok
 bind:=.bind
noncomputable def R.of{α:Type}:Option α->R α
 | some a=>.ok a|none=>.bad
noncomputable def R.iff{α:Type}(c:Bool)(x:R α):R α:=if c then x else .bad
structure Vl where
 d:D
 fr:Bool:=false
 pa:Bool:=false
 al:List Nat:=[]
 deriving Inhabited
noncomputable def Vl.cl(d:D):Vl:=⟨d,false,false,[]⟩
noncomputable def Vl.sub(v:Vl)(d:D):Vl:=if noL d then .cl d else ⟨d,false,v.pa,v.al⟩
inductive Sl where
 | dead|sh (pa:Bool) (d:D)|own (pa:Bool) (ds:List D)|own2 (dss:List (List D))
 deriving Inhabited
abbrev Sg:=List Sl
noncomputable def Sl.val(i:Nat):Sl->R Vl
 | .dead=>.bad|.sh pa d=>.ok ⟨d,false,pa&&!noL d,[]⟩|.own pa ds=>.ok ⟨.lst ds,false,pa,[i]⟩|.own2 _=>.bad
noncomputable def bU(σ:Sg)(i:Nat):R Vl:=match σ[i]? with|some s=>s.val i|none=>.bad
noncomputable def Sl.freeze:Sl->Sl
 | .own pa ds=>.sh pa (.lst ds)|s=>s
noncomputable def freeze(σ:Sg):List Nat->Sg
 | []=>σ|i::is=>freeze (match σ[i]? with|some s=>σ.set i s.freeze|none=>σ) is
noncomputable def Vl.slot(v:Vl):Sl:=match v.fr,v.d with|true,.lst ds=>.own v.pa ds|_,d=>.sh v.pa d
inductive Bi where
 | len|list|tuple|int|all
 deriving DecidableEq,Inhabited
inductive Cl where
 | tInt|tBool|tStr|tList|tTuple|tDict|own (c:Str)|tValueError
 deriving DecidableEq,Inhabited
inductive T where
 | n (i:Nat)
 | t (ts:List Nat)
 deriving Inhabited
mutual
inductive E where
 | c (d:D)
 | v (i:Nat)
 | op (o:Operator) (a b:E)
 | neg (a:E)
 | nt (a:E)
 | an (a b:E)
 | orr (a b:E)
 | ife (t a b:E)
 | cmp (o:CmpOp) (a b:E)
 | cmp2 (o o':CmpOp) (a b c:E)
 | idx (a b:E)
 | sli (a:E) (lo hi:Es)
 | tup (es:Es)
 | lst (es:Es)
 | call (f:Nat) (es:Es)
 | bi (b:Bi) (es:Es)
 | isi (a:E) (cs:List Cl)
 | comp (k:Nat) (caps:List Nat) (t:T) (it:It) (cond:Es) (elt:E)
 | sset (a:E)   -- sorted(set(a)),tuples of numbers
 | fld (j:Nat) (f:Str)   -- x.f,x an object
 | mcl (j:Nat) (m:Str) (es:Es)   -- x.m(..),x an object
 | mk (j:Nat) (es:Es)   -- C(..),C a class
 | dgl (o k:E)   -- o.get(k,[]),o a dict of lists
 | grp (j:Nat)   -- pairs by their first thing,as a dict of lists
 | isx (a:E) (cs:List Cl)   -- isinstance of a caught exception
 | emp   -- {}
 | lrv (a:E)   -- list(reversed(a))
 | hid (i:Nat) (a:E)   -- a,a list of lists of one's own seen as one that stays
inductive Es where
 | nil|cons (e:E) (es:Es)
inductive It where
 | seq (e:E)|rng (a b:E)|zip (a b:E)|enum (a:E)
end
instance:Inhabited E:=⟨.c .non⟩
mutual
inductive S where
 | set (t:T) (e:E)
 | mov (i j:Nat)
 | setIx (i:Nat) (k e:E)
 | app (i:Nat) (e:E)
 | ext (i:Nat) (e:E)
 | ret (e:E)
 | retv (i:Nat)
 | iff (c:E) (a b:Ss)
 | for (t:T) (it:It) (b:Ss)
 | rse (c:Str) (e:E)
 | exC (f:Nat) (es:Es)   -- f(..),which may raise
 | setC (i f:Nat) (es:Es)   -- i=f(..)
 | retC (f:Nat) (es:Es)   -- return f(..)
 | tryAs (b:Ss) (c:Str) (i j:Nat)   -- try: b except c as j: i=j
 | thaw (i:Nat)   -- no text: from here on a list of lists is a plain list of one's own
 | chg (i:Nat) (k m:E) (es:Es)   -- i[k].pop(m),or i[k].insert(m,e);behind it i is a plain list of one's own
 | set2 (i y:Nat)   -- i=[list(r) for r in y]
 | sfl (f:Str) (e:E)   -- self.f=e,within __init__
 | ini   -- the end of __init__ (no text)
inductive Ss where
 | nil|cons (s:S) (ss:Ss)
end
structure Fn where
 np:Nat
 ns:Nat
 body:Ss
structure Pg where
 fns:List Fn
 above:List (Str×List Cl)
 tabs:List (List (Str×D)):=[]
 objs:List (Str×List Str×List (Str×Nat)):=[]
abbrev Rt:=D×Bool×Bool
abbrev Caller:=Nat->List D->R Rt
noncomputable def lK(i j:Int):Bool:=(decide (-(2 ^ 64)<i)&&decide (i<2 ^ 64))||(decide (-(2 ^ 64)<j)&&decide (j<2 ^ 64))
noncomputable def wX(j:Int):Bool:=decide (0<j)&&decide (j<1073741824)
noncomputable def aT(k:Int):Bool:=decide (-(2 ^ 62)<=k)&&decide (k<2 ^ 62)
noncomputable def Str.rep(x:Str)(k:Nat):Str:=⟨(Ag k x.cps).foldl (·++·) #[]⟩
@[simp] noncomputable def aGQ (x y:Vl):R Vl:=match x.d,y.d with|.int i,.int j=>.ok (.cl (.int (i+j)))|.tup a,.tup b=>.iff (decide (a.length+b.length<=lim)) (.ok ⟨.tup (a++b),false,x.pa||y.pa,x.al++y.al⟩)|.lst a,.lst b=>.iff (decide (a.length+b.length<=lim)) (.ok ⟨.lst (a++b),true,(x.pa&&!noLs a)||(y.pa&&!noLs b),(if noLs a then [] else x.al)++(if noLs b then [] else y.al)⟩)|_,_=>.bad
@[simp] noncomputable def aGR (x y:Vl):R Vl:=match x.d,y.d with|.int i,.int j=>.iff (lK i j) (.ok (.cl (.int (i*j))))|_,_=>.bad
@[simp] noncomputable def rR (f:Int->Int->R Vl) (x y:Vl):R Vl:=match x.d,y.d with|.int i,.int j=>f i j|_,_=>.bad
noncomputable def opD(o:Operator)(x y:Vl):R Vl:=match o with|.Add=>aGQ x y|.Mult=>aGR x y|.Sub=>rR (λi j=>.ok (.cl (.int (i-j)))) x y|.FloorDiv=>rR (λi j=>.iff (wX j) (.ok (.cl (.int (i / j))))) x y|.Mod=>rR (λi j=>.iff (decide (0<j)) (.ok (.cl (.int (i % j))))) x y|_=>.bad
noncomputable def aBp:D->Option Bool
 | .bl b=>some b|_=>none
noncomputable def cV(x:Vl):R Bool:=.of (aBp x.d)
noncomputable def aU:List D->Option (List Int)
 | []=>some []|.int a::ds=>match aU ds with|some ns=>some (a::ns)|none=>none
 | _=>none
noncomputable def lexI:List Int->List Int->Bool
 | [],[]=>false|[],_::_=>true|_::_,[]=>false|x::xs,y::ys=>if x=y then lexI xs ys else decide (x<y)
noncomputable def ltD:D->D->Option Bool
 | .int a,.int b=>some (decide (a<b))|_,_=>none
noncomputable def leD:D->D->Option Bool
 | .int a,.int b=>some (decide (a<=b))|_,_=>none
noncomputable def isNone:D->Bool
 | .non=>true|_=>false
noncomputable def fC:List D->Option (List (List D))
 | []=>some []|.lst ds::r=>if noLs ds then (match fC r with|some dss=>some (ds::dss)|none=>none) else none|_=>none
noncomputable def rS(σ:Sg):Bool:=σ.all fun|.own2 _=>false|_=>true
noncomputable def uZ(g:List (List Int×List D)):D:=.err 0 (.non::g.flatMap λx=>[.tup (x.1.map D.int),.lst x.2])
noncomputable def oF(js:List Int):List D->Option D
 | .tup is::d::r=>if aU is=some js then some d else oF js r|_=>none
noncomputable def gN:List D->Option (List (List Int×D))
 | []=>some []|.tup [.tup is,d]::r=>match aU is,gN r with|some js,some ps=>if noL d then some ((js,d)::ps) else none|_,_=>none
 | _=>none
noncomputable def insM(g:List (List Int×List D))(k:List Int):List (List Int×List D):=if k∈g.map (·.1) then g else g++[(k,[])]
noncomputable def kG(k:List Int)(d:D)(x:List Int×List D):List Int×List D:=if x.1=k then (x.1,x.2++[d]) else x
noncomputable def aBq(g:List (List Int×List D))(p:List Int×D):List (List Int×List D):=(insM g p.1).map (kG p.1 p.2)
noncomputable def dR(ps:List (List Int×D)):List (List Int×List D):=ps.foldl aBq []
noncomputable def iN(f:Str):List D->Bool
 | .str g::_::r=>g != f&&iN f r|_=>true
noncomputable def nN(x:D):List D->Option Bool
 | []=>some false|y::ys=>match eqD y x,nN x ys with|some a,some b=>some (a||b)|_,_=>none
noncomputable def inD(x y:D):Option Bool:=match x,y with|x,.lst ys=>if noDics ys then nN x ys else none|_,_=>none
noncomputable def bL(o:CmpOp)(x y:D):Option Bool:=match o with
 | .Eq=>eqD x y|.NotEq=>(eqD x y).map (!·)|.Lt=>ltD x y|.Gt=>match x,y with|.int a,.int b=>some (decide (b<a))|_,_=>none
 | .LtE=>leD x y|.Is=>match y with|.non=>some (isNone x)|_=>none
 | .IsNot=>match y with|.non=>some (!isNone x)|_=>none
 | .In=>inD x y|.NotIn=>(inD x y).map (!·)|.GtE=>none
noncomputable def ixN(n:Nat)(k:Int):Option Nat:=
 if 0<=k then (if k<n then some k.toNat else none) else (if -(n:Int)<=k then some (k+n).toNat else none)
noncomputable def nO(x y:Vl):R Vl:=match x.d,y.d with
 | .lst ds,.int k=>match ixN ds.length k with
  | some j=>match ds[j]? with|some d=>.ok (x.sub d)|none=>.bad
  | none=>.bad
 | .tup ds,.int k=>match ixN ds.length k with
  | some j=>match ds[j]? with|some d=>.ok (x.sub d)|none=>.bad
  | none=>.bad
 | .str a,.int k=>.iff (decide (a.length<=lim)) (match ixN a.length k with
  | some j=>match a.cps.toList[j]? with|some c=>.ok (.cl (.str ⟨#[c]⟩))|none=>.bad
  | none=>.bad)
 | _,_=>.bad
noncomputable def sIx(n d:Nat):Option Int->Nat
 | none=>d|some v=>if v<0 then (v+(n:Int)).toNat else min v.toNat n
noncomputable def cut{α:Type}(xs:List α)(lo hi:Option Int):List α:=(xs.drop (sIx xs.length 0 lo)).take (sIx xs.length xs.length hi-sIx xs.length 0 lo)
noncomputable def gO(x:Vl)(lo hi:Option Int):R Vl:=match x.d with|.lst ds=>.ok ⟨.lst (cut ds lo hi),true,x.pa&&!noLs ds,if noLs ds then [] else x.al⟩|.tup ds=>.iff (decide (¬(sIx ds.length 0 lo=0/\sIx ds.length ds.length hi=ds.length))) (.ok ⟨.tup (cut ds lo hi),false,x.pa&&!noLs ds,if noLs ds then [] else x.al⟩)|_=>.bad
noncomputable def isI(cs:List Cl)(P:Pg):D->Option Bool
 | .non=>some false|.bl _=>some (cs.contains .tBool||cs.contains .tInt)|.int _=>some (cs.contains .tInt)|.str _=>some (cs.contains .tStr)|.tup _=>some (cs.contains .tTuple)|.lst _=>some (cs.contains .tList)|.err _ (.non::_)=>some (cs.contains .tDict)|.err _ _=>none
noncomputable def dS(c:Str):D:=.err 0 [.bl true,.str c]
noncomputable def aGS:D->Option Str
 | .err 0 [.bl true,.str c]=>some c|_=>none
theorem excC_of{d:D}{c:Str}(h:aGS d=some c):d=dS c:=by unfold aGS at h;split at h;cases h;rfl;cases h
noncomputable def isX(cs:List Cl)(P:Pg)(d:D):Option Bool:=match aGS d with
 | some c=>(match P.above.lookup c with
  | some ab=>some (cs.any λa=>ab.contains a)|none=>none)
 | none=>none
noncomputable def o2D(dss:List (List D)):D:=.lst (dss.map .lst)
noncomputable def bO:List D->Option (List Bool)
 | []=>some []|.bl a::ds=>match bO ds with|some bs=>some (a::bs)|none=>none
 | _=>none
@[simp] noncomputable def zT (b:Bi) (x:Vl):R Vl:=match b with
 | .len=>match x.d with|.lst ds=>.ok (.cl (.int ds.length))|.tup ds=>.ok (.cl (.int ds.length))|.str a=>.iff (decide (a.length<=lim)) (.ok (.cl (.int a.length)))|_=>.bad
 | .list=>match x.d with|.lst ds=>.ok ⟨.lst ds,true,x.pa&&!noLs ds,if noLs ds then [] else x.al⟩|.tup ds=>.ok ⟨.lst ds,true,x.pa&&!noLs ds,if noLs ds then [] else x.al⟩|_=>.bad
 | .tuple=>match x.d with|.lst ds=>.ok ⟨.tup ds,false,x.pa&&!noLs ds,if noLs ds then [] else x.al⟩|.tup ds=>.ok ⟨.tup ds,false,x.pa,x.al⟩|_=>.bad
 | .int=>match x.d with|.int i=>.ok (.cl (.int i))|.bl b=>.ok (.cl (.int (b2i b)))|_=>.bad
 | .all=>match x.d with
  | .lst ds=>match bO ds with|some bs=>.ok (.cl (.bl (bs.all id)))|none=>.bad
  | _=>.bad
noncomputable def biD(b:Bi)(xs:List Vl):R Vl:=match xs with|[x]=>zT b x|_=>.bad
noncomputable def bI(vs:List Vl):List Nat:=vs.flatMap (·.al)
noncomputable def dW(vs:List Vl):Bool:=vs.any (·.pa)
noncomputable def wY(vs:List Vl):Vl:=⟨.tup (vs.map (·.d)),false,dW vs,bI vs⟩
noncomputable def wZ(vs:List Vl):Vl:=⟨.lst (vs.map (·.d)),true,dW vs,bI vs⟩
noncomputable def aW(args:List Vl)(r:Rt):Vl:=if r.2.2 then ⟨r.1,r.2.1,dW args,bI args⟩ else ⟨r.1,r.2.1,false,[]⟩
noncomputable def eO(a b:Int):List D:=(AD (b-a).toNat).map λ(k:Nat)=>.int (a+(k:Int))
noncomputable def dA:Int->List D->List D
 | _,[]=>[]
 | k,d::ds=>.tup [.int k,d]::dA (k+1) ds
noncomputable def kH:List D->List D->List D
 | a::as,b::bs=>.tup [a,b]::kH as bs|_,_=>[]
noncomputable def aV(σ:Sg)(v:Vl):T->R Sg
 | .n i=>.ok (σ.set i v.slot)|.t is=>match v.d with|.tup ds=>if ds.length=is.length then .ok ((is.zip ds).foldl (λσ p=>σ.set p.1 (v.sub p.2).slot) σ) else .bad|_=>.bad
noncomputable def cD(f:Vl->R (Option Vl)):List Vl->R (List Vl)
 | []=>.ok []|x::xs=>do
  let y<-f x
  let ys<-cD f xs
  match y with
  | some y=>.ok (y::ys)|none=>.ok ys
noncomputable def lO:D->Option (List D)
 | .lst ds=>some ds|.tup ds=>some ds|_=>none
noncomputable def items(x:Vl)(ds:List D):List Vl:=ds.map x.sub
noncomputable def xA:D->Option (List Int)
 | .tup ds=>aU ds|_=>none
noncomputable def eV:List D->Option (List (List Int))
 | []=>some []|d::ds=>match xA d,eV ds with|some k,some ks=>some (k::ks)|_,_=>none
noncomputable def rT(k:List Int):List (List Int)->List (List Int)
 | []=>[k]
 | y::ys=>if lexI k y then k::y::ys else if k=y then y::ys else y::rT k ys
noncomputable def ssT(ks:List (List Int)):List (List Int):=ks.foldr rT []
noncomputable def tupK(k:List Int):D:=.tup (k.map .int)
noncomputable def neK(ks:List (List Int)):Bool:=ks.all λk=>!k.isEmpty
noncomputable def tupHs(k:List Int):Int:=PySem.reduceHash (HH (k.map PySem.hashInt))
noncomputable def fD(k:Nat)(caps al:List Nat)(vs:List Vl):Vl:=
 if noLs (vs.map (·.d)) then ⟨.lst (vs.map (·.d)),true,false,[]⟩
 else ⟨.lst (vs.map (·.d)),true,dW vs,al++(bI vs).filterMap λj=>caps[j-k]?⟩
noncomputable def qJ(f:Str):List D->Option D
 | .str g::d::r=>if g=f then some d else qJ f r|_=>none
noncomputable def zU(P:Pg):D->Option ((List Str×List (Str×Nat))×List D)
 | .err _ (.str c::ds)=>(P.objs.lookup c).map λk=>(k,ds)
 | _=>none
noncomputable def aBr(P:Pg)(f:Str)(x:Vl):R Vl:=match zU P x.d with|some (k,ds)=>.iff (k.1.contains f) (match qJ f ds with|some d=>.ok (x.sub d)|none=>.bad)|none=>.bad
noncomputable def kI(P:Pg)(m:Str)(d:D):Option Nat:=match zU P d with|some (k,ds)=>if qJ m ds=none then k.2.lookup m else none|none=>none
section
variable (P:Pg) (W:Caller)
mutual
noncomputable def ev(σ:Sg):E->R Vl
 | .c d=>.ok (.cl d)|.v i=>bU σ i|.op o a b=>do let x<-ev σ a;let y<-ev σ b;opD o x y
 | .neg a=>do
  let x<-ev σ a
  match x.d with
  | .int i=>.ok (.cl (.int (-i)))|_=>.bad
 | .nt a=>do let x<-ev σ a;let k<-cV x;.ok (.cl (.bl (!k)))
 | .an a b=>do
  let x<-ev σ a
  match x.d with
  | .bl true=>ev σ b|.bl false=>.ok (.cl (.bl false))|_=>.bad
 | .orr a b=>do
  let x<-ev σ a
  match x.d with
  | .bl true=>.ok (.cl (.bl true))|.bl false=>ev σ b|_=>.bad
 | .ife t a b=>do
  let x<-tst σ t
  if x then ev σ a else ev σ b
 | .cmp o a b=>do
  let x<-ev σ a
  let y<-ev σ b
  match bL o x.d y.d with
  | some k=>.ok (.cl (.bl k))|none=>.bad
 | .cmp2 o o' a b c=>do
  let x<-ev σ a
  let y<-ev σ b
  match bL o x.d y.d with
  | some true=>do
   let z<-ev σ c
   match bL o' y.d z.d with
   | some k=>.ok (.cl (.bl k))|none=>.bad
  | some false=>.ok (.cl (.bl false))|none=>.bad
 | .idx a b=>do let x<-ev σ a;let y<-ev σ b;nO x y
 | .sli a lo hi=>do
  let x<-ev σ a
  let l<-evs σ lo
  let h<-evs σ hi
  match l,h with
  | [l],[]=>match l.d with|.int l=>.iff (aT l) (gO x (some l) none)|_=>.bad
  | [],[h]=>match h.d with|.int h=>.iff (aT h) (gO x none (some h))|_=>.bad
  | _,_=>.bad
 | .tup es=>do let vs<-evs σ es;.ok (wY vs)
 | .lst es=>do let vs<-evs σ es;.ok (wZ vs)
 | .call f es=>do
  let vs<-evs σ es
  let r<-W f (vs.map (·.d))
  .ok (aW vs r)
 | .bi b es=>do let vs<-evs σ es;biD b vs
 | .isi a cs=>do
  let x<-ev σ a
  match isI cs P x.d with
  | some k=>.ok (.cl (.bl k))|none=>.bad
 | .comp k caps t it cond elt=>do
  let xs<-walk σ it
  let vs<-cD (λx=>do
   let σ1<-aV (Ag k .dead++caps.map λi=>((freeze σ xs.2)[i]?).getD .dead) x t
   let k<-tsts σ1 cond
   if k then do let y<-ev σ1 elt;.ok (some y) else .ok none) xs.1
  .iff (decide (vs.length<=lim)) (.ok (fD k caps xs.2 vs))
 | .fld j f=>do
  let x<-bU σ j
  aBr P f x
 | .mcl j m es=>do
  let x<-bU σ j
  let vs<-evs σ es
  match kI P m x.d with
  | some f=>do
   let r<-W f (x.d::vs.map (·.d))
   .ok (aW (x::vs) r)
  | none=>.bad
 | .mk j es=>do
  let vs<-evs σ es
  let r<-W (P.fns.length+j) (vs.map (·.d))
  .ok (aW vs r)
 | .dgl o k=>do
  let x<-ev σ o
  let y<-ev σ k
  match x.d,y.d with
  | .err _ (.non::ds),.tup is=>match aU is with
   | some js=>match oF js ds with|some d=>.ok (x.sub d)|none=>.ok (.cl (.lst []))
   | none=>.bad
  | _,_=>.bad
 | .grp j=>do
  let x<-bU σ j
  match x.d with
  | .lst ds=>match gN ds with|some ps=>.iff (decide (ps.length<lim)) (.ok (.cl (uZ (dR ps))))|none=>.bad
  | _=>.bad
 | .sset a=>do
  let x<-ev σ a
  match x.d with
  | .lst ds=>match eV ds with|some ks=>.iff (neK ks&&decide ((ssT ks).length<=18)) (.ok ⟨.lst ((ssT ks).map tupK),true,false,[]⟩)|none=>.bad
  | _=>.bad
 | .isx a cs=>do
  let x<-ev σ a
  match isX cs P x.d with
  | some k=>.ok (.cl (.bl k))|none=>.bad
 | .emp=>.ok (.cl (.err 0 [.non]))|.lrv a=>do
  let x<-ev σ a
  match x.d with
  | .lst ds=>.iff (noLs ds&&decide (ds.length<=lim)) (.ok ⟨.lst ds.reverse,true,false,[]⟩)|_=>.bad
 | .hid i a=>match σ[i]? with
  | some (.own2 dss)=>do
   let v<-ev (σ.set i (.sh false (o2D dss))) a
   .iff (noL v.d) (.ok (.cl v.d))
  | _=>.bad
noncomputable def tst(σ:Sg):E->R Bool
 | .nt a=>do let x<-tst σ a;.ok (!x)
 | .an a b=>do
  let x<-tst σ a
  if x then tst σ b else .ok false
 | .orr a b=>do
  let x<-tst σ a
  if x then .ok true else tst σ b
 | .c d=>cV (.cl d)|.v i=>do let x<-bU σ i;cV x
 | .cmp o a b=>do
  let x<-ev σ a
  let y<-ev σ b
  match bL o x.d y.d with
  | some k=>.ok k|none=>.bad
 | .cmp2 o o' a b c=>do
  let x<-ev σ a
  let y<-ev σ b
  match bL o x.d y.d with
  | some true=>do
   let z<-ev σ c
   match bL o' y.d z.d with
   | some k=>.ok k|none=>.bad
  | some false=>.ok false|none=>.bad
 | .call f es=>do
  let vs<-evs σ es
  let r<-W f (vs.map (·.d))
  cV (aW vs r)
 | .mcl j m es=>do
  let x<-bU σ j
  let vs<-evs σ es
  match kI P m x.d with
  | some f=>do
   let r<-W f (x.d::vs.map (·.d))
   cV (aW (x::vs) r)
  | none=>.bad
 | .bi b es=>do let vs<-evs σ es;let x<-biD b vs;cV x
 | .idx a b=>do let x<-ev σ a;let y<-ev σ b;let z<-nO x y;cV z
 | .isi a cs=>do
  let x<-ev σ a
  match isI cs P x.d with
  | some k=>.ok k|none=>.bad
 | _=>.bad
noncomputable def evs(σ:Sg):Es->R (List Vl)
 | .nil=>.ok []|.cons e es=>do let x<-ev σ e;let xs<-evs σ es;.ok (x::xs)
noncomputable def walk(σ:Sg):It->R (List Vl×List Nat)
 | .seq e=>do
  let x<-ev σ e
  match x.d with
  | .lst ds=>.ok (items x ds,x.al)|.tup ds=>.ok (items x ds,x.al)|_=>.bad
 | .rng a b=>do
  let x<-ev σ a
  let y<-ev σ b
  match x.d,y.d with
  | .int i,.int j=>.iff (aT i&&aT j) (.ok ((eO i j).map .cl,[]))|_,_=>.bad
 | .zip a b=>do
  let x<-ev σ a
  let y<-ev σ b
  match lO x.d,lO y.d with
  | some as,some bs=>.ok (items ⟨.non,false,x.pa||y.pa,x.al++y.al⟩ (kH as bs),x.al++y.al)|_,_=>.bad
 | .enum a=>do
  let x<-ev σ a
  match lO x.d with
  | some as=>.ok (items x (dA 0 as),x.al)|none=>.bad
noncomputable def tsts(σ:Sg):Es->R Bool
 | .nil=>.ok true|.cons e es=>do
  let x<-tst σ e
  if x then tsts σ es else .ok false
end
inductive O where
 | next (σ:Sg)|ret (v:Vl)|exc (x:D) (σ:Sg)|bad
 deriving Inhabited
noncomputable def O.from{α:Type}(σ:Sg)(x:R α)(f:α->O):O:=match x with|.ok a=>f a|_=>.bad
noncomputable def O.frX{α:Type}(σ:Sg)(x:R α)(f:α->O):O:=match x with|.ok a=>f a|.exc e=>.exc e σ|.bad=>.bad
noncomputable def O.on(o:O)(f:Sg->O):O:=match o with|.next σ=>f σ|o=>o
noncomputable def dE(f:Sg->Vl->O):List Vl->Sg->O
 | [],σ=>.next σ|x::xs,σ=>match f σ x with|.next σ'=>dE f xs σ'|o=>o
noncomputable def rV(σ:Sg)(i:Nat):Option (Bool×List D):=match σ[i]? with|some (.own pa ds)=>some (pa,ds)|_=>none
noncomputable def put(σ:Sg)(i:Nat)(v:Vl)(f:List D->Option (List D)):O:=match rV (freeze σ v.al) i with
 | some (pa,ds)=>match f ds with|some ds'=>if ds'.length<=lim then .next ((freeze σ v.al).set i (.own (pa||v.pa) ds')) else .bad|none=>.bad
 | none=>.bad
noncomputable def aJj(σ:Sg)(i:Nat)(v:Vl):O:=put σ i v λds=>some (ds++[v.d])
noncomputable def xB(v:Vl):Option (Vl×List D):=match v.fr,v.d with|true,.lst ds=>some (⟨.non,false,v.pa&&!noLs ds,if noLs ds then [] else v.al⟩,ds)|_,_=>none
noncomputable def lP(σ:Sg)(i:Nat)(dss:List (List D))(k:Nat)(ds:List D)(m:Int):List Vl->O
 | []=>if 0<=m/\m<(ds.length:Int)/\m<1000000 then .next (σ.set i (.own false ((dss.map D.lst).set k (.lst (ds.eraseIdx m.toNat))))) else .bad|[v]=>if 0<=m/\m<1000000/\ds.length<lim/\v.al=[]/\v.fr=false then .next (σ.set i (.own v.pa ((dss.map D.lst).set k (.lst (ds.take m.toNat++v.d::ds.drop m.toNat))))) else .bad|_=>.bad
mutual
noncomputable def ex(σ:Sg):S->O
 | .set t e=>O.from σ (ev P W σ e) λv=>O.from σ (aV (freeze σ v.al) v t) .next|.mov i j=>match σ[j]? with|some (.own pa ds)=>if i=j then .bad else .next ((σ.set j .dead).set i (.own pa ds))|some (.sh pa d)=>.next (σ.set i (.sh (pa&&!noL d) d))|_=>.bad
 | .setIx i k e=>O.from σ (ev P W σ e) λv=>O.from σ (ev P W σ k) λkv=>match kv.d with
  | .int k=>put σ i v λds=>match ixN ds.length k with|some j=>some (ds.set j v.d)|none=>none
  | _=>.bad
 | .app i e=>O.from σ (ev P W σ e) λv=>aJj σ i v|.ext i e=>O.from σ (ev P W σ e) λv=>match xB v with|some (v',ds')=>put σ i v' λds=>some (ds++ds')|none=>.bad
 | .ret e=>O.from σ (ev P W σ e) .ret|.retv i=>match σ[i]? with|some (.own pa ds)=>.ret ⟨.lst ds,true,pa,[]⟩|some (.own2 dss)=>.ret ⟨.lst (dss.map .lst),true,false,[]⟩|_=>O.from σ (bU σ i) .ret
 | .iff c a b=>O.from σ (tst P W σ c) λk=>if k then exs σ a else exs σ b|.for t it b=>O.from σ (walk P W σ it) λxs=>dE (λσ x=>O.from σ (aV σ x t) λσ'=>exs σ' b) xs.1 (freeze σ xs.2)|.rse c e=>O.from σ (ev P W σ e) λ_=>.exc (dS c) σ|.exC f es=>O.from σ (evs P W σ es) λvs=>O.frX σ (W f (vs.map (·.d))) λ_=>.next σ|.setC i f es=>O.from σ (evs P W σ es) λvs=>O.frX σ (W f (vs.map (·.d))) λr=>O.from σ (aV (freeze σ (aW vs r).al) (aW vs r) (.n i)) .next|.retC f es=>O.from σ (evs P W σ es) λvs=>O.frX σ (W f (vs.map (·.d))) λr=>.ret (aW vs r)|.tryAs b c i j=>match exs σ b with
  | .exc x σ'=>match isX [.own c] P x with|some true=>.next ((σ'.set i (.sh true x)).set j .dead)|_=>.bad
  | o=>o
 | .thaw i=>match σ[i]? with|some (.own2 dss)=>.next (σ.set i (.own false (dss.map .lst)))|_=>.bad
 | .chg i k m es=>O.from σ (ev P W σ k) λkv=>O.from σ (ev P W σ m) λmv=>O.from σ (evs P W σ es) λvs=>match σ[i]?,kv.d,mv.d with
  | some (.own2 dss),.int k,.int m=>(match ixN dss.length k with
   | some k=>lP σ i dss k (dss.getD k []) m vs|none=>.bad)
  | _,_,_=>.bad
 | .set2 i y=>O.from σ (bU σ y) λv=>match v.d with
  | .lst ds=>(match fC ds,rS σ with
   | some dss,true=>if ds.length<=lim then .next (σ.set i (.own2 dss)) else .bad|_,_=>.bad)
  | _=>.bad
 | .sfl f e=>O.from σ (ev P W (σ.set 0 .dead) e) λv=>match σ[(0:Nat)]? with
  | some (.sh _ (.err 0 (.int 0::.str c::fs)))=>(match P.objs.lookup c with
   | some k=>if k.1.contains f&&v.al.isEmpty&&decide (fs.length<1000)&&iN f fs then .next (σ.set 0 (.sh true (.err 0 (.int 0::.str c::(fs++[.str f,v.d]))))) else .bad|none=>.bad)
  | _=>.bad
 | .ini=>match σ[(0:Nat)]? with|some (.sh _ (.err 0 (.int 0::.str c::fs)))=>.ret ⟨.err 0 (.str c::fs),false,true,[]⟩|_=>.bad
noncomputable def exs(σ:Sg):Ss->O
 | .nil=>.next σ|.cons s ss=>(ex σ s).on λσ'=>exs σ' ss
end
noncomputable def gP(f:Nat)(ds:List D):R Rt:=match P.fns[f]? with
 | none=>match P.objs[f-P.fns.length]? with
  | some (c,k)=>match k.2.lookup ("__init__" : Str) with
   | some fi=>do
    let r<-W fi (.err 0 [.int 0,.str c]::ds)
    .ok (r.1,false,true)
   | none=>.bad
  | none=>.bad
 | some F=>if ds.length=F.np then
  match exs P W ((ds.map λd=>Sl.sh true d)++Ag (F.ns-F.np) Sl.dead) F.body with
  | .ret v=>.ok (v.d,v.fr,v.pa)|.next _=>.ok (.non,false,false)|.exc x _=>.exc x|_=>.bad
  else .bad
end
noncomputable def call(P:Pg):Nat->Caller
 | 0=>λ_ _=>.bad|n+1=>gP P (call P n)
end Hp
namespace Hp
open PySem
structure Ct where
 N:List Str
 sc:List (Str×Cm)
 fns:List Str
 cns:List (Str×D)
 cls:List Str
 fn:Bool
 tbs:List Str
 obs:List Str:=[]
 rsd:List Str:=[]
noncomputable def aBs(Γ:Ct)(x:Str):Bool:=match Γ.sc.lookup x with|some .local=>true|some .cell=>true|some .free=>true|_=>false
noncomputable def rW(Γ:Ct)(x:Str):Bool:=match Γ.sc.lookup x with|some .local=>true|some .cell=>Γ.fn|_=>false
noncomputable def lQ(sc names:List (Str×Cm)):List (Str×Cm):=names.map λ(n,k)=>if (k==.free&&sc.lookup n==some .cell) then (n,.cell) else (n,k)
noncomputable def lR:Av->Bool
 | .Tuple _ _ _=>true|_=>false
noncomputable def tIx:T->List Nat
 | .n i=>[i]
 | .t is=>is
noncomputable def bD(Γ:Ct)(x:Str):Bool:=match Γ.sc.lookup x with|some .globalImplicit=>true|_=>false
noncomputable def aX(x:Str):Bool:=!(x==("__debug__" : Str))&&!(x==("__classdict__" : Str))
noncomputable def aZ(Γ:Ct)(i:Nat)(x:Str):Bool:=(Γ.N[i]?==some x)&&aBs Γ x&&aX x
noncomputable def aR(Γ:Ct)(i:Nat)(x:Str):Bool:=(Γ.N[i]?==some x)&&rW Γ x&&aX x
noncomputable def eqC:D->Const->Bool
 | .non,.none=>true|.bl a,.bool b=>a==b|.int a,.int b=>a==b|.str a,.str b=>a==b|_,_=>false
noncomputable def eqK:D->D->Bool
 | .non,.non=>true|.bl a,.bl b=>a==b|.int a,.int b=>a==b|.str a,.str b=>a==b|_,_=>false
noncomputable def gQ:Bi->Str
 | .len => "len" | .list => "list" | .tuple => "tuple" | .int => "int" | .all => "all"
noncomputable def aEf:Cl->Bool
 | .own _=>false|.tValueError=>false|_=>true
noncomputable def cE(Γ:Ct):Cl->Option Str
 | .tInt=>some "int" | .tBool=>some "bool" | .tStr=>some "str" | .tList=>some "list" | .tTuple=>some "tuple" | .tDict=>some "dict" | .tValueError=>some "ValueError"
 | .own c=>some c
noncomputable def aFF(Γ:Ct)(c:Cl):Av->Bool
 | .Name x _=>(cE Γ c==some x)&&bD Γ x&&aX x|_=>false
noncomputable def xC(Γ:Ct)(c:Cl)(y:Av):Bool:=match c,y with|.own x,.Name z _=>(z==x)&&bD Γ x&&aX x&&Γ.cls.contains x|_,_=>false
noncomputable def xD(Γ:Ct):List Cl->List Av->Bool
 | [],[]=>true|c::cs,y::ys=>xC Γ c y&&xD Γ cs ys|_,_=>false
noncomputable def aJk(Γ:Ct)(cs:List Cl)(y:Av):Bool:=match y with
 | .Tuple es _ _=>xD Γ cs es&&decide (es.length<=1000)|.Name x _=>(match cs with
  | [.tValueError]=>(x==("ValueError" : Str))&&bD Γ x|[c]=>xC Γ c y|_=>false)
 | _=>false
noncomputable def lS(Γ:Ct):T->Av->Bool
 | .n i,.Name x _=>aR Γ i x|.t is,.Tuple es _ _=>is.length==es.length&&(is.zip es).all λp=>match p.2 with|.Name x _=>aR Γ p.1 x|_=>false
 | _,_=>false
noncomputable def eB:Av->List Str
 | .Name x _=>[x]
 | .Tuple es _ _=>es.filterMap fun|.Name x _=>some x|_=>none
 | _=>[]
noncomputable def aJl:Av->Bool
 | .Name _ _=>true|.Attribute _ _ _=>true|_=>false
noncomputable def vA:E->Bool
 | .c (.int i)=>i==0|_=>false
noncomputable def asC(e:Av):Option { c:Const // ∃k p,e=.Constant c k p }:=match e with|.Constant c k p=>some ⟨c,k,p,rfl⟩|_=>none
noncomputable def asN(e:Av):Option { x:Str // ∃p,e=.Name x p }:=match e with|.Name x p=>some ⟨x,p,rfl⟩|_=>none
noncomputable def aFG(e:Av):Option { r:Av×Operator×Av // ∃p,e=.BinOp r.1 r.2.1 r.2.2 p }:=match e with|.BinOp l o r p=>some ⟨(l,o,r),p,rfl⟩|_=>none
noncomputable def aJm(e:Av):Option { r:UnaryOp×Av // ∃p,e=.UnaryOp r.1 r.2 p }:=match e with|.UnaryOp o x p=>some ⟨(o,x),p,rfl⟩|_=>none
noncomputable def aJn(e:Av):Option { r:Ku×List Av×CF // e=.BoolOp r.1 r.2.1 r.2.2 }:=match e with|.BoolOp o xs p=>some ⟨(o,xs,p),rfl⟩|_=>none
noncomputable def aMj(e:Av):Option { r:Av×Av×Av // ∃p,e=.IfExp r.1 r.2.1 r.2.2 p }:=match e with|.IfExp t a b p=>some ⟨(t,a,b),p,rfl⟩|_=>none
noncomputable def aFH(e:Av):Option { r:Av×List CmpOp×List Av // ∃p,e=.Compare r.1 r.2.1 r.2.2 p }:=match e with|.Compare l os rs p=>some ⟨(l,os,rs),p,rfl⟩|_=>none
noncomputable def xF(e:Av):Option { r:Av×Av // ∃p,e=.Subscript r.1 r.2 p }:=match e with|.Subscript x i p=>some ⟨(x,i),p,rfl⟩|_=>none
noncomputable def aMk(e:Av):Option { r:Option Av×Option Av // ∃p,e=.Slice r.1 r.2 none p }:=match e with|.Slice l h none p=>some ⟨(l,h),p,rfl⟩|_=>none
noncomputable def aBt(e:Av):Option { r:Str×Str // ∃p q,e=.Attribute (.Name r.1 p) r.2 q }:=match e with|.Attribute (.Name x p) f q=>some ⟨(x,f),p,q,rfl⟩|_=>none
noncomputable def aJo(e:Av):Option { r:List Av // ∃k p,e=.Tuple r k p }:=match e with|.Tuple xs k p=>some ⟨xs,k,p,rfl⟩|_=>none
noncomputable def aBu(e:Av):Option { r:List Av // ∃p,e=.List r p }:=match e with|.List xs p=>some ⟨xs,p,rfl⟩|_=>none
noncomputable def gR(e:Av):Option { r:Str×List Av // ∃p1 p2,e=.Call (.Name r.1 p1) r.2 [] p2 }:=match e with|.Call (.Name x p1) xs [] p2=>some ⟨(x,xs),p1,p2,rfl⟩|_=>none
noncomputable def aBv(e:Av):Option { r:Av×Str×List Av×Bool // ∃ap cp,e=.Call (.Attribute r.1 r.2.1 ap) r.2.2.1 [] cp/\(ap.endLine==cp.line)=r.2.2.2 }:=match e with|.Call (.Attribute x a ap) xs [] cp=>some ⟨(x,a,xs,ap.endLine==cp.line),ap,cp,rfl,rfl⟩|_=>none
noncomputable def aMl(e:Av):Option { r:Av×List Comprehension×Da // ∃p,e=.ListComp r.1 r.2.1 r.2.2 p }:=match e with|.ListComp e gs s p=>some ⟨(e,gs,s),p,rfl⟩|_=>none
noncomputable def aJp(e:Av):Option { r:Unit // ∃p,e=.Dict [] [] p }:=match e with|.Dict [] [] p=>some ⟨(),p,rfl⟩|_=>none
noncomputable def oB{α:Type}(o:Option α)(f:α->Bool):Bool:=match o with|some a=>f a|none=>false
noncomputable def oS{α:Type}{q:α->Prop}(o:Option { a:α // q a })(f:α->Bool):Bool:=match o with|some a=>f a.1|none=>false
mutual
noncomputable def aL(Γ:Ct):E->Av->Bool
 | .c d,e=>oS (asC e) (eqC d)||oS (asN e) λx=>bD Γ x&&aX x&&oB (Γ.cns.lookup x) (eqK d)|.v i,e=>oS (asN e) (aZ Γ i)|.op o a b,e=>oS (aFG e) λp=>o==p.2.1&&aL Γ a p.1&&aL Γ b p.2.2|.neg a,e=>oS (aJm e) λp=>p.1==.USub&&aL Γ a p.2|.nt a,e=>oS (aJm e) λp=>p.1==.Not&&aL Γ a p.2|.an a b,e=>oS (aJn e) λp=>p.1==.And&&(match p.2.1 with
  | [x,y]=>aL Γ a x&&aL Γ b y|x::y::z::r=>aL Γ a x&&aL Γ b (.BoolOp .And (y::z::r) p.2.2)|_=>false)
 | .orr a b,e=>oS (aJn e) λp=>p.1==.Or&&(match p.2.1 with
  | [x,y]=>aL Γ a x&&aL Γ b y|x::y::z::r=>aL Γ a x&&aL Γ b (.BoolOp .Or (y::z::r) p.2.2)|_=>false)
 | .ife t a b,e=>oS (aMj e) λp=>aL Γ t p.1&&aL Γ a p.2.1&&aL Γ b p.2.2|.cmp o a b,e=>oS (aFH e) λp=>(match p.2.1,p.2.2 with
  | [o'],[r]=>o==o'&&aL Γ a p.1&&aL Γ b r|_,_=>false)
 | .cmp2 o1 o2 a b c,e=>oS (aFH e) λp=>(match p.2.1,p.2.2 with
  | [o1',o2'],[m,r]=>o1==o1'&&o2==o2'&&aL Γ a p.1&&aL Γ b m&&aL Γ c r|_,_=>false)
 | .fld j f,e=>oS (aBt e) λp=>aZ Γ j p.1&&(p.2==f)|.mcl j m es,e=>oS (aBv e) λp=>oS (asN p.1) λx=>aZ Γ j x&&(p.2.1==m)&&p.2.2.2&&decide (p.2.2.1.length<30)&&!p.2.2.1.isEmpty&&chkEs Γ es p.2.2.1|.mk j es,e=>oS (gR e) λp=>(Γ.obs[j]?==some p.1)&&bD Γ p.1&&aX p.1&&!p.2.isEmpty&&chkEs Γ es p.2|.dgl o k,e=>oS (aBv e) λp=>(p.2.1==("get" : Str))&&p.2.2.2&&aJl p.1&&aL Γ o p.1&&(match p.2.2.1 with
  | [y,z]=>aL Γ k y&&oS (aBu z) λl=>l.isEmpty|_=>false)
 | .grp _,_=>false|.sset a,e=>oS (gR e) λp=>(match p.2 with
  | [s]=>oS (gR s) λq=>(p.1==("sorted" : Str))&&bD Γ p.1&&(q.1==("set" : Str))&&bD Γ q.1&&(match q.2 with|[x]=>aL Γ a x|_=>false)|_=>false)
 | .idx a b,e=>oS (xF e) λp=>aL Γ a p.1&&aL Γ b p.2|.sli a lo hi,e=>oS (xF e) λp=>oS (aMk p.2) λq=>aL Γ a p.1&&chkO Γ lo q.1&&chkO Γ hi q.2|.tup es,e=>oS (aJo e) λxs=>decide (xs.length<=1000)&&chkEs Γ es xs|.lst es,e=>oS (aBu e) λxs=>decide (xs.length<=1000)&&chkEs Γ es xs|.call f es,e=>oS (gR e) λp=>(Γ.fns[f]?==some p.1)&&bD Γ p.1&&aX p.1&&chkEs Γ es p.2|.bi b es,e=>oS (gR e) λp=>(gQ b==p.1)&&bD Γ p.1&&aX p.1&&!p.2.isEmpty&&chkEs Γ es p.2|.isi a cs,e=>oS (gR e) λp=>(match cs,p.2 with
  | [c],[x,y]=>(p.1==("isinstance" : Str))&&bD Γ p.1&&aEf c&&aL Γ a x&&aFF Γ c y|_,_=>false)
 | .isx a cs,e=>oS (gR e) λp=>(match p.2 with
  | [x,y]=>(p.1==("isinstance" : Str))&&bD Γ p.1&&aL Γ a x&&aJk Γ cs y|_=>false)
 | .emp,e=>oS (aJp e) λ_=>true|.lrv a,e=>oS (gR e) λp=>(match p.2 with
  | [s]=>oS (gR s) λq=>(p.1==("list" : Str))&&bD Γ p.1&&(q.1==("reversed" : Str))&&bD Γ q.1&&(match q.2 with|[x]=>aL Γ a x|_=>false)|_=>false)
 | .hid _ a,e=>oS (aFG e) λ_=>aL Γ a e|.comp k caps t it cond elt,e=>oS (aMl e) λp=>(match p.2.1 with
  | [⟨tg,iter,ifs,as⟩]=>
   as==0&&(eB tg).length==k&&(caps.all λi=>decide (i<Γ.N.length))&&decide caps.Nodup&&p.2.2.kind==.function&&decide (eB tg++caps.filterMap λi=>Γ.N[i]?).Nodup &&
   ((caps.filterMap λi=>Γ.N[i]?).all λx=>p.2.2.names.lookup x==some .free&&Γ.sc.lookup x==some .cell) &&
   (p.2.2.names.all λq=>q.2 != .cell&&(q.2 != .local||p.2.2.names.lookup q.1==some .local)&&(q.2 != .free||Γ.sc.lookup q.1==some .cell)) &&
   ((tIx t).all λi=>decide (i<k))&&decide (ifs.length<=1) &&
   lS { Γ with N:=eB tg++caps.filterMap λi=>Γ.N[i]?,sc:=lQ Γ.sc p.2.2.names,fn:=false } t tg&&chkI Γ (lR tg) it iter &&
   chkEs { Γ with N:=eB tg++caps.filterMap λi=>Γ.N[i]?,sc:=lQ Γ.sc p.2.2.names,fn:=false } cond ifs &&
   aL { Γ with N:=eB tg++caps.filterMap λi=>Γ.N[i]?,sc:=lQ Γ.sc p.2.2.names,fn:=false } elt p.1
  | _=>false)
noncomputable def chkEs(Γ:Ct):Es->List Av->Bool
 | .nil,[]=>true|.cons e es,x::xs=>aL Γ e x&&chkEs Γ es xs|_,_=>false
noncomputable def chkO(Γ:Ct):Es->Option Av->Bool
 | .nil,none=>true|.cons e .nil,some x=>aL Γ e x|_,_=>false
noncomputable def chkI(Γ:Ct)(tt:Bool):It->Av->Bool
 | .rng a b,e=>oS (gR e) λp=>(p.1==("range" : Str))&&bD Γ p.1&&(match p.2 with
  | [x]=>vA a&&aL Γ b x|[x,y]=>aL Γ a x&&aL Γ b y|_=>false)
 | .zip a b,e=>oS (gR e) λp=>(match p.2 with
  | [x,y]=>tt&&(p.1==("zip" : Str))&&bD Γ p.1&&aL Γ a x&&aL Γ b y|_=>false)
 | .seq c,x=>aL Γ c x|.enum a,e=>oS (gR e) λp=>(match p.2 with
  | [x]=>tt&&(p.1==("enumerate" : Str))&&bD Γ p.1&&aL Γ a x|_=>false)
end
noncomputable def jI:Av->Bool
 | .ListComp _ _ _ _=>true|.SetComp _ _ _ _=>true|.DictComp _ _ _ _ _=>true|_=>false
noncomputable def lT:Av->Bool
 | .Tuple _ _ _=>true|.List _ _=>true|_=>false
noncomputable def aGT:Av->Bool
 | .Name _ _=>true|_=>false
noncomputable def rX(Γ:Ct)(i:Nat)(m:Str):Av->Option (List Av)
 | .Call (.Attribute (.Name x _) a ap) xs [] cp=>if (a==m)&&aZ Γ i x&&(ap.endLine==cp.line) then some xs else none|_=>none
noncomputable def rY(s:BR):Option { r:Av×Av // ∃p,s=.Assign [r.1] r.2 p }:=match s with|.Assign [t] v p=>some ⟨(t,v),p,rfl⟩|_=>none
noncomputable def sEx(s:BR):Option { r:Av // ∃p,s=.Expr r p }:=match s with|.Expr v p=>some ⟨v,p,rfl⟩|_=>none
noncomputable def aGU(s:BR):Option { r:Option Av // ∃p,s=.Return r p }:=match s with|.Return v p=>some ⟨v,p,rfl⟩|_=>none
noncomputable def sIf(s:BR):Option { r:Av×List BR×List BR // ∃p,s=.If r.1 r.2.1 r.2.2 p }:=match s with|.If t x y p=>some ⟨(t,x,y),p,rfl⟩|_=>none
noncomputable def aJq(s:BR):Option { r:Av×Av×List BR // ∃p,s=.For r.1 r.2.1 r.2.2 [] p }:=match s with|.For t i b [] p=>some ⟨(t,i,b),p,rfl⟩|_=>none
noncomputable def aMm(s:BR):Option { r:Str×Av // ∃np cp p,s=.Raise (some (.Call (.Name r.1 np) [r.2] [] cp)) none p }:=match s with|.Raise (some (.Call (.Name x np) [a] [] cp)) none p=>some ⟨(x,a),np,cp,p,rfl⟩|_=>none
structure aJr where
 body:List BR
 x:Str
 n:Str
 y:Str
noncomputable def aMn(s:BR):Option { r:aJr // ∃np yp np2 ap hp p,s=.Try r.body [.ExceptHandler (some (.Name r.x np)) (some r.n) [.Assign [.Name r.y yp] (.Name r.n np2) ap] hp] [] [] p }:=match s with|.Try body [.ExceptHandler (some (.Name x np)) (some n) [.Assign [.Name y yp] (.Name n' np2) ap] hp] [] [] p=>if h:n'=n then some ⟨⟨body,x,n,y⟩,np,yp,np2,ap,hp,p,by rw[h]⟩ else none|_=>none
mutual
noncomputable def dU(Γ:Ct):S->BR->Bool
 | .set t e,s=>oS (rY s) λr=>lS Γ t r.1&&aL Γ e r.2&&(aGT r.1||!lT r.2)|.mov i j,s=>oS (rY s) λr=>oS (asN r.1) λx=>oS (asN r.2) λy=>aR Γ i x&&aZ Γ j y|.setIx i k e,s=>oS (rY s) λr=>oS (xF r.1) λu=>oS (asN u.1) λx=>aZ Γ i x&&aL Γ k u.2&&aL Γ e r.2|.app i e,s=>oS (sEx s) λc=>(match rX Γ i "append" c with|some [a]=>aL Γ e a|_=>false)
 | .ext i e,s=>oS (sEx s) λc=>(match rX Γ i "extend" c with|some [a]=>aL Γ e a|_=>false)
 | .ret e,s=>oS (aGU s) λr=>oB r (aL Γ e)|.retv i,s=>oS (aGU s) λr=>oB r λv=>oS (asN v) (aZ Γ i)|.iff c a b,s=>oS (sIf s) λr=>aL Γ c r.1&&chkSs Γ a r.2.1&&chkSs Γ b r.2.2|.for t it b,s=>oS (aJq s) λr=>lS Γ t r.1&&chkI Γ (lR r.1) it r.2.1&&chkSs Γ b r.2.2|.rse c e,s=>oS (aMm s) λr=>(r.1==c)&&bD Γ c&&aX c&&Γ.rsd.contains c&&aL Γ e r.2|.exC f (.cons e es),s=>oS (sEx s) λv=>aL Γ (.call f (.cons e es)) v|.exC _ .nil,_=>false|.setC i f (.cons e es),s=>oS (rY s) λr=>oS (asN r.1) λx=>aR Γ i x&&aL Γ (.call f (.cons e es)) r.2|.setC _ _ .nil,_=>false|.retC f (.cons e es),s=>oS (aGU s) λr=>oB r (aL Γ (.call f (.cons e es)))|.retC _ .nil,_=>false|.tryAs b c i j,s=>oS (aMn s) λr=>(r.x==c)&&bD Γ c&&aX c&&Γ.cls.contains c&&Γ.rsd.contains c&&aR Γ i r.y&&aR Γ j r.n&&(Γ.sc.lookup r.n==some .local)&&aX r.n&&(i != j)&&Γ.fn&&chkSs Γ b r.body|.thaw _,_=>false|.chg i k m es,s=>oS (sEx s) λc=>oS (aBv c) λp=>p.2.2.2&&(oS (xF p.1) λu=>oS (asN u.1) (aZ Γ i)&&aL Γ k u.2)&&(match es,p.2.2.1 with
  | .nil,[a]=>(p.2.1==("pop" : Str))&&aL Γ m a|.cons e .nil,[a,b]=>(p.2.1==("insert" : Str))&&aL Γ m a&&aL Γ e b|_,_=>false)
 | .set2 i y,s=>oS (rY s) λr=>oS (asN r.1) λx=>aR Γ i x&&aL Γ (.comp 1 [] (.n 0) (.seq (.v y)) .nil (.bi .list (.cons (.v 0) .nil))) r.2|.sfl _ _,_=>false|.ini,_=>false
noncomputable def chkSs(Γ:Ct):Ss->List BR->Bool
 | .nil,[]=>true|.cons (.thaw _) ss,xs=>chkSs Γ ss xs|.cons s ss,x::xs=>dU Γ s x&&chkSs Γ ss xs|_,_=>false
end
noncomputable def gU(Γ:Ct):Ss->List BR->Bool
 | .cons (.sfl f e) ss,s::st=>(oS (rY s) λr=>oS (aBt r.1) λu=>aZ Γ 0 u.1&&(u.2==f)&&aL Γ e r.2&&!lT r.2)&&gU Γ ss st|.cons .ini .nil,[]=>true|_,_=>false
noncomputable def aBw(Γ:Ct)(s:BR):Bool:=oS (sEx s) λc=>oS (aBv c) λp=>(p.2.1==("append" : Str))&&p.2.2.2&&(match p.2.2.1 with|[z]=>oS (asN z) (aZ Γ 3)|_=>false) &&
 oS (aBv p.1) λq=>(q.2.1==("setdefault" : Str))&&q.2.2.2&&oS (asN q.1) (aZ Γ 1)&&(match q.2.2.1 with|[k,l]=>oS (asN k) (aZ Γ 2)&&oS (aBu l) λl=>l.isEmpty|_=>false)
noncomputable def aBx(Γ:Ct):List BR->Bool
 | [s1,s2,s3]=>(oS (rY s1) λr=>oS (asN r.1) λx=>aR Γ 1 x&&oS (aJp r.2) λ_=>true)&&(oS (aJq s2) λr=>lS Γ (.t [2,3]) r.1&&oS (asN r.2.1) (aZ Γ 0)&&(match r.2.2 with|[s]=>aBw Γ s|_=>false))&&dU Γ (.retv 1) s3|_=>false
end Hp
namespace Hp
open PySem L2
abbrev Fg:=An
noncomputable def _root_.L2.excO(a C:Addr):HO:=.ext λh=>∃o,IE h a o C none
noncomputable def kD:Key->D
 | .inl i=>.int i|.inr x=>.str x
noncomputable def Ox(o:HO):Prop:=(∃φ,o=.ext φ)\/∃C dx fs,o=.ins C dx fs
mutual
noncomputable def Rep(K:Fg)(H:Hp)(ex:Addr->Prop):D->V->Prop
 | .non,v=>v=.non|.bl b,v=>v=.bl b|.int i,v=>v=.int i|.str x,v=>v=.str x|.tup ds,v=>∃a xs,v=.ref a/\SqT K H a xs/\Reps K H ex ds xs|.lst ds,v=>∃a xs,v=.ref a/\SqL K H a xs/\¬ ex a/\Reps K H ex ds xs|.err _ (.str c::ds),v=>∃a C dx fs,v=.ref a/\H a=some (.ins C dx fs)/\¬ ex a/\Br K AB c=some (some (.ref C))/\RepF K H ex ds fs|.err _ (.non::ds),v=>∃a xs,v=.ref a/\H a=some (cZ a xs)/\¬ ex a/\RepM K H ex ds xs|.err _ (.bl _::r),v=>∃c a C1,r=[.str c]/\v=.ref a/\H a=some (excO a C1)/\¬ ex a/\Br K AB c=some (some (.ref C1))|.err _ _,_=>False
noncomputable def RepM(K:Fg)(H:Hp)(ex:Addr->Prop):List D->TKV->Prop
 | [],xs=>xs=[]
 | .tup is::d::r,xs=>∃js b u v r',xs=(js,b,u)::r'/\is=js.map D.int/\SqT K H b (js.map V.int)/\aP v u/\Rep K H ex d v/\RepM K H ex r r'|_,_=>False
noncomputable def RepF(K:Fg)(H:Hp)(ex:Addr->Prop):List D->List (Str×V)->Prop
 | [],fs=>fs=[]
 | .str f::d::r,fs=>∃x r',fs=(f,x)::r'/\Rep K H ex d x/\RepF K H ex r r'|_,_=>False
noncomputable def Reps(K:Fg)(H:Hp)(ex:Addr->Prop):List D->List V->Prop
 | [],xs=>xs=[]
 | d::ds,xs=>∃x r,xs=x::r/\Rep K H ex d x/\Reps K H ex ds r
noncomputable def rZ(K:Fg)(H:Hp)(ex:Addr->Prop):List (D×D)->List (Key×V)->Prop
 | [],ks=>ks=[]
 | (k,d)::r,ks=>∃k' x r',ks=(k',x)::r'/\kD k'=k/\Rep K H ex d x/\rZ K H ex r r'
end
section
variable {K:Fg} {H H':Hp} {ex ex':Addr->Prop}
theorem aE.seqT{a:Addr}{xs:List V}(e:aE H H')(h:SqT K H a xs):SqT K H' a xs:=by rcases h with(h|⟨o,h⟩)|h;exact .inl (.inl (e _ _ h));exact .inl (.inr ⟨o,e _ _ h⟩);exact .inr h
mutual
theorem Rep.imp(I:∀a xs,SqT K H a xs->SqT K H' a xs)(G:∀a xs,¬ ex a->SqL K H a xs->¬ ex' a/\SqL K H' a xs)(M:∀a ks,H a=some (.dK ks)->H' a=some (.dK ks))(l:∀a o,Ox o->¬ ex a->H a=some o->¬ ex' a/\H' a=some o) :
 ∀(d:D) (v:V),Rep K H ex d v->Rep K H' ex' d v
 | .non,_,h=>h|.bl _,_,h=>h|.int _,_,h=>h|.str _,_,h=>h|.tup ds,_,h=>by obtain⟨a,xs,e,q,r⟩:=h;exact⟨a,xs,e,I a xs q,Reps.imp I G M l ds xs r⟩|.lst ds,_,h=>by obtain⟨a,xs,e,q,n,r⟩:=h;obtain⟨n',B⟩:=G a xs n q;exact⟨a,xs,e,B,n',Reps.imp I G M l ds xs r⟩|.err _ (.str c::ds),_,h=>by obtain⟨a,C,dx,fs,e,q,z,n,r⟩:=h;obtain⟨L,B⟩:=l a _ (.inr ⟨_,_,_,rfl⟩) z q;exact⟨a,C,dx,fs,e,B,L,n,RepF.imp I G M l ds fs r⟩|.err _ (.non::ds),_,h=>by obtain⟨a,xs,e,q,z,r⟩:=h;obtain⟨L,B⟩:=l a _ (.inl ⟨_,rfl⟩) z q;exact⟨a,xs,e,B,L,RepM.imp I G M l ds xs r⟩|.err _ [],_,h=>h.elim|.err _ (.bl _::r),_,h=>by obtain⟨c,a,U,W,e,q,z,n⟩:=h;obtain⟨L,B⟩:=l a _ (.inl ⟨_,rfl⟩) z q;exact⟨c,a,U,W,e,B,L,n⟩|.err _ (.int _::_),_,h=>h.elim|.err _ (.tup _::_),_,h=>h.elim|.err _ (.lst _::_),_,h=>h.elim|.err _ (.err _ _::_),_,h=>h.elim
theorem RepM.imp(l:∀a xs,SqT K H a xs->SqT K H' a xs)(G:∀a xs,¬ ex a->SqL K H a xs->¬ ex' a/\SqL K H' a xs)(B:∀a ks,H a=some (.dK ks)->H' a=some (.dK ks))(I:∀a o,Ox o->¬ ex a->H a=some o->¬ ex' a/\H' a=some o) :
 ∀(ds:List D) (xs:TKV),RepM K H ex ds xs->RepM K H' ex' ds xs
 | [],_,h=>h|.tup is::d::ds,_,h=>by obtain⟨js,b,u,v,r,e,L,M,U,W,Z⟩:=h;exact⟨js,b,u,v,r,e,L,l _ _ M,U,Rep.imp l G B I d v W,RepM.imp l G B I ds r Z⟩|[.tup _],_,h=>h.elim|.non::_,_,h=>h.elim|.bl _::_,_,h=>h.elim|.int _::_,_,h=>h.elim|.str _::_,_,h=>h.elim|.lst _::_,_,h=>h.elim|.err _ _::_,_,h=>h.elim
theorem RepF.imp(I:∀a xs,SqT K H a xs->SqT K H' a xs)(B:∀a xs,¬ ex a->SqL K H a xs->¬ ex' a/\SqL K H' a xs)(l:∀a ks,H a=some (.dK ks)->H' a=some (.dK ks))(G:∀a o,Ox o->¬ ex a->H a=some o->¬ ex' a/\H' a=some o) :
 ∀(ds:List D) (fs:List (Str×V)),RepF K H ex ds fs->RepF K H' ex' ds fs
 | [],_,h=>h|.str f::d::ds,_,h=>by obtain⟨x,r,e,L,M⟩:=h;exact⟨x,r,e,Rep.imp I B l G d x L,RepF.imp I B l G ds r M⟩|[.str _],_,h=>h.elim|.non::_,_,h=>h.elim|.bl _::_,_,h=>h.elim|.int _::_,_,h=>h.elim|.tup _::_,_,h=>h.elim|.lst _::_,_,h=>h.elim|.err _ _::_,_,h=>h.elim
theorem Reps.imp(I:∀a xs,SqT K H a xs->SqT K H' a xs)(B:∀a xs,¬ ex a->SqL K H a xs->¬ ex' a/\SqL K H' a xs)(l:∀a ks,H a=some (.dK ks)->H' a=some (.dK ks))(G:∀a o,Ox o->¬ ex a->H a=some o->¬ ex' a/\H' a=some o) :
 ∀(ds:List D) (xs:List V),Reps K H ex ds xs->Reps K H' ex' ds xs
 | [],_,h=>h|d::ds,_,h=>by obtain⟨x,r,e,L,M⟩:=h;exact⟨x,r,e,Rep.imp I B l G d x L,Reps.imp I B l G ds r M⟩
theorem rZ.imp(I:∀a xs,SqT K H a xs->SqT K H' a xs)(B:∀a xs,¬ ex a->SqL K H a xs->¬ ex' a/\SqL K H' a xs)(l:∀a ks,H a=some (.dK ks)->H' a=some (.dK ks))(G:∀a o,Ox o->¬ ex a->H a=some o->¬ ex' a/\H' a=some o) :
 ∀(ds:List (D×D)) (xs:List (Key×V)),rZ K H ex ds xs->rZ K H' ex' ds xs
 | [],_,h=>h|(k,d)::ds,_,h=>by obtain⟨W,x,r,e,L,M,U⟩:=h;exact⟨W,x,r,e,L,Rep.imp I B l G d x M,rZ.imp I B l G ds r U⟩
end
theorem Rep.weak{d:D}{v:V}(h:Rep K H ex d v)(e:∀a,ex' a->ex a):Rep K H ex' d v:=Rep.imp (λ_ _ q=>q) (λa _ n q=>⟨λz=>n (e a z),q⟩) (λ_ _ q=>q) (λa _ _ n q=>⟨λz=>n (e a z),q⟩) d v h
theorem Reps.weak{d:List D}{v:List V}(h:Reps K H ex d v)(e:∀a,ex' a->ex a):Reps K H ex' d v:=Reps.imp (λ_ _ q=>q) (λa _ n q=>⟨λz=>n (e a z),q⟩) (λ_ _ q=>q) (λa _ _ n q=>⟨λz=>n (e a z),q⟩) d v h
theorem Rep.grow{d:D}{v:V}(h:Rep K H ex d v)(s:aE H H'):Rep K H' ex d v:=Rep.imp (λ_ _ q=>aE.seqT s q) (λ_ _ n q=>⟨n,s.seq q⟩) (λ_ _ q=>s _ _ q) (λ_ _ _ n q=>⟨n,s _ _ q⟩) d v h
theorem Reps.grow{d:List D}{v:List V}(h:Reps K H ex d v)(s:aE H H'):Reps K H' ex d v:=Reps.imp (λ_ _ q=>aE.seqT s q) (λ_ _ n q=>⟨n,s.seq q⟩) (λ_ _ q=>s _ _ q) (λ_ _ _ n q=>⟨n,s _ _ q⟩) d v h
theorem nOx{o:HO}{p:Prop}(l:∀xs,o≠.lst xs)(B:∀φ,o≠.ext φ)(G:∀C dx fs,o≠.ins C dx fs)(h:(∃xs,o=.lst xs)\/Ox o):p:=by
 rcases h with⟨xs,e⟩|⟨φ,e⟩|⟨C,dx,fs,e⟩
 exact(l xs e).elim;exact(B φ e).elim;exact(G C dx fs e).elim
theorem Rep.keep{d:D}{v:V}(h:Rep K H ex d v)(s:∀a o,H a=some o->((∃xs,o=.lst xs)\/Ox o->¬ ex a)->H' a=some o):Rep K H' ex d v:=by refine Rep.imp (λa xs q=>?_) (λa xs n q=>⟨n,?_⟩) (λa ks q=>s a _ q λz=>nOx (λ_ e=>by cases e) (λ_ e=>by cases e) (λ_ _ _ e=>by cases e) z) (λa o _ n q=>⟨n,s a o q λ_=>n⟩) d v h;rcases q with(q|⟨o,q⟩)|q;exact .inl (.inl (s _ _ q λz=>nOx (λ_ e=>by cases e) (λ_ e=>by cases e) (λ_ _ _ e=>by cases e) z));exact .inl (.inr ⟨o,s _ _ q λz=>nOx (λ_ e=>by cases e) (λ_ e=>by cases e) (λ_ _ _ e=>by cases e) z⟩);exact .inr q;rcases q with(q|⟨o,q⟩)|q;exact .inl (.inl (s _ _ q λ_=>n));exact .inl (.inr ⟨o,s _ _ q λz=>nOx (λ_ e=>by cases e) (λ_ e=>by cases e) (λ_ _ _ e=>by cases e) z⟩);exact .inr q
theorem Reps.keep{d:List D}{v:List V}(h:Reps K H ex d v)(s:∀a o,H a=some o->((∃xs,o=.lst xs)\/Ox o->¬ ex a)->H' a=some o):Reps K H' ex d v:=by refine Reps.imp (λa xs q=>?_) (λa xs n q=>⟨n,?_⟩) (λa ks q=>s a _ q λz=>nOx (λ_ e=>by cases e) (λ_ e=>by cases e) (λ_ _ _ e=>by cases e) z) (λa o _ n q=>⟨n,s a o q λ_=>n⟩) d v h;rcases q with(q|⟨o,q⟩)|q;exact .inl (.inl (s _ _ q λz=>nOx (λ_ e=>by cases e) (λ_ e=>by cases e) (λ_ _ _ e=>by cases e) z));exact .inl (.inr ⟨o,s _ _ q λz=>nOx (λ_ e=>by cases e) (λ_ e=>by cases e) (λ_ _ _ e=>by cases e) z⟩);exact .inr q;rcases q with(q|⟨o,q⟩)|q;exact .inl (.inl (s _ _ q λ_=>n));exact .inl (.inr ⟨o,s _ _ q λz=>nOx (λ_ e=>by cases e) (λ_ e=>by cases e) (λ_ _ _ e=>by cases e) z⟩);exact .inr q
mutual
theorem Rep.free:∀(d:D) (v:V),noL d=true->Rep K H ex d v->Rep K H ex' d v
 | .non,_,_,h=>h|.bl _,_,_,h=>h|.int _,_,_,h=>h|.str _,_,_,h=>h|.tup ds,_,n,h=>by obtain⟨a,xs,e,q,r⟩:=h;exact⟨a,xs,e,q,Reps.free ds xs (by simpa[noL] using n) r⟩|.lst ds,_,n,_=>by simp[noL] at n|.err _ _,_,n,_=>by simp[noL] at n
theorem Reps.free:∀(ds:List D) (xs:List V),noLs ds=true->Reps K H ex ds xs->Reps K H ex' ds xs
 | [],_,_,h=>h|d::ds,_,n,h=>by obtain⟨x,r,e,l,B⟩:=h;simp only[noLs,bA] at n;exact⟨x,r,e,Rep.free d x n.1 l,Reps.free ds r n.2 B⟩
end
theorem fT{c:Nat}{ds:List D}{v:V}(h:Rep K H ex (.err c ds) v):∃a o,v=.ref a/\H a=some o/\Ox o:=by
 cases ds with
 | nil=>exact h.elim|cons d r=>
  cases d with
  | str x=>obtain⟨a,C,dx,fs,e,q,_⟩:=h;exact⟨a,_,e,q,.inr ⟨_,_,_,rfl⟩⟩|non=>obtain⟨a,xs,e,q,_⟩:=h;exact⟨a,_,e,q,.inl ⟨_,rfl⟩⟩|bl b=>obtain⟨c,a,l,B,e,q,_⟩:=h;exact⟨a,_,e,q,.inl ⟨_,rfl⟩⟩|_=>exact h.elim
theorem Reps.length:∀{ds:List D} {xs:List V},Reps K H ex ds xs->ds.length=xs.length
 | [],_,h=>by rw[show _=[] from h];rfl|d::ds,_,h=>by obtain⟨x,r,e,_,l⟩:=h;subst e;rw[lC,lC,Reps.length l]
theorem Reps.get:∀{ds:List D} {xs:List V} {j:Nat} {d:D},Reps K H ex ds xs->ds[j]? = some d->∃x,xs[j]? = some x/\Rep K H ex d x
 | [],_,_,_,_,e=>by simp at e|d::ds,_,0,_,h,e=>by obtain⟨x,r,l,B,_⟩:=h;subst l;simp at e;subst e;exact⟨x,rfl,B⟩|d::ds,_,j+1,d',h,e=>by obtain⟨x,r,l,_,G⟩:=h;subst l;obtain⟨y,I,q⟩:=Reps.get (j:=j) (d:=d') G (by simpa using e);exact⟨y,by simpa using I,q⟩
theorem Reps.get'{ds:List D}{xs:List V}{j:Nat}{x:V}(h:Reps K H ex ds xs)(e:xs[j]? = some x):∃d,ds[j]? = some d/\Rep K H ex d x:=by
 have hl:=h.length;have B:j<xs.length:=(Ai.mp e).1;obtain⟨d,hd⟩:∃d,ds[j]? = some d:=⟨ds[j],Ac (by omega)⟩
 obtain⟨y,l,q⟩:=h.get hd;rw[e] at l;cases l;exact⟨d,hd,q⟩
theorem Reps.nil:Reps K H ex [] []:=rfl
theorem Reps.cons{d:D}{ds:List D}{x:V}{xs:List V}(h:Rep K H ex d x)(t:Reps K H ex ds xs):Reps K H ex (d::ds) (x::xs):=⟨x,xs,rfl,h,t⟩
theorem Reps.append:∀{ds es:List D} {xs ys:List V},Reps K H ex ds xs->Reps K H ex es ys->Reps K H ex (ds++es) (xs++ys)
 | [],_,_,_,h,t=>by rw[show _=[] from h];exact t|d::ds,_,_,_,h,t=>by obtain⟨x,r,e,l,B⟩:=h;subst e;exact⟨x,_,rfl,l,Reps.append B t⟩
theorem Reps.take:∀{ds:List D} {xs:List V} (n:Nat),Reps K H ex ds xs->Reps K H ex (ds.take n) (xs.take n)
 | _,_,0,_=>by simp[Reps]|[],_,n+1,h=>by rw[show _=[] from h];simp[Reps]|d::ds,_,n+1,h=>by obtain⟨x,r,e,l,B⟩:=h;subst e;exact⟨x,_,rfl,l,Reps.take n B⟩
theorem Reps.drop:∀{ds:List D} {xs:List V} (n:Nat),Reps K H ex ds xs->Reps K H ex (ds.drop n) (xs.drop n)
 | _,_,0,h=>h|[],_,n+1,h=>by rw[show _=[] from h];simp[Reps]|d::ds,_,n+1,h=>by obtain⟨x,r,e,B,l⟩:=h;subst e;exact Reps.drop n l
theorem Reps.set:∀{ds:List D} {xs:List V} {d:D} {x:V} (j:Nat),Reps K H ex ds xs->Rep K H ex d x->Reps K H ex (ds.set j d) (xs.set j x)
 | [],_,_,_,_,h,_=>by rw[show _=[] from h];simp[Reps]|d::ds,_,_,_,0,h,q=>by obtain⟨x,r,e,B,l⟩:=h;subst e;exact⟨_,_,rfl,q,l⟩|d::ds,_,_,_,j+1,h,q=>by obtain⟨x,r,e,B,l⟩:=h;subst e;exact⟨x,_,rfl,B,Reps.set j l q⟩
theorem Reps.eraseIdx:∀{ds:List D} {xs:List V} (j:Nat),Reps K H ex ds xs->Reps K H ex (ds.eraseIdx j) (xs.eraseIdx j)
 | [],_,_,h=>by rw[show _=[] from h];simp[Reps]|d::ds,_,0,h=>by obtain⟨x,r,e,B,l⟩:=h;subst e;exact l|d::ds,_,j+1,h=>by obtain⟨x,r,e,B,l⟩:=h;subst e;exact⟨x,_,rfl,B,Reps.eraseIdx j l⟩
end
end Hp
namespace Hp
open PySem PySem.Spec PyProof.Rows L2
noncomputable def Kp(R:Addr->Prop)(H H':Hp):Prop:=∀a o,H a=some o->¬ R a->H' a=some o
noncomputable def RE{α:Type}:R α->(α->Prop)->Prop
 | .ok a,p=>p a|_,_=>False
theorem RE.mono{α:Type}{x:R α}{p q:α->Prop}(h:RE x p)(f:∀a,p a->q a):RE x q:=by
 cases x with
 | ok a=>exact f a h|exc e=>exact h|bad=>exact h
theorem RE.bind{α l:Type}{x:R α}{f:α->R l}{p:l->Prop}:RE (x >>= f) p=RE x λa=>RE (f a) p:=by cases x <;> rfl
theorem RE.iff{α:Type}{c:Bool}{x:R α}{p:α->Prop}(h:RE (R.iff c x) p):c=true/\RE x p:=by
 cases c with
 | true=>exact⟨rfl,h⟩|false=>exact h.elim
section
variable (K:Fg) (RT Y J:Addr->Prop)
noncomputable def exB(pa:Bool)(a:Addr):Prop:=Y a\/(pa=false/\J a)
noncomputable def Tk(H:Hp):Prop:=∀b,H b≠none->K.lookup b=none
noncomputable def Rws(H:Hp):List (List D)->List Addr->Prop
 | [],bs=>bs=[]
 | ds::dss,bs=>∃b r xs,bs=b::r/\H b=some (.lst xs)/\noLs ds=true/\Reps K H (λ_=>False) ds xs/\Rws H dss r
noncomputable def Pt(σ:Sg)(σV:L2.St)(p:Addr):Prop:=RT p/\¬ J p/\∀(k:Nat) (pa:Bool) (ds:List D),σ[k]? = some (.own pa ds)->σV[k]?≠some (some (.ref p))
structure Dx (σ:Sg) (σV:L2.St) (H:Hp):Prop where
 at2:∀(i:Nat) (dss:List (List D)),σ[i]? = some (.own2 dss)->∃a bs,σV[i]? = some (some (.ref a))/\H a=some (.lst (bs.map V.ref))/\(∀b∈a::bs,Pt RT J σ σV b)/\(a::bs).Nodup/\Rws K H dss bs
 one:∀(i j:Nat) (dss dss':List (List D)),σ[i]? = some (.own2 dss)->σ[j]? = some (.own2 dss')->i=j
noncomputable def RtO(H:Hp)(a:Addr):Prop:=∃xs,H a=some (.lst xs)
structure Sx (σ:Sg) (σV:L2.St) (H:Hp):Prop where
 sh:∀(i:Nat) (pa:Bool) (d:D),σ[i]? = some (.sh pa d)->∃v,σV[i]? = some (some v)/\Rep K H (λa=>RT a\/exB Y J pa a) d v
 own:∀(i:Nat) (pa:Bool) (ds:List D),σ[i]? = some (.own pa ds)->∃a xs,σV[i]? = some (some (.ref a))/\H a=some (.lst xs)/\RT a/\¬ J a/\Reps K H (λa=>RT a\/exB Y J pa a) ds xs
 trk:∀a,RT a\/Y a\/J a->H a≠none
 yo:∀a,Y a->J a
 tk:Tk K H
 rt:∀a,RT a->RtO H a
 inj:∀(i j:Nat) (pa pa':Bool) (ds ds':List D) (a:Addr),σ[i]? = some (.own pa ds)->σ[j]? = some (.own pa' ds')->σV[i]? = some (some (.ref a))->σV[j]? = some (some (.ref a))->i=j
 len:σ.length=σV.length
 dx:Dx K RT J σ σV H
noncomputable def alR(σ:Sg)(σV:L2.St)(al:List Nat)(a:Addr):Prop:=∃j∈al,(∃pa ds,σ[j]? = some (.own pa ds))/\σV[j]? = some (some (.ref a))
noncomputable def exV(σ:Sg)(σV:L2.St)(pa:Bool)(al:List Nat)(a:Addr):Prop:=(RT a/\¬ alR σ σV al a)\/exB Y J pa a
noncomputable def Rv(σ:Sg)(σV:L2.St)(H:Hp)(v:Vl)(u:V):Prop:=Rep K H (exV RT Y J σ σV v.pa v.al) v.d u
noncomputable def Ro(σ:Sg)(σV:L2.St)(H H':Hp)(v:Vl)(u:V):Prop:=
 aE H H'/\(if v.fr=true then ∃a xs ds,u=.ref a/\v.d=.lst ds/\H a=none/\H' a=some (.lst xs)/\Reps K H' (λb=>b=a\/exV RT Y J σ σV v.pa v.al b) ds xs
  else Rv K RT Y J σ σV H' v u)
noncomputable def Rvs(σ:Sg)(σV:L2.St)(H:Hp):List Vl->List V->Prop
 | [],us=>us=[]
 | v::vs,us=>∃u r,us=u::r/\Rv K RT Y J σ σV H v u/\Rvs σ σV H vs r
end
section
variable {K:Fg} {RT Y J:Addr->Prop} {σ:Sg} {σV:L2.St} {H H' H1 H2:Hp} {v:Vl} {u:V}
mutual
theorem Rep.noT{ex:Addr->Prop}(l:∀b ks,SqT K H b ks->SqT K H' b ks):∀(d:D) (v:V),noL d=true->Rep K H ex d v->Rep K H' ex d v
 | .non,_,_,h=>h|.bl _,_,_,h=>h|.int _,_,_,h=>h|.str _,_,_,h=>h|.tup ds,_,n,h=>by obtain⟨a,xs,e,q,r⟩:=h;exact⟨a,xs,e,l _ _ q,Reps.noT l ds xs (by simpa[noL] using n) r⟩|.lst ds,_,n,_=>by simp[noL] at n|.err _ _,_,n,_=>by simp[noL] at n
theorem Reps.noT{ex:Addr->Prop}(l:∀b ks,SqT K H b ks->SqT K H' b ks):∀(ds:List D) (xs:List V),noLs ds=true->Reps K H ex ds xs->Reps K H' ex ds xs
 | [],_,_,h=>h|d::ds,_,n,h=>by obtain⟨x,r,e,B,G⟩:=h;simp only[noLs,bA] at n;exact⟨x,r,e,Rep.noT l d x n.1 B,Reps.noT l ds r n.2 G⟩
end
theorem Rws.imp(B:∀b ks,SqT K H b ks->SqT K H' b ks):∀{dss:List (List D)} {bs:List Addr},Rws K H dss bs->(∀b∈bs,∀xs,H b=some (.lst xs)->H' b=some (.lst xs))->Rws K H' dss bs
 | [],_,h,_=>h|ds::dss,_,h,f=>by obtain⟨b,r,xs,rfl,G,l,I,L⟩:=h;exact⟨b,r,xs,rfl,f b Aj xs G,l,Reps.noT B ds xs l I,Rws.imp B L λc M=>f c (Ae _ M)⟩
theorem Rws.at:∀{dss:List (List D)} {bs:List Addr},Rws K H dss bs->∀b∈bs,∃xs,H b=some (.lst xs)
 | [],_,h,b,hb=>by rw[show _=[] from h] at hb;cases hb|ds::dss,_,h,b,hb=>by obtain⟨c,r,xs,rfl,l,G,I,B⟩:=h;rcases Ao.mp hb with z|z;exact⟨xs,by rw[z];exact l⟩;exact Rws.at B b z
theorem Dx.imp{I:Addr->Prop}{σ':Sg}{l:L2.St}(L:Dx K RT J σ σV H)(m:Nat->Nat)(hr:∀b ks,SqT K H b ks->SqT K H' b ks)
 (G:∀j dss,σ'[j]? = some (.own2 dss)->σ[m j]? = some (.own2 dss)/\l[j]? = σV[m j]?) (W:∀i j dss dss',σ'[i]? = some (.own2 dss)->σ'[j]? = some (.own2 dss')->m i=m j->i=j)
 (B:∀p xs,H p=some (.lst xs)->Pt RT J σ σV p->H' p=some (.lst xs)/\Pt I J σ' l p):Dx K I J σ' l H' where
 at2:=λi dss e=>by obtain⟨e1,e2⟩:=G i dss e;obtain⟨a,bs,h1,Z,M,hn,hw⟩:=L.at2 (m i) dss e1;obtain⟨U,_⟩:=B a _ Z (M a Aj);refine⟨a,bs,by rw[e2];exact h1,U,λb hb=>?_,hn,hw.imp hr λb hb xs e=>(B b xs e (M b (Ae _ hb))).1⟩;rcases Ao.mp hb with z|z;rw[z];exact(B a _ Z (M a Aj)).2;obtain⟨xs,e⟩:=hw.at b z;exact(B b xs e (M b hb)).2
 one:=λi j dss dss' q1 q2=>W i j dss dss' q1 q2 (L.one _ _ _ _ (G i dss q1).1 (G j dss' q2).1)
theorem RtO.grow{a:Addr}(h:RtO H a)(s:aE H H'):RtO H' a:=h.imp λxs e=>s _ _ e
theorem Sx.grow(S:Sx K RT Y J σ σV H)(s:aE H H')(t:Tk K H'):Sx K RT Y J σ σV H' where
 sh:=λi pa d e=>let ⟨v,h1,h2⟩:=S.sh i pa d e;⟨v,h1,h2.grow s⟩
 own:=λi pa ds e=>let ⟨a,xs,h1,h2,h3,h4,h5⟩:=S.own i pa ds e;⟨a,xs,h1,s _ _ h2,h3,h4,h5.grow s⟩
 trk:=λa h z=>S.trk a h (s.free z)
 yo:=S.yo
 tk:=t
 rt:=λa h=>(S.rt a h).grow s
 inj:=S.inj
 len:=S.len
 dx:=S.dx.imp id (λ_ _ r=>aE.seqT s r) (λ_ _ e=>⟨e,rfl⟩) (λ_ _ _ _ _ _ e=>e) λp xs e z=>⟨s _ _ e,z⟩
theorem exV.trk(S:Sx K RT Y J σ σV H){pa:Bool}{al:List Nat}{a:Addr}(h:exV RT Y J σ σV pa al a):H a≠none:=by
 rcases h with⟨h,_⟩|h|⟨_,h⟩
 exact S.trk a (.inl h);exact S.trk a (.inr (.inl h));exact S.trk a (.inr (.inr h))
theorem Ro.rv(S:Sx K RT Y J σ σV H)(h:Ro K RT Y J σ σV H H' v u):Rv K RT Y J σ σV H' v u:=by obtain⟨s,h⟩:=h;by_cases l:v.fr=true;rw[if_pos l] at h;obtain⟨a,xs,ds,B,G,I,L,r⟩:=h;unfold Rv;rw[G];exact⟨a,xs,B,SqL.of L,λz=>exV.trk S z I,r.weak λb z=>.inr z⟩;rw[if_neg l] at h;exact h
theorem Rv.grow(h:Rv K RT Y J σ σV H v u)(s:aE H H'):Rv K RT Y J σ σV H' v u:=Rep.grow h s
theorem Rvs.grow:∀{vs:List Vl} {us:List V},Rvs K RT Y J σ σV H vs us->aE H H'->Rvs K RT Y J σ σV H' vs us
 | [],_,h,_=>h|v::vs,_,h,s=>by obtain⟨u,r,e,l,B⟩:=h;exact⟨u,r,e,l.grow s,Rvs.grow B s⟩
theorem Ro.plain(s:aE H H')(l:v.fr=false)(h:Rv K RT Y J σ σV H' v u):Ro K RT Y J σ σV H H' v u:=⟨s,by rw[if_neg (by rw[l];decide)];exact h⟩
theorem Ro.from(h:Ro K RT Y J σ σV H1 H' v u)(s:aE H H1):Ro K RT Y J σ σV H H' v u:=by obtain⟨M,h⟩:=h;refine⟨s.trans M,?_⟩;by_cases l:v.fr=true;rw[if_pos l] at h ⊢;obtain⟨a,xs,ds,B,G,I,L,r⟩:=h;exact⟨a,xs,ds,B,G,s.free I,L,r⟩;rw[if_neg l] at h ⊢;exact h
theorem Ro.cl{d:D}(s:aE H H')(h:Rep K H' (exV RT Y J σ σV false []) d u):Ro K RT Y J σ σV H H' (.cl d) u:=Ro.plain s rfl h
theorem Rv.sub{d:D}{x:V}{ds:List D}{xs:List V}{j:Nat}(h:Rep K H (exV RT Y J σ σV v.pa v.al) d x):Rv K RT Y J σ σV H (v.sub d) x:=by unfold Rv Vl.sub;by_cases l:noL d=true;rw[if_pos l];exact Rep.free d x l h;rw[if_neg l];exact h
theorem alR.mono{al l:List Nat}{a:Addr}(h:alR σ σV al a)(s:∀j∈al,j∈l):alR σ σV l a:=by obtain⟨j,B,q⟩:=h;exact⟨j,s j B,q⟩
theorem exV.mono{pa pa':Bool}{al l:List Nat}{a:Addr}(h:exV RT Y J σ σV pa' l a)(I:pa=true->pa'=true)(s:∀j∈al,j∈l):exV RT Y J σ σV pa al a:=by
 rcases h with⟨B,G⟩|h|⟨B,G⟩
 exact .inl ⟨B,λz=>G (z.mono s)⟩;exact .inr (.inl h);refine .inr (.inr ⟨?_,G⟩);cases pa with
 | false=>rfl|true=>rw[I rfl] at B;cases B
theorem Rvs.length:∀{vs:List Vl} {us:List V},Rvs K RT Y J σ σV H vs us->vs.length=us.length
 | [],_,h=>by rw[show _=[] from h];rfl|v::vs,_,h=>by obtain⟨u,r,e,_,l⟩:=h;subst e;rw[lC,lC,Rvs.length l]
theorem jY{vs:List Vl}{v:Vl}(h:v∈vs):∀j∈v.al,j∈bI vs:=λj l=>HR.mpr ⟨v,h,l⟩
theorem sA{vs:List Vl}{v:Vl}(h:v∈vs)(l:v.pa=true):dW vs=true:=DX.mpr ⟨v,h,l⟩
theorem Rvs.reps:∀{vs:List Vl} {us:List V} {pa:Bool} {al:List Nat},Rvs K RT Y J σ σV H vs us->(∀v∈vs,(v.pa=true->pa=true)/\∀j∈v.al,j∈al) ->
 Reps K H (exV RT Y J σ σV pa al) (vs.map (·.d)) us
 | [],_,_,_,h,_=>h|v::vs,_,_,_,h,q=>by obtain⟨u,r,e,B,G⟩:=h;have l:=q v Aj;exact⟨u,r,e,Rep.weak B λa z=>z.mono l.1 l.2,Rvs.reps G λw I=>q w (Ae _ I)⟩
theorem Rvs.all{vs:List Vl}{us:List V}(h:Rvs K RT Y J σ σV H vs us):Reps K H (exV RT Y J σ σV (dW vs) (bI vs)) (vs.map (·.d)) us:=
 h.reps λv l=>⟨λz=>sA l z,jY l⟩
theorem Ro.fresh{p:Addr}{xs:List V}{ds:List D}(l:H p=none)(G:Tk K (upd H p (.lst xs)))(hd:v.d=.lst ds)(B:v.fr=true)(S:Sx K RT Y J σ σV H)(r:Reps K H (exV RT Y J σ σV v.pa v.al) ds xs) :
 Ro K RT Y J σ σV H (upd H p (.lst xs)) v (.ref p):=by
 have s:aE H (upd H p (.lst xs)):=λb o q=>by rw[aD (aN q l)];exact q
 refine⟨s,?_⟩;rw[if_pos B];refine⟨p,xs,ds,rfl,hd,l,aK,?_⟩;refine Reps.imp (λ_ _ q=>aE.seqT s q) (λa ys n q=>⟨λz=>?_,s.seq q⟩) (λ_ _ q=>s _ _ q) (λa o _ n q=>⟨λz=>z.elim (λz=>by rw[z,l] at q;cases q) n,s _ _ q⟩) ds xs r;rcases z with z|z;subst z;rcases q with(q|⟨o,q⟩)|⟨o,its,n',q,_⟩
 rw[l] at q;cases q;rw[l] at q;cases q;have z:=G a (by rw[aK];simp);rw[q] at z;cases z;exact n z
theorem aE.new{p:Addr}{o:HO}(l:H p=none):aE H (upd H p o):=λb u q=>by rw[aD (aN q l)];exact q
theorem Ro.tup{p:Addr}{xs:List V}{ds:List D}(l:H p=none)(hd:v.d=.tup ds)(B:v.fr=false)(r:Reps K H (exV RT Y J σ σV v.pa v.al) ds xs) :
 Ro K RT Y J σ σV H (upd H p (.tup xs)) v (.ref p):=by refine Ro.plain (aE.new l) B ?_;unfold Rv;rw[hd];exact⟨p,xs,rfl,SqT.of aK,r.grow (aE.new l)⟩
end
section
variable (X:Cx) (P:Pg) (W:Caller) (RT Y J:Addr->Prop)
noncomputable def wE(σ:Sg)(c:E):TE:=λσV H Q=>Sx X.K RT Y J σ σV H/\RE (ev P W σ c) λv=>∀u H',Tk X.K H'->Ro X.K RT Y J σ σV H H' v u->Q u H'
noncomputable def wT(σ:Sg)(c:E):TT:=λσV H Q=>Sx X.K RT Y J σ σV H/\RE (tst P W σ c) λk=>∀H',Tk X.K H'->aE H H'->Q k H'
noncomputable def wA(σ:Sg)(cs:Es):TA:=λσV H Q=>Sx X.K RT Y J σ σV H/\RE (evs P W σ cs) λvs=>∀us H',Tk X.K H'->aE H H'->Rvs X.K RT Y J σ σV H' vs us->Q us H'
end
section
variable {X:Cx} {P:Pg} {W:Caller} {RT Y J:Addr->Prop} {σ:Sg} {pos:CF}
theorem _root_.L2.Inv.tk{pins:List (Addr×Obj)}{σV:L2.St}{H:Hp}{s:Ad}(I:Inv X pins σV H s):Tk X.K H:=λb hb=>by
 cases q:X.K.lookup b with
 | none=>rfl|some o=>exact absurd (I.bs b o (I.ok.mod.kin b o q)).2 hb
theorem _root_.L2.PE.imp{e:Av}{t t':TE}(h:PE X e t)(f:∀σV H Q,Tk X.K H->t' σV H Q->t σV H λv H'=>Tk X.K H'->Q v H'):PE X e t':=λpins s σV H Q I B=>thn (h pins s σV H _ I (f σV H Q I.tk B)) λu G ⟨v,H',l,r,q⟩=>⟨v,H',l,r,q l.tk⟩
theorem _root_.L2.PT.imp{e:Av}{t t':TT}(h:PT X e t)(f:∀σV H Q,Tk X.K H->t' σV H Q->t σV H λv H'=>Tk X.K H'->Q v H'):PT X e t':=λpins s σV H Q I B=>thn (h pins s σV H _ I (f σV H Q I.tk B)) λk G ⟨H',l,q⟩=>⟨H',l,q l.tk⟩
theorem _root_.L2.PA.imp{es:List Av}{t t':TA}(h:PA X es t)(f:∀σV H Q,Tk X.K H->t' σV H Q->t σV H λv H'=>Tk X.K H'->Q v H'):PA X es t':=λpos pins s σV H Q I B=>thn (h pos pins s σV H _ I (f σV H Q I.tk B)) λu G ⟨v,H',l,r,q⟩=>⟨v,H',l,r,q l.tk⟩
theorem wE.two{a b:E}{σV:L2.St}{H:Hp}{p:Vl->Vl->Prop}{Q:V->V->Hp->Prop}(S:Sx X.K RT Y J σ σV H)(h:RE (ev P W σ a) λx=>RE (ev P W σ b) λy=>p x y)
 (f:∀x y B G l,p x y->Tk X.K l->aE H l->Sx X.K RT Y J σ σV l->Rv X.K RT Y J σ σV l x B->Rv X.K RT Y J σ σV l y G->Q B G l) :
 wE X P W RT Y J σ a σV H λB H1=>wE X P W RT Y J σ b σV H1 λG l=>Q B G l:=by refine⟨S,h.mono λx hx B H1 U I=>⟨S.grow I.1 U,hx.mono λy hy G l Z L=>?_⟩⟩;have M:=S.grow I.1 U;exact f x y B G l hy Z (I.1.trans L.1) (M.grow L.1 Z) ((I.rv S).grow L.1) (L.rv M)
theorem Ro.val{d:D}{u:V}{σV:L2.St}{H H':Hp}(s:aE H H')(h:∀ex,Rep X.K H' ex d u):Ro X.K RT Y J σ σV H H' (.cl d) u:=Ro.cl s (h _)
theorem s_c {d : D} {c : Const} {k : Nat} (h : eqC d c = true) : PE X (.Constant c k pos) (wE X P W RT Y J σ (.c d)) := by
 have key : ∀ {v : V}, (∀ (H : Hp) ex, Rep X.K H ex d v) -> PE X (.Constant c k pos) (tC v) -> PE X (.Constant c k pos) (wE X P W RT Y J σ (.c d)) := λ B l =>l.imp λ σV H Q t ⟨S, q⟩ t' => q _ H t' (Ro.val (aE.refl H) (B H));cases d with
 | non => cases c with|none => exact key (λ _ _ => rfl) aGl|_ => cases h
 | bl b => cases c with
  | bool b' => have e : b = b' := by simpa [eqC] using h
               subst e; exact key (λ _ _ => rfl) aIG
  | _ => cases h
 | int b => cases c with
  | int b' => have e : b = b' := by simpa [eqC] using h
              subst e; exact key (λ _ _ => rfl) aGk
  | _ => cases h
 | str b => cases c with
  | str b' => have e : b = b' := by simpa [eqC] using h
              subst e; exact key (λ _ _ => rfl) aGm
  | _ => cases h
 | _ => cases c <;> cases h
theorem s_v{i:Nat}{x:Str}(U:X.N[i]? = some x)(Z:Vis X.env.scope x)(hd:(x==("__debug__" : Str))=false)(G:(x==("__classdict__" : Str))=false) :
 PE X (.Name x pos) (wE X P W RT Y J σ (.v i)):=by
 refine(pT U Z hd G).imp λσV H Q t ⟨S,q⟩=>?_;have q:RE (bU σ i) _:=q;unfold bU at q;cases e:σ[i]? with
 | none=>rw[e] at q;exact q.elim|some sl=>
  rw[e] at q;cases sl with
  | dead=>exact q.elim|own2 _=>exact q.elim|sh pa d=>
   obtain⟨v,l,B⟩:=S.sh i pa d e;refine⟨v,l,λt'=>q v H t' (Ro.plain (aE.refl H) rfl ?_)⟩;unfold Rv;by_cases L:noL d=true;exact Rep.free d v L B;refine Rep.weak B λa z=>?_;rcases z with⟨z,_⟩|z|⟨z,z'⟩
   exact .inl z;exact .inr (.inl z);have:pa=false:=by simpa[L] using z
   exact .inr (.inr ⟨this,z'⟩)
  | own pa ds=>
   obtain⟨a,xs,l,B,h3,I,M⟩:=S.own i pa ds e;refine⟨.ref a,l,λt'=>q _ H t' (Ro.plain (aE.refl H) rfl ?_)⟩;unfold Rv;refine⟨a,xs,rfl,SqL.of B,λz=>?_,M.weak λb z=>?_⟩;rcases z with⟨_,z⟩|z|⟨_,z⟩
   exact z ⟨i,by simp,⟨pa,ds,e⟩,l⟩;exact I (S.yo a z);exact I z;rcases z with⟨z,_⟩|z;exact .inl z;exact .inr z
end
noncomputable def oG(prog:A0)(w:AH)(K:Fg)(a:Addr)(t:List (Str×D)):Prop:=(a==CH)=false/\∃vs:List (Key×Value),(∀h:Heap,K.In h->h.DictOf (eJ prog w) a vs) /\
 ∀k:Str,(t.lookup k=none/\FR vs (Cd k:Key)=none)\/∃d u v,t.lookup k=some d/\FR vs (Cd k:Key)=some u/\aP v u/\∀(H:Hp) (ex:Addr->Prop),Rep K H ex d v
section
variable {X:Cx} {RT Y J:Addr->Prop} {σ:Sg} {σV:L2.St} {H:Hp} {s:Ad} {pins:List (Addr×Obj)} {Q:VK} {ux uy:V} {vx vy:Value} {x y:Vl}
theorem _root_.L2.EP.tk{u:Value}{B:Ad}(h:EP X pins σV (λv H'=>Tk X.K H'->Q v H') u B):EP X pins σV Q u B:=by obtain⟨v,H',l,r,q⟩:=h;exact⟨v,H',l,r,q (Inv.tk l)⟩
abbrev Wn(X:Cx)(RT Y J:Addr->Prop)(σ:Sg)(σV:L2.St)(H:Hp)(Q:VK)(v:Vl):Prop:=∀u H',Tk X.K H'->Ro X.K RT Y J σ σV H H' v u->Q u H'
theorem Wn.val{d:D}{u:V}(w:Wn X RT Y J σ σV H Q (.cl d))(t:Tk X.K H)(h:∀ex,Rep X.K H ex d u):Q u H:=w u H t (Ro.cl (aE.refl H) (h _))
theorem Rv.int{i:Int}{u:V}(h:Rv X.K RT Y J σ σV H x u)(e:x.d=.int i):u=.int i:=by unfold Rv at h;rw[e] at h;exact h
theorem Rv.str{i:Str}{u:V}(h:Rv X.K RT Y J σ σV H x u)(e:x.d=.str i):u=.str i:=by unfold Rv at h;rw[e] at h;exact h
theorem Rv.bl{i:Bool}{u:V}(h:Rv X.K RT Y J σ σV H x u)(e:x.d=.bl i):u=.bl i:=by unfold Rv at h;rw[e] at h;exact h
theorem Rv.non{u:V}(h:Rv X.K RT Y J σ σV H x u)(e:x.d=.non):u=.non:=by unfold Rv at h;rw[e] at h;exact h
theorem Rv.tup{ds:List D}{u:V}(h:Rv X.K RT Y J σ σV H x u)(e:x.d=.tup ds):∃a xs,u=.ref a/\SqT X.K H a xs/\Reps X.K H (exV RT Y J σ σV x.pa x.al) ds xs:=by unfold Rv at h;rw[e] at h;exact h
theorem Rv.lst{ds:List D}{u:V}(h:Rv X.K RT Y J σ σV H x u)(e:x.d=.lst ds):∃a xs,u=.ref a/\SqL X.K H a xs/\¬ exV RT Y J σ σV x.pa x.al a/\Reps X.K H (exV RT Y J σ σV x.pa x.al) ds xs:=by unfold Rv at h;rw[e] at h;exact h
theorem aGV:lim<=sizeLine:=by unfold lim;rw[AS];decide
theorem lU{n:Nat}(h:n<=lim):n<=sizeLine:=AX h aGV
theorem dX{ds:List D}{xs:List V}{pa:Bool}{al:List Nat}{K:Fg}(r:Reps K H (exV RT Y J σ σV pa al) ds xs) :
 Reps K H (exV RT Y J σ σV (pa&&!noLs ds) (if noLs ds=true then [] else al)) ds xs:=by by_cases l:noLs ds=true;exact Reps.free ds xs l r;rw[if_neg l];refine r.weak λa z=>z.mono (λG=>?_) λj B=>B;rw[G];simp[l]
noncomputable def aJs(K:Fg):R2:=λx y H Q=>∃l b xs zs,x=.ref l/\y=.ref b/\SqL K H l xs/\SqL K H b zs/\xs.length+zs.length<=sizeLine/\∀p,H p=none->Q (.ref p) (upd H p (.lst (xs++zs)))
theorem aEg:OpR X (DH .Add) (aJs X.K):=by
 intro pins s σV H x y v u Q I rx ry h;obtain⟨l,b,xs,zs,rfl,rfl,hH,hB,hz,q⟩:=h;cases rx;cases ry;obtain⟨its,r,pl,z⟩:=I.list hH;obtain⟨B,r2,Z,z2⟩:=I.list hB;obtain⟨⟨cls,dd,data,sl⟩,ho,hc,n,hd⟩:=pl.isList;obtain⟨⟨q1,W,U,q0⟩,M,G,n2,L⟩:=Z.isList;simp only at hc hd G L;subst hc hd G L;have e:its.toArray++B.toArray=(its++B).toArray:=by simp
 have hl:=r.length;have q2:=r2.length;refine FN ⟨_,ho,rfl⟩ ⟨_,M,rfl⟩ noFill_list_add seq_list_add PySem.F.slot_list_add PySem.F.entry_list_add (PySem.F.args_list_add_2 _ _) (list_addW l b its.toArray B.toArray n n2 dd W sl q0 (by rw[Al,Al];omega)) ⟨ho,M,?_⟩;rw[e];exact⟨.ref _,_,I.lnew (t':=s.toks) (r.append r2) (by rw[lA];omega),rfl,q _ I.fresh⟩
noncomputable def aGW(K:Fg):R2:=λx y H Q=>∃a b xs ys,x=.ref a/\y=.ref b/\SqT K H a xs/\SqT K H b ys/\xs.length+ys.length<=sizeLine /\
 (xs=[]->Q (.ref b) H)/\(xs≠[]->ys=[]->Q (.ref a) H)/\(xs≠[]->ys≠[]->∀p,H p=none->Q (.ref p) (upd H p (.tup (xs++ys))))
theorem aBy:OpR X (DH .Add) (aGW X.K):=by
 intro pins s σ H x y v u Q I rx ry h;obtain⟨a,b,xs,ys,rfl,rfl,ha,hb,hz,q0,q1,q2⟩:=h;by_cases L:xs=[]
 cases rx;cases ry;obtain⟨its,r1,p1,_⟩:=I.tuple ha;obtain⟨M,r2,p2,_⟩:=I.tuple hb;obtain⟨⟨cls,dd,data,sl⟩,ho,hc,n,hd⟩:=id p1;obtain⟨⟨q3,W,U,Z⟩,G,l,n2,B⟩:=id p2;simp only at hc hd l B;subst hc hd l B;have hi:its=[]:=r1.nil_iff.mpr L;exact FN ⟨_,ho,rfl⟩ ⟨_,G,rfl⟩ F0 GK DI DE (D2 _ _)
  (tuple_addW0 a b its.toArray M.toArray n n2 dd W sl Z (by simp[hi])) ⟨ho,G,⟨.ref b,H,I,rfl,q0 L⟩⟩
 exact aEa pins s σ H _ _ v u Q I rx ry ⟨a,b,xs,ys,rfl,rfl,ha,hb,L,hz,q1 L,q2 L⟩
theorem aBz{o:Operator}(I:Inv X pins σV H s)(S:Sx X.K RT Y J σ σV H)(rx:aP ux vx)(ry:aP uy vy)(M:Rv X.K RT Y J σ σV H x ux)(U:Rv X.K RT Y J σ σV H y uy)
 (q3:x.fr=true->∃a xs,ux=.ref a/\H a=some (.lst xs)) (h:RE (opD o x y) (Wn X RT Y J σ σV H Q)):Ap (A2 X.prog X.w) X.A (DH o vx vy) (EP X pins σV Q) X.xe s:=by
 have t:=Inv.tk I;have go:∀{f:Value->Value->Ko Value} {r:R2},OpR X f r->(r ux uy H λv H'=>Tk X.K H'->Q v H')->Ap (A2 X.prog X.w) X.A (f vx vy) (EP X pins σV Q) X.xe s:=λhr q=>thn (hr pins s σV H ux uy vx vy _ I rx ry q) λu s' z=>EP.tk z;cases o with
 | Add=>have h:RE (aGQ x y) (Wn X RT Y J σ σV H Q):=h;unfold aGQ at h;split at h;rename_i i j l B;exact go aGy ⟨i,j,M.int l,U.int B,λ_=>h.val t λ_=>rfl⟩;rename_i as bs l B;obtain⟨c,h⟩:=h.iff;obtain⟨a,xs,e1,q1,W⟩:=M.tup l;obtain⟨b,ys,e2,q2,r2⟩:=U.tup B;have l1:=W.length;have l2:=r2.length;have c':=of_decide_eq_true c;have Z:Reps X.K H (exV RT Y J σ σV (x.pa||y.pa) (x.al++y.al)) as xs:=W.weak λa z=>z.mono (λG=>by rw[G];rfl) λj L=>AK _ L;have q0:Reps X.K H (exV RT Y J σ σV (x.pa||y.pa) (x.al++y.al)) bs ys:=r2.weak λa z=>z.mono (λG=>by rw[G,FS]) λj L=>AC _ L;refine go aBy ⟨a,b,xs,ys,e1,e2,q1,q2,lU (by omega),λz t'=>?_,λz z' t'=>?_,λz z' p G t'=>?_⟩;subst z;have:as=[]:=F3.mp (by simpa using l1);subst this;exact h _ _ t' (Ro.plain (aE.refl H) rfl ⟨b,ys,rfl,q2,q0⟩);subst z';have:bs=[]:=F3.mp (by simpa using l2);subst this;exact h _ _ t' (Ro.plain (aE.refl H) rfl ⟨a,xs,rfl,q1,by rw[BB];exact Z⟩);exact h _ _ t' (Ro.tup G rfl rfl (Z.append q0));rename_i as bs l B;obtain⟨c,h⟩:=h.iff;obtain⟨a,xs,e1,q1,_,W⟩:=M.lst l;obtain⟨b,ys,e2,q2,_,r2⟩:=U.lst B;have l1:=W.length;have l2:=r2.length;have c':=of_decide_eq_true c;refine go aEg ⟨a,b,xs,ys,e1,e2,q1,q2,lU (by omega),λp G t'=>h _ _ t' (Ro.fresh G t' rfl rfl S ?_)⟩;refine Reps.append ((dX W).weak λa z=>z.mono (λG=>?_) λj L=>AK _ L) ((dX r2).weak λa z=>z.mono (λG=>?_) λj L=>AC _ L);show(_||_)=true;rw[G];rfl;show(_||_)=true;rw[G,FS];exact h.elim|Mult=>have h:RE (aGR x y) (Wn X RT Y J σ σV H Q):=h;unfold aGR at h;split at h;rename_i i j l B;obtain⟨c,h⟩:=h.iff;refine go aGA ⟨i,j,M.int l,U.int B,?_,λ_=>Wn.val h t λ_=>rfl⟩;simp only[lK,BZ,bA,Bo] at c;exact c;exact h.elim|Sub=>dsimp only[opD,rR] at h;split at h;rename_i i j l B;exact go aGz ⟨i,j,M.int l,U.int B,λ_=>h.val t λ_=>rfl⟩;exact h.elim|FloorDiv=>dsimp only[opD,rR] at h;split at h;rename_i i j l B;obtain⟨c,h⟩:=h.iff;refine go aDM ⟨i,j,M.int l,U.int B,?_,λ_=>Wn.val h t λ_=>rfl⟩;simp only[wX,bA,Bo] at c;exact c;exact h.elim|Mod=>dsimp only[opD,rR] at h;split at h;rename_i i j l B;obtain⟨c,h⟩:=h.iff;exact go aGB ⟨i,j,M.int l,U.int B,of_decide_eq_true c,λ_=>Wn.val h t λ_=>rfl⟩;exact h.elim|_=>exact h.elim
end
end Hp
namespace Hp
open PySem PySem.Spec PyProof.Rows L2 PySem.SeqAt
noncomputable def fE(n:Nat)(ds es:List D)(j:Nat):Bool:=match ds[j]?,es[j]? with|some x,some y=>(eqF n x y).getD false|_,_=>false
theorem xG:∀{n:Nat} {ds es:List D} {k:Bool},dH n ds es=some k->∀{j:Nat} {x y:D},ds[j]? = some x->es[j]? = some y->∃b,eqF n x y=some b
 | n,[],es,k,h,j,x,y,e1,e2=>by simp at e1|n,d::ds,[],k,h,j,x,y,e1,e2=>by simp at e2|n,d::ds,e::es,k,h,j,x,y,e1,e2=>by
  rw[dH] at h;cases l:eqF n d e with
  | none=>rw[l] at h;simp at h|some b=>
   cases B:dH n ds es with
   | none=>rw[l,B] at h;simp at h|some G=>
    cases j with
    | zero=>simp at e1 e2;subst e1 e2;exact⟨b,l⟩|succ j=>exact xG B (by simpa using e1) (by simpa using e2)
theorem lV:∀{n:Nat} {ds es:List D} {k:Bool},dH n ds es=some k->k=((AD (min ds.length es.length)).all (fE n ds es)&&ds.length==es.length)
 | n,[],[],k,h=>by simp[dH] at h;simp[<-h]|n,[],e::es,k,h=>by simp[dH] at h;simp[<-h]|n,d::ds,[],k,h=>by simp[dH] at h;simp[<-h]|n,d::ds,e::es,k,h=>by
  rw[dH] at h;cases l:eqF n d e with
  | none=>rw[l] at h;simp at h|some b=>
   cases G:dH n ds es with
   | none=>rw[l,G] at h;simp at h|some I=>
    rw[l,G] at h;have M:(b&&I)=k:=Au h;have U:=lV G;have L:fE n (d::ds) (e::es) 0=b:=by simp[fE,l]
    have B:∀j,fE n (d::ds) (e::es) (j+1)=fE n ds es j:=λj=>by simp[fE]
    have hm:min (d::ds).length (e::es).length=min ds.length es.length+1:=by simp only[lC];omega
    rw[hm,List.range_succ_eq_map,Fq,L,List.all_map];have:(fE n (d::ds) (e::es))∘KU=fE n ds es:=funext λj=>B j;rw[this,<-M,U];simp[Bool.and_assoc]
section
variable {X:Cx} {σV:L2.St} {H:Hp} {s:Ad} {pins:List (Addr×Obj)}
theorem _root_.L2.Inv.lt_ne(I:L2.Inv X pins σV H s){a:Addr}{xs ys:List V}(B:SqL X.K H a xs)(G:SqT X.K H a ys):False:=by obtain⟨its,_,pl,_⟩:=I.list B;obtain⟨l,_,pt,_⟩:=I.tuple G;exact ne_of_list_tuple pl.isList (show s.heap.IsTuple a l.toArray from pt) rfl
mutual
theorem qK(I:L2.Inv X pins σV H s):∀(n:Nat) (d e:D) (u:V) (k:Bool) (ex l:Addr->Prop),Rep X.K H ex d u->Rep X.K H l e u->eqF n d e=some k->k=true
 | 0,d,e,u,k,_,_,_,_,h=>by simp[eqF] at h|n+1,.non,e,u,k,_,_,h1,h2,h=>by cases e <;> cases h|n+1,.bl b,e,u,k,_,_,h1,h2,h=>by cases e <;> cases h|n+1,.int b,e,u,k,_,_,h1,h2,h=>by
  rw[show u=.int b from h1] at h2;cases e with
  | int G=>cases(show V.int b=.int G from h2);simpa[eqF] using h.symm|_=>cases h
 | n+1,.str b,e,u,k,_,_,h1,h2,h=>by
  rw[show u=.str b from h1] at h2;cases e with
  | str G=>cases(show V.str b=.str G from h2);simpa[eqF] using h.symm|_=>cases h
 | n+1,.tup ds,e,u,k,ex,l,h1,h2,h=>by
  obtain⟨a,xs,z,q,r⟩:=h1;subst z;cases e with
  | tup es=>obtain⟨M,ys,z,L,B⟩:=h2;cases z;have:xs=ys:=I.tuple_inj q L;subst this;exact eqs_same I n ds es xs k ex l r B (by simpa[eqF] using h)|_=>cases h
 | n+1,.lst ds,e,u,k,ex,l,h1,h2,h=>by
  obtain⟨a,xs,z,q,_,r⟩:=h1;subst z;cases e with
  | lst es=>obtain⟨M,ys,z,L,_,B⟩:=h2;cases z;have:xs=ys:=I.list_inj q L;subst this;have hl:ds.length=es.length:=r.length.trans B.length.symm;exact eqs_same I n ds es xs k ex l r B (by simpa[eqF,hl] using h)|_=>cases h
 | n+1,.err _ _,e,u,k,ex,l,h1,h2,h=>by cases e <;> cases h
theorem eqs_same(I:L2.Inv X pins σV H s):∀(n:Nat) (ds es:List D) (us:List V) (k:Bool) (ex l:Addr->Prop),Reps X.K H ex ds us->Reps X.K H l es us->dH n ds es=some k->k=true
 | n,[],[],us,k,_,_,h1,h2,h=>by simpa[dH] using h.symm|n,[],e::es,us,k,_,_,h1,h2,h=>by obtain⟨x,r,z,_⟩:=h2;rw[show us=[] from h1] at z;cases z|n,d::ds,[],us,k,_,_,h1,h2,h=>by obtain⟨x,r,z,_⟩:=h1;rw[show us=[] from h2] at z;cases z|n,d::ds,e::es,us,k,ex,l,h1,h2,h=>by
  obtain⟨x,r,z,M,Z⟩:=h1;obtain⟨x',r',L,U,b2⟩:=h2;rw[z] at L;cases L;rw[dH] at h;cases B:eqF n d e with
  | none=>rw[B] at h;simp at h|some b=>
   cases G:dH n ds es with
   | none=>rw[B,G] at h;simp at h|some W=>rw[B,G] at h;have e1:=qK I n d e x b ex l M U B;have e2:=eqs_same I n ds es r W ex l Z b2 G;subst e1 e2;simpa using h.symm
end
noncomputable def Eq3(A:AV)(s:Ad)(v z:Value)(k:Bool):Prop:=EqAt A s v z k/\RcAt A s v z k/\RcNeAt A s v z (!k)
theorem xH{xs:List V}{us:List Value}(r:aM xs us){j:Nat}(h:j<us.toArray.size):∃x,xs[j]? = some x/\aP x us.toArray[j]:=by
 have hl:=r.length;have l:j<xs.length:=by rw[Al] at h;omega
 obtain⟨u,e,q⟩:=r.get (Ac l);refine⟨xs[j],Ac l,?_⟩;have:us.toArray[j]=u:=by
  have B:us[j]? = some us.toArray[j]:=by simp[Ac (show j<us.length by simpa using h)]
  rw[B] at e;exact Au e
 rw[this];exact q
theorem oH(A:AV):A.in1.units=A.units+1:=rfl
theorem xI(I:L2.Inv X pins σV H s):∀(n:Nat) (A:AV) (d e:D) (u w:V) (v z:Value) (k:Bool) (ex G:Addr->Prop),A.units+n<cLine->Rep X.K H ex d u->Rep X.K H G e w->aP u v->aP w z->eqF n d e=some k->Eq3 A s v z k:=by
 intro n
 induction n with
 | zero=>intro A d e u w v z k ex G _ _ _ _ _ h;simp[eqF] at h|succ n ih=>
  intro A d e u w v z k ex G hA h1 h2 r1 r2 h;have hu:A.units<cLine:=by omega
  have items:∀{ds es:List D} {xs ys:List V} {its l:List Value} {k:Bool},Reps X.K H ex ds xs->Reps X.K H G es ys->aM xs its->aM ys l->dH n ds es=some k ->
   ∀j (_:j<its.toArray.size) (_:j<l.toArray.size),EqAt A.in1 s its.toArray[j] l.toArray[j] (fE n ds es j):=by
   intro ds es xs ys its l k q1 q2 v1 v2 hk j q6 q7;obtain⟨x,q4,rx⟩:=xH v1 q6;obtain⟨y,q5,ry⟩:=xH v2 q7;obtain⟨d',ed,rd⟩:=q1.get' q4;obtain⟨e',ee,re⟩:=q2.get' q5;obtain⟨b,hb⟩:=xG hk ed ee;have hj:fE n ds es j=b:=by simp[fE,ed,ee,hb]
   rw[hj];exact(ih A.in1 d' e' x y _ _ b ex G (by rw[oH];omega) rd re rx ry hb).1
  cases d with
  | err _ _=>cases e <;> cases h|non=>cases e <;> cases h|bl a=>cases e <;> cases h|int a=>
   rw[show u=.int a from h1] at r1;obtain⟨t1,rfl⟩:=r1;cases e with
   | int b=>rw[show w=.int b from h2] at r2;obtain⟨t,rfl⟩:=r2;simp only[eqF,CB] at h;subst h;exact⟨EqAt.int_int _ _ _ _,RcAt.int_int _ _ _ _,RcNeAt.int_int _ _ _ _⟩|_=>cases h
  | str a=>
   rw[show u=.str a from h1] at r1;obtain⟨t1,rfl⟩:=r1;cases e with
   | str b=>rw[show w=.str b from h2] at r2;obtain⟨t,rfl⟩:=r2;simp only[eqF,CB] at h;subst h;exact⟨EqAt.str_str _ _ _ _,RcAt.str_str _ _ _ _,RcNeAt.str_str _ _ _ _⟩|_=>cases h
  | tup ds=>
   have q0:=h1;obtain⟨a,xs,rfl,q1,M⟩:=h1;cases r1;obtain⟨B,v1,p1,_⟩:=I.tuple q1;have L:s.heap.IsTuple a B.toArray:=p1;cases e with
   | tup es=>
    have q3:=h2;obtain⟨b,ys,rfl,q2,U⟩:=h2;cases r2;obtain⟨l,v2,p2,_⟩:=I.tuple q2;have hk:dH n ds es=some k:=by simpa[eqF] using h
    have hv:=lV hk;have l1:B.toArray.size=ds.length:=by rw[Al,<-v1.length,M.length]
    have l2:l.toArray.size=es.length:=by rw[Al,<-v2.length,U.length]
    have rc:RcAt A s (.ref a) (.ref b) k:=by rw[hv,<-l1,<-l2];exact RcAt.tuples L (show s.heap.IsTuple b l.toArray from p2) hu (items M U v1 v2 hk)
    have rn:RcNeAt A s (.ref a) (.ref b) (!k):=by rw[hv,<-l1,<-l2];exact RcNeAt.tuples L (show s.heap.IsTuple b l.toArray from p2) hu (items M U v1 v2 hk)
    refine⟨?_,rc,rn⟩;by_cases Z:a=b;subst Z;have:=qK I (n+1) (.tup ds) (.tup es) (.ref a) k ex G q0 q3 h;subst this;exact EqAt.same _;exact EqAt.of_refs Z rc
   | _=>cases h
  | lst ds=>
   have q0:=h1;obtain⟨a,xs,rfl,q1,_,M⟩:=h1;cases r1;obtain⟨B,v1,p1,_⟩:=I.list q1;have L:=p1.isList;cases e with
   | lst es=>
    have q3:=h2;obtain⟨b,ys,rfl,q2,_,U⟩:=h2;cases r2;obtain⟨l,v2,p2,_⟩:=I.list q2;have l1:B.toArray.size=ds.length:=by rw[Al,<-v1.length,M.length]
    have l2:l.toArray.size=es.length:=by rw[Al,<-v2.length,U.length]
    have W:RcAt A s (.ref a) (.ref b) k/\RcNeAt A s (.ref a) (.ref b) (!k):=by
     by_cases hl:ds.length=es.length;have hk:dH n ds es=some k:=by simpa[eqF,hl] using h
     have hv:=lV hk;rw[<-hl,Nat.min_self,beq_self_eq_true,Ft,<-l1] at hv;rw[hv];exact⟨RcAt.lists L p2.isList (by rw[l1,l2,hl]) hu (items M U v1 v2 hk),RcNeAt.lists L p2.isList (by rw[l1,l2,hl]) hu (items M U v1 v2 hk)⟩;have hk:k=false:=by simpa[eqF,hl] using h.symm
     subst hk;have hz:(B.toArray.size != l.toArray.size)=true:=by rw[l1,l2];simpa using hl
     exact⟨RcAt.lists_lengths L p2.isList hz hu,RcNeAt.lists_lengths L p2.isList hz hu⟩
    refine⟨?_,W.1,W.2⟩;by_cases Z:a=b;subst Z;have:=qK I (n+1) (.lst ds) (.lst es) (.ref a) k ex G q0 q3 h;subst this;exact EqAt.same _;exact EqAt.of_refs Z W.1
   | _=>cases h
mutual
theorem xJ(I:L2.Inv X pins σV H s):∀(d e:D) (u:V) (ex G:Addr->Prop),Rep X.K H ex d u->Rep X.K H G e u->eU d=true->eU e=true->d=e
 | .non,e,u,_,_,B,l,_,_=>by
  rw[show u=.non from B] at l;cases e with
  | non=>rfl|err _ _=>obtain⟨_,_,z,_⟩:=fT l;cases z|_=>first|(obtain⟨a,xs,z,_⟩:=l;cases z)|exact l.elim|(injection l)
 | .bl b,e,u,_,_,B,l,_,_=>by
  rw[show u=.bl b from B] at l;cases e with
  | bl M=>cases(show V.bl b=.bl M from l);rfl|err _ _=>obtain⟨_,_,z,_⟩:=fT l;cases z|_=>first|(obtain⟨a,xs,z,_⟩:=l;cases z)|exact l.elim|(injection l)
 | .int b,e,u,_,_,B,l,_,_=>by
  rw[show u=.int b from B] at l;cases e with
  | int M=>cases(show V.int b=.int M from l);rfl|err _ _=>obtain⟨_,_,z,_⟩:=fT l;cases z|_=>first|(obtain⟨a,xs,z,_⟩:=l;cases z)|exact l.elim|(injection l)
 | .str b,e,u,_,_,B,l,_,_=>by
  rw[show u=.str b from B] at l;cases e with
  | str M=>cases(show V.str b=.str M from l);rfl|err _ _=>obtain⟨_,_,z,_⟩:=fT l;cases z|_=>first|(obtain⟨a,xs,z,_⟩:=l;cases z)|exact l.elim|(injection l)
 | .tup ds,e,u,ex,G,B,l,U,W=>by
  obtain⟨a,xs,z,q,r⟩:=B;subst z;cases e with
  | tup es=>obtain⟨a',ys,z,L,Z⟩:=l;cases z;have:xs=ys:=I.tuple_inj q L;subst this;rw[reps_inj I ds es xs ex G r Z (by simpa[eU] using U) (by simpa[eU] using W)]|lst es=>obtain⟨a',ys,z,L,_,Z⟩:=l;cases z;exact(I.lt_ne L q).elim|err _ _=>simp[eU] at W|_=>injection l
 | .lst ds,e,u,ex,G,B,l,U,W=>by
  obtain⟨a,xs,z,q,_,r⟩:=B;subst z;cases e with
  | lst es=>obtain⟨a',ys,z,L,_,Z⟩:=l;cases z;have:xs=ys:=I.list_inj q L;subst this;rw[reps_inj I ds es xs ex G r Z (by simpa[eU] using U) (by simpa[eU] using W)]|tup es=>obtain⟨a',ys,z,L,Z⟩:=l;cases z;exact(I.lt_ne q L).elim|err _ _=>simp[eU] at W|_=>injection l
 | .err _ _,e,u,_,_,B,_,U,_=>by simp[eU] at U
theorem reps_inj(I:L2.Inv X pins σV H s):∀(ds es:List D) (us:List V) (ex l:Addr->Prop),Reps X.K H ex ds us->Reps X.K H l es us->noDics ds=true->noDics es=true->ds=es
 | [],[],_,_,_,_,_,_,_=>rfl|[],e::es,us,_,_,h1,h2,_,_=>by obtain⟨x,r,z,_⟩:=h2;rw[show us=[] from h1] at z;cases z|d::ds,[],us,_,_,h1,h2,_,_=>by obtain⟨x,r,z,_⟩:=h1;rw[show us=[] from h2] at z;cases z|d::ds,e::es,us,ex,l,h1,h2,n1,n2=>by obtain⟨x,r,z,G,M⟩:=h1;obtain⟨Z,W,B,L,U⟩:=h2;rw[z] at B;cases B;simp only[noDics,bA] at n1 n2;rw[xJ I d e x ex l G L n1.1 n2.1,reps_inj I ds es r ex l M U n1.2 n2.2]
end
theorem fF:∀{ds:List D} {ns:List Int} {xs:List V} {ex:Addr->Prop},aU ds=some ns->Reps X.K H ex ds xs->xs=ns.map V.int
 | [],ns,xs,ex,h,r=>by simp[aU] at h;subst h;exact r|.int a::ds,ns,xs,ex,h,r=>by
  obtain⟨x,I,z,l,B⟩:=r;rw[aU] at h;cases q:aU ds with
  | none=>rw[q] at h;cases h|some G=>rw[q] at h;cases h;rw[z,show x=.int a from l,fF q B];rfl
 | .non::ds,ns,xs,ex,h,r=>by simp[aU] at h|.bl _::ds,ns,xs,ex,h,r=>by simp[aU] at h|.str _::ds,ns,xs,ex,h,r=>by simp[aU] at h|.tup _::ds,ns,xs,ex,h,r=>by simp[aU] at h|.lst _::ds,ns,xs,ex,h,r=>by simp[aU] at h|.err _ _::ds,ns,xs,ex,h,r=>by simp[aU] at h
theorem xK:∀{x:D} {ys:List D} {k:Bool},nN x ys=some k->(∀y∈ys,∃b,eqD y x=some b)/\(k=true↔∃y∈ys,eqD y x=some true)
 | x,[],k,h=>by simp[nN] at h;subst h;simp|x,y::ys,k,h=>by
  rw[nN] at h;cases l:eqD y x with
  | none=>rw[l] at h;simp at h|some a=>
   cases G:nN x ys with
   | none=>rw[l,G] at h;simp at h|some b=>rw[l,G] at h;have I:(a||b)=k:=Au h;obtain⟨i1,i2⟩:=xK G;refine⟨λz hz=>?_,?_⟩;rcases Ao.mp hz with e|e;subst e;exact⟨a,l⟩;exact i1 z e;rw[<-I,BZ,i2];constructor;rintro (e|⟨z,hz,e⟩);exact⟨y,Aj,by rw[l,e]⟩;exact⟨z,Ae _ hz,e⟩;rintro ⟨z,hz,e⟩;rcases Ao.mp hz with B|B;subst B;rw[l] at e;exact .inl (Au e);exact .inr ⟨z,B,e⟩
theorem gW:∀{ds:List D} {d:D},noDics ds=true->d∈ds->eU d=true
 | d'::ds,d,h,hm=>by simp only[noDics,bA] at h;rcases Ao.mp hm with e|e;subst e;exact h.1;exact gW h.2 e
open Classical in
theorem oI(I:L2.Inv X pins σV H s){A:AV}(hA:A.units+iM+1<cLine){x:D}{ux:V}{W:Value}{ex l:Addr->Prop}{ys:List D}{xs:List V}{its:List Value}{k:Bool}
 (hx:Rep X.K H ex x ux) (rx:aP ux W) (r:Reps X.K H l ys xs) (v:aM xs its) (hn:noDics ys=true) (h:nN x ys=some k) :
 ∃e:Value->Bool,(∀y,y∈its.toArray->EqAt A.in1 s y W (e y))/\its.toArray.any e=k:=by
 obtain⟨h1,h2⟩:=xK h;have Z:∀y∈its,∃u d,aP u y/\Rep X.K H l d u/\d∈ys:=λy B=>by
  obtain⟨j,U⟩:=CC B;have hl:=v.length;have L:j<xs.length:=by have:=(Ai.mp U).1;omega
  obtain⟨u',e',q⟩:=v.get (Ac L);rw[U] at e';cases e';obtain⟨d,hd,M⟩:=r.get' (Ac L);exact⟨_,d,q,M,mG hd⟩
 refine⟨λy=>decide (∃u d,aP u y/\Rep X.K H l d u/\d∈ys/\eqD d x=some true),λy B=>?_,?_⟩;obtain⟨u,d,q,M,hd⟩:=Z y (by simpa using B);obtain⟨b,hb⟩:=h1 d hd;have q1:(decide (∃u d,aP u y/\Rep X.K H l d u/\d∈ys/\eqD d x=some true))=b:=by
  cases b with
  | true=>exact AR ⟨u,d,q,M,hd,hb⟩|false=>refine Be ?_;rintro ⟨u',d',q',q3,q0,G⟩;have e1:u'=u:=q'.inj q;subst e1;have n1:=gW hn hd;have n2:=gW hn q0;have e2:d=d':=xJ I d d' u' l l M q3 n1 n2;subst e2;rw[hb] at G;cases G
 show EqAt A.in1 s y W (decide (∃u d,aP u y/\Rep X.K H l d u/\d∈ys/\eqD d x=some true));rw[q1];exact(xI I iM A.in1 d x u ux y W b l ex (by rw[oH];omega) M hx q rx hb).1;rw[Ga,h2];constructor;intro q;have q':its.any (λy=>decide (∃u d,aP u y/\Rep X.K H l d u/\d∈ys/\eqD d x=some true))=true:=by simpa using q
 obtain⟨y,B,q2⟩:=DX.mp q';obtain⟨u,d,_,_,hd,e⟩:=of_decide_eq_true q2;exact⟨d,hd,e⟩;rintro ⟨d,hd,e⟩;have:its.any (λy=>decide (∃u d,aP u y/\Rep X.K H l d u/\d∈ys/\eqD d x=some true))=true:=by obtain⟨j,U⟩:=CC hd;obtain⟨u,hu,ru⟩:=r.get U;obtain⟨y,B,q⟩:=v.get hu;exact DX.mpr ⟨y,mG B,AR ⟨u,d,q,ru,hd,e⟩⟩
 simpa using this
end
section
variable {X:Cx} {RT Y J:Addr->Prop} {σ:Sg} {σV:L2.St} {H:Hp} {s:Ad} {pins:List (Addr×Obj)} {Q:VK} {ux uy:V} {vx vy:Value} {x y:Vl}
theorem zV{o:CmpOp}{k:Bool}{U:L2.St}(I:L2.Inv X pins σV H s)(hA:X.A.units+200<cLine)(rx:aP ux vx)(ry:aP uy vy)(l:Rv X.K RT Y J σ U H x ux)(M:Rv X.K RT Y J σ U H y uy)
 (h:bL o x.d y.d=some k) (q:Q (.bl k) H):Ap (A2 X.prog X.w) X.A (C9 o vx vy) (EP X pins σV Q) X.xe s:=by
 have hu:X.A.units<cLine:=by omega
 have L:EP X pins σV Q (.bool k) s:=⟨.bl k,H,I,rfl,q⟩
 have hD:iM=120:=rfl;have go:∀{f:Value->Value->Ko Value} {r:R2},OpR X f r->r ux uy H Q->Ap (A2 X.prog X.w) X.A (f vx vy) (EP X pins σV Q) X.xe s:=λhr q=>hr pins s σV H ux uy vx vy Q I rx ry q;have e3:∀{b:Bool},eqD x.d y.d=some b->Eq3 X.A s vx vy b:=λ{b} hb=>xI I iM X.A x.d y.d ux uy vx vy b _ _ (by omega) l M rx ry hb;cases o with
 | Eq=>exact(e3 h).2.1 X.prog X.w X.xe _ L|NotEq=>simp only[bL,A1] at h;obtain⟨b,hb,e⟩:=h;subst e;exact(e3 hb).2.2 X.prog X.w X.xe _ L|Lt=>simp only[bL] at h;unfold ltD at h;split at h;rename_i a b B G;exact go aIW ⟨a,b,l.int B,M.int G,by show Q (.bl (decide (a<b))) H;rw[Au h];exact q⟩;cases h|Gt=>simp only[bL] at h;split at h;rename_i a b B G;exact go aIY ⟨a,b,l.int B,M.int G,by show Q (.bl (decide (b<a))) H;rw[Au h];exact q⟩;cases h|LtE=>simp only[bL] at h;unfold leD at h;split at h;rename_i a b B G;exact go aIX ⟨a,b,l.int B,M.int G,by show Q (.bl (decide (a<=b))) H;rw[Au h];exact q⟩;cases h|GtE=>cases h|Is=>
  simp only[bL] at h;split at h;rename_i G;refine go aGD ⟨M.non G,?_⟩;have:decide (ux=V.non)=k:=by
   rw[<-Au h];unfold isNone;split;rename_i B;rw[l.non B];simp;rename_i B;refine Be λz=>?_;rw[z] at l;unfold Rv at l;cases Z:x.d with
   | non=>exact B Z|err _ _=>rw[Z] at l;obtain⟨_,_,z',_⟩:=fT l;cases z'|_=>rw[Z] at l;first|(obtain⟨a,xs,z',_⟩:=l;cases z')|exact l.elim|injection l
  rw[this];exact q;cases h
 | IsNot=>
  simp only[bL] at h;split at h;rename_i G;refine go aDN ⟨M.non G,?_⟩;have:(!decide (ux=V.non))=k:=by
   rw[<-Au h];unfold isNone;split;rename_i B;rw[l.non B];simp;rename_i B;rw[Be λz=>?_];rw[z] at l;unfold Rv at l;cases Z:x.d with
   | non=>exact B Z|err _ _=>rw[Z] at l;obtain⟨_,_,z',_⟩:=fT l;cases z'|_=>rw[Z] at l;first|(obtain⟨a,xs,z',_⟩:=l;cases z')|exact l.elim|injection l
  rw[this];exact q;cases h
 | In=>simp only[bL] at h;unfold inD at h;split at h;rename_i ys G;by_cases W:noDics ys=true;rw[if_pos W] at h;obtain⟨b,xs,e2,p2,_,r2⟩:=M.lst G;subst e2;cases ry;obtain⟨its,v2,t2,_⟩:=I.list p2;obtain⟨e,he,hk⟩:=oI I (A:=X.A) (by omega) l rx r2 v2 W h;exact in_listAt e t2.isList he (by rw[hk];exact L);rw[if_neg W] at h;cases h;cases h|NotIn=>simp only[bL,A1] at h;obtain⟨k',h,ek⟩:=h;subst ek;unfold inD at h;split at h;rename_i ys G;by_cases W:noDics ys=true;rw[if_pos W] at h;obtain⟨b,xs,e2,p2,_,r2⟩:=M.lst G;subst e2;cases ry;obtain⟨its,v2,t2,_⟩:=I.list p2;obtain⟨e,he,hk⟩:=oI I (A:=X.A) (by omega) l rx r2 v2 W h;exact notIn_listAt e t2.isList he (by rw[hk];exact L);rw[if_neg W] at h;cases h;cases h
end
end Hp
namespace Hp
open PySem PySem.Spec PyProof.Rows L2
section
variable {X:Cx} {RT Y J:Addr->Prop} {σ:Sg} {σV:L2.St} {H:Hp} {s:Ad} {pins:List (Addr×Obj)} {Q:VK} {ux uy:V} {vx vy:Value} {x y:Vl}
theorem lW(n:Nat)(k:Int):Hp.ixN n k=L2.ixN n k:=rfl
theorem Rv.ofSub{d:D}{u:V}(h:Rep X.K H (exV RT Y J σ σV x.pa x.al) d u):Ro X.K RT Y J σ σV H H (x.sub d) u:=by refine Ro.plain (aE.refl H) ?_ (Rv.sub (ds:=[]) (xs:=[]) (j:=0) h);unfold Vl.sub Vl.cl;split <;> rfl
theorem zW(t:Tk X.K H)(L:Rv X.K RT Y J σ σV H x ux)(M:Rv X.K RT Y J σ σV H y uy)(h:RE (nO x y) (Wn X RT Y J σ σV H Q)):rIx X.K ux uy H (λv H'=>Tk X.K H'->Q v H'):=by
 unfold nO at h;split at h;rename_i ds k B G;obtain⟨a,xs,e,q,_,r⟩:=L.lst B;cases l:Hp.ixN ds.length k with
 | none=>rw[l] at h;exact h.elim|some j=>
  rw[l] at h;cases hd:ds[j]? with
  | none=>simp only[hd] at h;exact h.elim|some d=>simp only[hd] at h;obtain⟨v,I,rv⟩:=r.get hd;refine .inl ⟨a,xs,k,v,e,M.int G,q,?_,λt'=>h v H t' (Rv.ofSub rv)⟩;unfold atI;rw[<-r.length,<-lW,l];exact I
 rename_i ds k B G;obtain⟨a,xs,e,q,r⟩:=L.tup B;cases l:Hp.ixN ds.length k with
 | none=>rw[l] at h;exact h.elim|some j=>
  rw[l] at h;cases hd:ds[j]? with
  | none=>simp only[hd] at h;exact h.elim|some d=>simp only[hd] at h;obtain⟨v,I,rv⟩:=r.get hd;refine .inr (.inl ⟨a,xs,k,v,e,M.int G,q,?_,λt'=>h v H t' (Rv.ofSub rv)⟩);unfold atI;rw[<-r.length,<-lW,l];exact I
 rename_i z k B G;obtain⟨c,h⟩:=h.iff;have U:=of_decide_eq_true c;cases l:Hp.ixN z.length k with
 | none=>rw[l] at h;exact h.elim|some j=>
  rw[l] at h;cases hd:z.cps.toList[j]? with
  | none=>simp only[hd] at h;exact h.elim|some c=>
   simp only[hd] at h;refine .inr (.inr ⟨z,k,c,L.str B,M.int G,lU U,?_,λt'=>Wn.val h t' λ_=>rfl⟩);unfold atI;have hl:z.cps.toList.length=z.length:=by simp[Ks]
   rw[hl,<-lW,l];exact hd
 exact h.elim
theorem qL(n d:Nat)(o:Option Int):Hp.sIx n d o=HT.sIx n d o:=by cases o <;> rfl
theorem sB{K:Fg}{ex:Addr->Prop}{ds:List D}{xs:List V}(r:Reps K H ex ds xs)(lo hi:Option Int):Reps K H ex (cut ds lo hi) (rP xs lo hi):=by unfold cut rP;rw[qL,qL,r.length];exact(r.drop _).take _
theorem aGX:SlR X (λx lo hi H Q=>aBl X.K x lo hi H Q\/aBi X.K x lo hi H Q):=aEb.or aGI
theorem zX{lo hi:Option Int}(S:Sx X.K RT Y J σ σV H)(t:Tk X.K H)(G:Rv X.K RT Y J σ σV H x ux)(h:RE (gO x lo hi) (Wn X RT Y J σ σV H Q)) :
 aBl X.K ux lo hi H (λv H'=>Tk X.K H'->Q v H')\/aBi X.K ux lo hi H (λv H'=>Tk X.K H'->Q v H'):=by unfold gO at h;split at h;rename_i ds l;obtain⟨a,xs,e,q,_,r⟩:=G.lst l;refine .inl ⟨a,xs,e,q,λp B t'=>h _ _ t' (Ro.fresh B t' rfl rfl S ?_)⟩;exact sB (dX r) lo hi;rename_i ds l;obtain⟨a,xs,e,q,r⟩:=G.tup l;obtain⟨c,h⟩:=h.iff;have c:=of_decide_eq_true c;rw[qL,qL,r.length] at c;exact .inr ⟨a,xs,e,q,c,λp B t'=>h _ _ t' (Ro.tup B rfl rfl (sB (dX r) lo hi))⟩;exact h.elim
theorem iO:∀{ds:List D} {bs:List Bool} {xs:List V} {ex:Addr->Prop},bO ds=some bs->Reps X.K H ex ds xs->xs=bs.map V.bl
 | [],bs,xs,ex,h,r=>by simp[bO] at h;subst h;exact r|.bl a::ds,bs,xs,ex,h,r=>by
  obtain⟨x,I,z,l,B⟩:=r;rw[bO] at h;cases q:bO ds with
  | none=>rw[q] at h;cases h|some G=>rw[q] at h;cases h;rw[z,show x=.bl a from l,iO q B];rfl
 | .non::ds,ns,xs,ex,h,r=>by simp[bO] at h|.int _::ds,ns,xs,ex,h,r=>by simp[bO] at h|.str _::ds,ns,xs,ex,h,r=>by simp[bO] at h|.tup _::ds,ns,xs,ex,h,r=>by simp[bO] at h|.lst _::ds,ns,xs,ex,h,r=>by simp[bO] at h|.err _ _::ds,ns,xs,ex,h,r=>by simp[bO] at h
theorem zY:∀{bs:List Bool} {us:List Value},aM (bs.map V.bl) us->us=bs.map DA:=by
 intro bs
 induction bs with
 | nil=>intro us r;rw[mN] at r;cases r;rfl|cons b bs l=>
  intro us r;rw[mC] at r;cases r with
  | cons B G=>rw[show _=DA b from B,l G];rfl
theorem vB(bs:List Bool):((AD bs.length).all λi=>(bs[i]?).getD true)=bs.all id:=by rw[Ga];simp only[A9,AQ,id];constructor;intro h b hb;obtain⟨i,hi⟩:=CC hb;have:=h i (Ai.mp hi).1;rw[hi] at this;simpa using this;intro h i hi;have e:=Ac hi;rw[e];exact h _ (Bt hi)
theorem zZ(W:X.calm=true):eE X (.builtin "all") (λxs H Q=>∃(p:Addr) (bs:List Bool),xs=[.ref p]/\SqL X.K H p (bs.map V.bl)/\Q (.bl (bs.all id)) H):=by
 intro pins s σ H xs us Q I r h;obtain⟨p,bs,rfl,hq,q⟩:=h;obtain⟨u,rfl,rx⟩:=lG r;cases rx;obtain⟨its,rv,pl,hz⟩:=I.list hq;have G:=zY rv;subst G;have hl:=pl.isList;have L:p<s.heap.objs.size:=pl.lt;refine call_all_walk (Dg hl ?_);refine⟨s.heap.objs.size,[s.heap.objs.size,p],[s.heap.objs.size],(bs.map DA).toArray.size,_,_,λi=>(bs[i]?).getD true,rfl,Kv (A:=X.A.in1) (I.ok.hd W) _ p (Az L) _,
  ⟨⟨_,Aq _ rfl,rfl,rfl⟩,hl.push _⟩,λi v s' Q' E' U M=>?_,λh' tk Z=>?_⟩
 have l:bs[i]?.map DA=some v:=by simpa using U
 cases e:bs[i]? with
 | none=>rw[e] at l;cases l|some b=>rw[e] at l;cases l;simp only[e,HS] at M;exact BU M
 have e:((AD (bs.map DA).toArray.size).all λi=>(bs[i]?).getD true)=bs.all id:=by rw[Al,lM];exact vB bs
 rw[e];refine⟨.bl _,H,I.kept (t':=tk) λb o B=>Z b o ?_ (Ab _ B),rfl,q⟩;intro hm;rw[A3.mp hm] at B;exact AN _ (Am B)
noncomputable def rBi(X:Cx)(b:Bi):List V->Hp->VK->Prop:=match b with|.len=>λxs H Q=>(∃p ys,xs=[.ref p]/\(SqL X.K H p ys\/SqT X.K H p ys)/\Q (.int ys.length) H)\/∃z,xs=[.str z]/\z.length<=sizeLine/\Q (.int z.length) H|.list=>λxs H Q=>∃p ys,xs=[.ref p]/\(SqL X.K H p ys\/SqT X.K H p ys)/\∀l,H l=none->Q (.ref l) (upd H l (.lst ys))|.tuple=>λxs H Q=>∃p ys,xs=[.ref p]/\((SqL X.K H p ys/\∀l,H l=none->Q (.ref l) (upd H l (.tup ys)))\/(SqT X.K H p ys/\Q (.ref p) H))|.int=>λxs H Q=>(∃i,xs=[.int i]/\Q (.int i) H)\/∃k,xs=[.bl k]/\Q (.int (if k then 1 else 0)) H|.all=>λxs H Q=>∃(p:Addr) (bs:List Bool),xs=[.ref p]/\SqL X.K H p (bs.map V.bl)/\Q (.bl (bs.all id)) H
noncomputable def aFI:Bi->Value
 | .len=>.builtin "len" | .list=>.type "list" | .tuple=>.type "tuple" | .int=>.type "int" | .all=>.builtin "all"
theorem aEh(l:X.calm=true)(B:X.A.guards=some [])(G:X.A.units+200<cLine)(b:Bi):eE X (aFI b) (rBi X b):=by
 cases b with
 | len=>exact qD.or qF|list=>exact qG|tuple=>exact nM|int=>exact zL|all=>exact zZ l
theorem aBA{b:Bi}(S:Sx X.K RT Y J σ σV H){vs:List Vl}{us:List V}(M:Rvs X.K RT Y J σ σV H vs us)(h:RE (biD b vs) (Wn X RT Y J σ σV H Q)) :
 rBi X b us H (λv H'=>Tk X.K H'->Q v H'):=by
 unfold biD at h;split at h;rename_i x;obtain⟨u,r,e,B,L⟩:=M;rw[show r=[] from L] at e;subst e;cases b with
 | len=>dsimp only[zT] at h;split at h;rename_i ds l;obtain⟨a,xs,e,q,_,r⟩:=B.lst l;exact .inl ⟨a,xs,by rw[e],.inl q,λt'=>by rw[<-r.length];exact Wn.val h t' λ_=>rfl⟩;rename_i ds l;obtain⟨a,xs,e,q,r⟩:=B.tup l;exact .inl ⟨a,xs,by rw[e],.inr q,λt'=>by rw[<-r.length];exact Wn.val h t' λ_=>rfl⟩;rename_i z l;obtain⟨c,h⟩:=h.iff;exact .inr ⟨z,by rw[B.str l],lU (of_decide_eq_true c),λt'=>Wn.val h t' λ_=>rfl⟩;exact h.elim|list=>dsimp only[zT] at h;split at h;rename_i ds l;obtain⟨a,xs,e,q,_,r⟩:=B.lst l;exact⟨a,xs,by rw[e],.inl q,λp G t'=>h _ _ t' (Ro.fresh G t' rfl rfl S (dX r))⟩;rename_i ds l;obtain⟨a,xs,e,q,r⟩:=B.tup l;exact⟨a,xs,by rw[e],.inr q,λp G t'=>h _ _ t' (Ro.fresh G t' rfl rfl S (dX r))⟩;exact h.elim|tuple=>dsimp only[zT] at h;split at h;rename_i ds l;obtain⟨a,xs,e,q,_,r⟩:=B.lst l;exact⟨a,xs,by rw[e],.inl ⟨q,λp G t'=>h _ _ t' (Ro.tup G rfl rfl (dX r))⟩⟩;rename_i ds l;obtain⟨a,xs,e,q,r⟩:=B.tup l;exact⟨a,xs,by rw[e],.inr ⟨q,λt'=>h _ _ t' (Ro.plain (aE.refl H) rfl ⟨a,xs,rfl,q,r⟩)⟩⟩;exact h.elim|int=>dsimp only[zT] at h;split at h;rename_i i l;exact .inl ⟨i,by rw[B.int l],λt'=>Wn.val h t' λ_=>rfl⟩;rename_i k l;exact .inr ⟨k,by rw[B.bl l],λt'=>Wn.val h t' λ_=>rfl⟩;exact h.elim|all=>dsimp only[zT] at h;split at h;rename_i ds l;obtain⟨a,xs,e,q,_,r⟩:=B.lst l;split at h;rename_i bs I;rw[iO I r] at q;exact⟨a,bs,by rw[e],q,λt'=>Wn.val h t' λ_=>rfl⟩;exact h.elim;exact h.elim
 exact h.elim
noncomputable def oJ:Cl->Option Value
 | .tInt=>some (.type "int")|.tBool=>some (.type "bool")|.tStr=>some (.type "str")|.tList=>some (.type "list")|.tTuple=>some (.type "tuple")|.tDict=>some (.type "dict")
 | _=>none
noncomputable def tyD:D->Option String
 | .non=>some "NoneType" | .bl _=>some "bool" | .int _=>some "int" | .str _=>some "str" | .tup _=>some "tuple" | .lst _=>some "list" | .err _ _=>none
theorem fU(K:Fg)(P:Pg){c:Cl}{G:Value}{d:D}{k:Bool}{T:String}(l:oJ c=some G)(B:tyD d=some T)(h:isI [c] P d=some k):CP K (.type T) G=some k:=by
 cases c with
 | own c=>cases l|tValueError=>cases l|tInt=>cases l;cases d <;> cases B <;> simp[isI] at h <;> subst h <;> kernel_rfl|tBool=>cases l;cases d <;> cases B <;> simp[isI] at h <;> subst h <;> kernel_rfl|tStr=>cases l;cases d <;> cases B <;> simp[isI] at h <;> subst h <;> kernel_rfl|tList=>cases l;cases d <;> cases B <;> simp[isI] at h <;> subst h <;> kernel_rfl|tTuple=>cases l;cases d <;> cases B <;> simp[isI] at h <;> subst h <;> kernel_rfl|tDict=>cases l;cases d <;> cases B <;> simp[isI] at h <;> subst h <;> kernel_rfl
theorem aBB(K:Fg)(P:Pg){c:Cl}{l:Value}{m:Nat}{r:List D}{k:Bool}(B:oJ c=some l)(h:isI [c] P (.err m (.non::r))=some k):CP K (.type "dict") l=some k:=by have h:some ([c].contains Cl.tDict)=some k:=h;cases h;cases c <;> cases B <;> kernel_rfl
theorem aAa(P:Pg){c:Cl}{Z:Value}{k:Bool}(I:L2.Inv X pins σV H s)(B:aP ux vx)(G:Rv X.K RT Y J σ σV H x ux)(L:oJ c=some Z)(h:isI [c] P x.d=some k)(q:Q (.bl k) H) :
 Ap (A2 X.prog X.w) X.A (IQ (.builtin "isinstance") [vx,Z]) (EP X pins σV Q) X.xe s:=by
 have l:∀tk,EP X pins σV Q (.bool k) { s with toks:=tk }:=λtk=>⟨.bl k,H,I.tok tk,rfl,q⟩
 cases d:x.d with
 | non=>have e:=fU X.K P L (by rw[d];rfl) h;rw[G.non d] at B;cases B;exact Cq PySem.W.kitx_none I.kIn Dl e (λz=>nomatch z) l|bl b=>have e:=fU X.K P L (by rw[d];rfl) h;rw[G.bl d] at B;cases B;exact Cq PySem.W.kitx_bool I.kIn Dl e (λz=>nomatch z) l|int i=>have e:=fU X.K P L (by rw[d];rfl) h;rw[G.int d] at B;obtain⟨t,rfl⟩:=B;exact Cq PySem.W.kitx_int I.kIn Dl e (λz=>nomatch z) l|str z=>have e:=fU X.K P L (by rw[d];rfl) h;rw[G.str d] at B;obtain⟨t,rfl⟩:=B;exact Cq PySem.W.kitx_str I.kIn Dl e (λz=>nomatch z) l|tup ds=>have e:=fU X.K P L (by rw[d];rfl) h;obtain⟨a,xs,M,p,_⟩:=G.tup d;subst M;cases B;obtain⟨its,_,t,_⟩:=I.tuple p;obtain⟨o,U,W,_⟩:=t;exact Cq PySem.W.kitx_tuple I.kIn ⟨o,U,W⟩ e (λz=>nomatch z) l|lst ds=>have e:=fU X.K P L (by rw[d];rfl) h;obtain⟨a,xs,M,p,_⟩:=G.lst d;subst M;cases B;obtain⟨its,_,t,_⟩:=I.list p;obtain⟨o,n,U,W,_⟩:=t;exact Cq PySem.W.kitx_list I.kIn ⟨o,U,W⟩ e (λz=>nomatch z) l|err _ ls=>
  rw[d] at h;rcases ls with _|⟨a,r⟩
  cases h;cases a with
  | non=>
   have e:=aBB X.K P L h;unfold Rv at G;rw[d] at G;obtain⟨a,xs,M,p,_⟩:=G;subst M;cases B;obtain⟨⟨_,_,o,es,ep,U,W,_⟩,_⟩:=(show bQ X.prog X.w H s.heap a (cZ a xs) from I.hok a _ p)
   exact Cq PySem.W.kitx_dict I.kIn ⟨o,U,W.1⟩ e (λz=>nomatch z) l
  | _=>cases h
end
end Hp
namespace L2
open PySem PySem.Spec PyProof.Rows
noncomputable def gE(cells:List (Str×Addr)):List (Str×Cm)->List (Str×Addr)->List (Str×Addr)
 | [],acc=>acc|(n,k)::r,acc=>if k==.free then gE cells r ((n,(cells.lookup n).getD 0)::acc) else gE cells r acc
theorem clos_mem{cells:List (Str×Addr)}:∀{names:List (Str×Cm)} {acc:List (Str×Addr)} {p:Str×Addr},p∈gE cells names acc->p∈acc\/((p.1,AY)∈names/\p.2=(cells.lookup p.1).getD 0)
 | [],_,_,h=>.inl h|(n,k)::r,acc,p,h=>by unfold gE at h;by_cases l:(k==AY)=true;rw[if_pos l] at h;rcases clos_mem h with q|q;rcases Ao.mp q with q|q;subst q;have:k=.free:=eq_of_beq l;subst this;exact .inr ⟨Aj,rfl⟩;exact .inl q;exact .inr ⟨Ae _ q.1,q.2⟩;rw[if_neg l] at h;rcases clos_mem h with q|q;exact .inl q;exact .inr ⟨Ae _ q.1,q.2⟩
theorem lX{cells:List (Str×Addr)}:∀{names:List (Str×Cm)} {acc:List (Str×Addr)} {p:Str×Addr},p∈acc->p∈gE cells names acc
 | [],_,_,h=>h|(n,k)::r,acc,p,h=>by unfold gE;by_cases l:(k==AY)=true;rw[if_pos l];exact lX (Ae _ h);rw[if_neg l];exact lX h
theorem iP{cells:List (Str×Addr)}:∀{names:List (Str×Cm)} {acc:List (Str×Addr)} {n:Str},(n,AY)∈names->(n,(cells.lookup n).getD 0)∈gE cells names acc
 | [],_,_,h=>by simp at h|(m,k)::r,acc,n,h=>by unfold gE;rcases Ao.mp h with q|q;cases q;rw[if_pos (by rfl:(AY==AY)=true)];exact lX Aj;by_cases l:(k==AY)=true;rw[if_pos l];exact iP q;rw[if_neg l];exact iP q
theorem dD{α:Type}:∀{l:List (Str×α)} {x:Str} {a:α},(x,a)∈l->∃b,l.lookup x=some b
 | (y,b)::r,x,a,h=>by
  rw[F4];cases B:x==y with
  | true=>exact⟨b,rfl⟩|false=>rcases Ao.mp h with q|q;cases q;simp at B;exact dD q
theorem bM{cells:List (Str×Addr)}{names:List (Str×Cm)}(B:∀n,(n,AY)∈names->∃c,cells.lookup n=some c){x:Str}{c:Addr}(h:(gE cells names []).lookup x=some c):cells.lookup x=some c:=by
 rcases clos_mem (B0 h) with q|⟨G,l⟩
 simp at q;obtain⟨I,e⟩:=B x G;simp only at l;rw[e] at l;rw[e,l];rfl
theorem eW{scope:Da}{env:GG}(L:∀n,(n,AY)∈scope.names->∃c,env.cells.lookup n=some c):closureFor scope env=pure (gE env.cells scope.names []):=by
 have go:∀(l:List (Str×Cm)) (acc:List (Str×Addr)),(∀n,(n,AY)∈l->∃c,env.cells.lookup n=some c) ->
  (forIn l acc (λ(x:Str×Cm) (r:List (Str×Addr))=>(match x with|(name,kind)=>if (kind==AY)=true then do let __do_lift<-cellOf env name;pure (Db ((name,__do_lift)::r)) else pure (Db r):Ko (ForInStep (List (Str×Addr))))))=(pure (gE env.cells l acc):Ko (List (Str×Addr))):=by
  intro l
  induction l with
  | nil=>intro acc _;rfl|cons p r G=>
   intro acc hl;obtain⟨n,k⟩:=p;rw[Gb];unfold gE;by_cases B:(k==AY)=true;have:k=.free:=eq_of_beq B;subst this;obtain⟨c,e⟩:=hl n Aj;have I:cellOf env n=pure c:=by unfold cellOf;rw[e]
   simp only[beq_self_eq_true,if_true,I];rw[e];exact G _ λm hm=>hl m (Ae _ hm);simp only[B,if_false];exact G _ λm hm=>hl m (Ae _ hm)
 unfold closureFor;exact(bind_pure _).trans (go scope.names [] L)
section
variable {prog:A0} {w:AH} {A:AV} {R:GS->Ad->Prop} {s:Ad}
theorem fG{elt l W:Av}{q3:List Av}{scope:Da}{pos:CF}{it acc:Value}{env:GG}(I:Nat->Ad->Prop)
 (q7:∀n s,I n s->Ap (A2 prog w) A (Dd it) (λr B=>match r with
  | none=>R (.ok .next) B|some v=>Ap (A2 prog w) A (Ep l it v) (λ_ G=>Ap (A2 prog w) A (FJ l env v) (λ_ Z=>
   Ap (A2 prog w) A (forIn q3 true λc r=>if r=true then do let ok<-isTrue c env (Cc c env);pure (Db ok) else pure (Db r)) (λok L=>
    if ok=true then Ap (A2 prog w) A (Cc elt env) (λx q0=>
     Ap (A2 prog w) A (call (.builtin "list.append") [acc,x]) (λ_ q1=>∃m,m<n/\I m q1) (λ_ _=>False) q0) (λ_ _=>False) L
    else ∃m,m<n/\I m L) (λ_ _=>False) Z) (λ_ _=>False) G) (λ_ _=>False) B) (λ_ _=>False) s)
 (n:Nat) (h:I n s) :
 Dh (A2 prog w) A (.compLoop (.ListComp elt [⟨l,W,q3,0⟩] scope pos) 0 it acc env) R s:=by
 refine codeAny_loop rfl I (λn s hI=>?_) n h;show Ap _ A ((compTurn (.ListComp elt [⟨l,W,q3,0⟩] scope pos) 0 it acc env).onRaise (λx=>do G6 x env;theTreesLotGoes x)) _ _ s;refine wpAny_noted ?_;rw[compTurn_list];refine Aa (GH (Aa (Cy (q7 n s hI) (λr B M=>?_) λ_ _ h'=>h'.elim)));cases r with
 | none=>exact Af M|some v=>
  refine Aa (Cy M (λ_ G q2=>?_) λ_ _ h'=>h'.elim);refine Aa (Cy q2 (λ_ Z q4=>Aa (Cy q4 (λok L U=>?_) λ_ _ h'=>h'.elim)) λ_ _ h'=>h'.elim);cases ok with
  | false=>exact Af ⟨rfl,U⟩|true=>exact Aa (Aa (Cy U (λx q0 q5=>Aa (Cy q5 (λ_ q1 q6=>Af (Af ⟨rfl,q6⟩)) λ_ _ h'=>h'.elim)) λ_ _ h'=>h'.elim))
end
noncomputable def bX(X:Cx)(scope:Da)(N':List Str)(C:Addr)(s₀:Ad)(H₀:Hp)(ex:List Addr):Cx:=
 { X with env:=Ka scope (gE X.env.cells scope.names []) C X.env,N:=N',s₀:=s₀,H₀:=H₀,outer:=X.stack,ex:=ex,fn:=λ_=>false,pn:=[],xe:=λ_ _=>False }
noncomputable def PTs(X:Cx)(ifs:List Av)(t:TT):Prop:=
 ∀(pins:List (Addr×Obj)) (s:Ad) (σ:St) (H:Hp) (Q:Bool->Hp->Prop),Inv X pins σ H s->t σ H Q ->
  Ap (A2 X.prog X.w) X.A (forIn ifs true λc r=>if r=true then do let ok<-isTrue c X.env (Cc c X.env);pure (Db ok) else pure (Db r)) (TP X pins σ Q) X.xe s
theorem aEi{X:Cx}:PTs X [] (λ_ H Q=>Q true H):=λpins s σ H Q I h=>Af ⟨H,I,h⟩
theorem aEj{X:Cx}{c:Av}{t:TT}(h:PT X c t):PTs X [c] t:=λpins s σ H Q I l=>wpAny_tests_one (h pins s σ H Q I l)
structure bT (X:Cx) (scope:Da) (k:Nat) (caps:List Nat) (N':List Str):Prop where
 kind:scope.kind=.function
 nocell:∀y∈scope.names,y.2≠.cell
 loc:∀y∈scope.names,y.2=.local->scope.names.lookup y.1=some .local
 free:∀n,(n,AY)∈scope.names->X.env.kindOf n=some .cell\/X.env.kindOf n=some .free
 len:N'.length=k+caps.length
 cap:∀j i,caps[j]? = some i->∃x,N'[k+j]? = some x/\X.N[i]? = some x/\scope.names.lookup x=some .free/\X.env.kindOf x=some .cell
 ndp:X.N.Nodup
noncomputable def gX(k:Nat)(caps:List Nat)(σ:St):St:=Ag k none++caps.map λi=>(σ[i]?).getD none
noncomputable def aBC(k:Nat)(caps:List Nat)(wi:TI)(g:TG)(tt:TT)(te:TE):TE:=λσ H Q=>wi σ H λJ'' H1=>
 ∃W0:Nat->Nat->List V->St->Hp->Prop,(∃m,W0 0 m [] (gX k caps σ) H1)/\∀i m ys σ1 H,W0 i m ys σ1 H ->
  (J''.stop i H/\ys.length<=sizeLine/\∀p,H p=none->Q (.ref p) (upd H p (.lst ys))) \/
  (J''.go i H/\ys.length<sizeLine/\∀x H',J''.yld i H x H'->g x σ1 H' λσ2 H2=>tt σ2 H2 λb H3=>
   if b=true then te σ2 H3 λy H4=>∃m',m'<m/\W0 (i+1) m' (ys++[y]) σ2 H4 else ∃m',m'<m/\W0 (i+1) m' ys σ2 H3)
theorem HOk.track{P:A0}{w:AH}{H:Hp}{h:Heap}{a:Addr}{o:HO}(ok:HOk P w H h)(n:H a=none)(new:bQ P w (upd H a o) h a o):HOk P w (upd H a o) h:=λb u e=>by by_cases hb:b=a;subst hb;rw[aK] at e;cases e;exact new;rw[aD hb] at e;exact(ok b u e).stay (λ_ _ _ q=>q) (λc q=>by rw[aD (aN q n)];exact q) λc xs q=>by rw[aD (aN q n)];exact q
abbrev cF(its:List Value)(n:Nat):Obj:={ cls:=.type "list",data:=.seq its.toArray n }
section
variable {X:Cx} {scope:Da} {k:Nat} {caps:List Nat} {N':List Str} {pins:List (Addr×Obj)} {σ:St} {H:Hp} {s:Ad} {fp:List Addr}
theorem Inv.cellLt(I:Inv X pins σ H s){x:Str}{c:Addr}(e:X.env.cells.lookup x=some c):c<s.heap.objs.size:=by obtain⟨v,q⟩:=I.cell x c e;exact q.lt
theorem dY:∀{l:List (Str×Cm)} {x:Str} {k:Cm},l.lookup x=some k->(x,k)∈l:=λh=>B0 h
theorem relabel_lookup{env:GG}:∀{names:List (Str×Cm)} {x:Str} {k:Cm},
 (names.map λ(n,k)=>if (k==AY&&env.scope.kind==.function&&env.kindOf n==some .cell) then (n,NameKind.cell) else (n,k)).lookup x=some k ->
 (k=.cell/\names.lookup x=some .free/\env.kindOf x=some .cell)\/names.lookup x=some k
 | [],_,_,h=>by simp at h|(n,k')::r,x,k,h=>by
  have G:=@relabel_lookup env r x k;rw[mC] at h;by_cases l:(k'==AY&&env.scope.kind==.function&&env.kindOf n==some .cell)=true;simp only[l,if_true,F4] at h ⊢;cases B:x==n with
  | true=>rw[B] at h;simp only at h ⊢;simp only[bA] at l;have I:k'=.free:=eq_of_beq l.1.1;have L:env.kindOf n=some .cell:=eq_of_beq l.2;have M:x=n:=eq_of_beq B;subst M;cases h;exact .inl ⟨rfl,by rw[I],L⟩|false=>rw[B] at h;exact G h
  simp only[Bool.not_eq_true] at l;simp only[l,if_false,F4,bF] at h ⊢;cases B:x==n with
  | true=>rw[B] at h;exact .inr h|false=>rw[B] at h;exact G h
theorem aMo(B:bT X scope k caps N')(I:Inv X pins σ H s)(f:∀b∈fp,iI X pins H b)(Z:∀b∈fp,b<s.heap.objs.size) :
 (bX X scope N' (s.heap.objs.size+1) { s with heap:=s.heap.push (cF [] 0) } H (s.heap.objs.size::fp)).Ok:=by
 have G:∀n,(n,AY)∈scope.names->∃c,X.env.cells.lookup n=some c:=λn hn=>I.ok.has n (B.free n hn);have M:∀b o,s.heap.get? b=some o->(s.heap.push (cF [] 0)).get? b=some o:=λb o e=>Ab _ e;have l:∀b∈frs X.stack,∃o,s.heap.get? b=some o:=λb hb=>by obtain⟨_,o,ho,_⟩:=I.stack.mem hb;exact⟨o,ho⟩
 refine⟨I.ok.mod,?_,I.ok.glob,I.ok.blt,?_,λx y c U W=>?_,λx hx=>?_,λx c h _=>?_,I.ok.hd,I.ok.frames,.inl rfl,λb hb=>?_,λb o e=>?_,?_,λb o e hb=>?_,λb hb=>?_,?_,I.stkFree⟩;exact B.kind;show(s.heap.push (cF [] 0)).objs.size<=s.heap.objs.size+1;rw[Bf];exact As _;exact I.ok.inj x y c (bM G U) (bM G W);have fr:(x,AY)∈scope.names:=by rcases hx with q|q;rcases relabel_lookup q with⟨_,z,_⟩|z;exact dY z;exact absurd rfl (B.nocell _ (dY z));rcases relabel_lookup q with⟨z,_⟩|z;cases z;exact dY z
 obtain⟨c,e⟩:=dD (iP (cells:=X.env.cells) (acc:=[]) fr);exact⟨c,e⟩;cases(show false=true from h);refine⟨?_,λx c e=>?_⟩;show b≠s.heap.objs.size+1;rcases Ao.mp hb with z|z;rw[z];exact Az (Bz _);exact Az (BH (Z b z));have L:=bM G e;rcases Ao.mp hb with z|z;rw[z];exact Az (I.cellLt L);exact(f b z).2.2.2.2.1 x c L;exact⟨M b o (I.bs b o e).1,(I.bs b o e).2⟩;show X.base.objs.size<=(s.heap.push (cF [] 0)).objs.size;rw[Bf];exact DN (AX I.ok.bsz I.sz);have lt:=Am e;rcases Ao.mp hb with z|z;subst z;exact absurd (A8 lt (AX I.ok.bsz I.sz)) (AN _);rcases(f b z).2.2.2.1 with q|q;exact I.ok.noex b o e q;exact absurd (A8 lt (AX I.ok.bsz q)) (AN _);show b∉frs X.stack;intro hs;rcases Ao.mp hb with z|z;subst z;obtain⟨o,e⟩:=l _ hs;exact absurd (Am e) (AN _);rcases Ao.mp (I.stkSub b hs) with q|q;exact(f b z).2.1 q;exact(f b z).2.2.1 q;exact I.stack.of_keeps λb o e _=>⟨o,M b o e,rfl⟩
theorem aBD(G:bT X scope k caps N'){j:Nat}{v:V}(h:(gX k caps σ)[j]? = some (some v)):∃B i,j=k+B/\caps[B]? = some i/\σ[i]? = some (some v):=by
 unfold gX at h;by_cases l:j<k;rw[Aw (by simpa using l),A7] at h;split at h <;> cases h;rw[Ax (by simpa using l),A4,Ak] at h;cases e:caps[j-k]? with
 | none=>rw[e] at h;cases h|some i=>
  rw[e] at h;have h':(σ[i]?).getD none=some v:=Au h;refine⟨j-k,i,by omega,e,?_⟩;cases q:σ[i]? with
  | none=>rw[q] at h';cases h'|some z=>rw[q] at h';exact congrArg some h'
theorem aJt(G:bT X scope k caps N')(I:Inv X pins σ H s)(f:∀b∈fp,iI X pins H b)(hf:∀b∈fp,b<s.heap.objs.size){l:Heap}{tk:Nat}
 (Z:l.Ns (s.heap.objs.size+1) λ_=>none) (hk:∀b o,(s.heap.push (cF [] 0)).get? b=some o->l.get? b=some o) :
 Inv (bX X scope N' (s.heap.objs.size+1) { s with heap:=s.heap.push (cF [] 0) } H (s.heap.objs.size::fp)) [] (gX k caps σ) H { s with heap:=l,toks:=tk }:=by
 have W:∀n,(n,AY)∈scope.names->∃c,X.env.cells.lookup n=some c:=λn hn=>I.ok.has n (G.free n hn);have ge:∀b o,s.heap.get? b=some o->l.get? b=some o:=λb o e=>hk b o (Ab _ e);have B:∀{c:Addr} {v:Option Value},s.heap.IsCell c v->l.IsCell c v:=λ{c v} ⟨o,e,d⟩=>⟨o,ge _ _ e,d⟩
 refine⟨aMo G I f hf,rfl,I.bare,Un.kept hk,⟨_,Z,λj x v e1 e2 e3=>?_⟩,λx c e=>?_,?_,λx c e=>?_,λp hp=>absurd (show p∈([]:List (Addr×Obj)) from hp) (by simp),I.hok.kept ge,?_⟩;obtain⟨j',i,ej,ec,es⟩:=aBD G e2;obtain⟨y,h1,h2,h3,h4⟩:=G.cap j' i ec;have L:N'[j]? = some x:=e1;rw[ej,h1] at L;have ey:y=x:=Au L;subst ey;obtain⟨m,hn,hl⟩:=I.loc;obtain⟨u,ru,lk⟩:=hl i y v h2 es (.inr (.inl h4));rcases lk with⟨k1,_⟩|⟨_,c,U,hc⟩
 rw[h4] at k1;cases k1;refine⟨u,ru,.inr ⟨?_,c,?_,B hc⟩⟩;have M:Vis (IA scope X.env) y:=e3;rcases M with z|z|z;rcases relabel_lookup z with⟨z,_⟩|z;cases z;rw[h3] at z;cases z;exact .inl z;exact .inr z;obtain⟨c',e⟩:=dD (iP (cells:=X.env.cells) (acc:=[]) (dY h3));have e':=bM W e;rw[U] at e';cases e';exact e;obtain⟨v,q⟩:=I.cell x c (bM W e);exact⟨v,B q⟩;exact I.hok.fresh (CW _);exact I.freeC x c (bM W e);show(gX k caps σ).length=N'.length;unfold gX;rw[lA,A4,lM,G.len]
theorem sC{tg W elt:Av}{q4:List Av}{pos:CF}{g:TG}{tt:TT}{te:TE}{it:Addr}{tn:Nat->Heap->Prop}{J'':It}{RR:Value->Addr->GS->Ad->Prop}{E:Value->Ad->Prop}{Q:VK}
 (CS:bT X scope k caps N') (hc:X.calm=true) (I:Inv X pins σ H s) (T:uI X.prog X.w X.K tg J'' fp it tn) (st:tn 0 s.heap) (f:∀b∈fp,iI X pins H b)
 (x5:∀C s₀ H₀ ex,PG (bX X scope N' C s₀ H₀ ex) tg g/\PTs (bX X scope N' C s₀ H₀ ex) q4 tt/\PE (bX X scope N' C s₀ H₀ ex) elt te)
 (hw:∃W0:Nat->Nat->List V->St->Hp->Prop,(∃m,W0 0 m [] (gX k caps σ) H)/\∀i m ys G H,W0 i m ys G H ->
  (J''.stop i H/\ys.length<=sizeLine/\∀p,H p=none->Q (.ref p) (upd H p (.lst ys))) \/
  (J''.go i H/\ys.length<sizeLine/\∀x H',J''.yld i H x H'->g x G H' λq5 H2=>tt q5 H2 λb H3=>
   if b=true then te q5 H3 λy H4=>∃m',m'<m/\W0 (i+1) m' (ys++[y]) q5 H4 else ∃m',m'<m/\W0 (i+1) m' ys q5 H3))
 (hR:∀D C s' H' m,Inv X pins σ H' s'->s'.heap.Ns C m->s.heap.objs.size<C->(∀(σ':St) (q1:Ad) (h':Heap),Inv X pins σ' H' q1->Bq C q1.heap h'->Inv X pins σ' H' { q1 with heap:=h' })->Q (.ref D) H'->RR (.ref D) C (.ok .next) s') :
 Ap (A2 X.prog X.w) X.A (K6 []) (λacc z5=>Ap (A2 X.prog X.w) X.A (newFunctionEnv scope X.env.globals (gE X.env.cells scope.names []) [] X.env.qual none .none (some X.env)) (λw4 z6=>
  Dh (A2 X.prog X.w) X.A (.compStart (.ListComp elt [⟨tg,W,q4,0⟩] scope pos) 0 (.ref it) acc { w4 with scope:=IA scope X.env }) (RR acc w4.locals) z6) E z5) E s:=by
 obtain⟨W0,⟨m0,w0⟩,z7⟩:=hw;have hf:∀b∈fp,b<s.heap.objs.size:=λb hb=>by obtain⟨o,e,_⟩:=T.obj 0 _ st b hb;exact Am e
 refine Bm (wpAny_newFunctionEnv CS.nocell (by intro y hy;simp at hy) (λB q2 q3=>?_) CS.kind);have U:(s.heap.push (cF [] 0)).objs.size=s.heap.objs.size+1:=Bf _ _;have x7:B.Ns (s.heap.objs.size+1) λ_=>none:=by have:=q2;rw[show({ s with heap:=s.heap.push (cF [] 0) }:Ad).heap.objs.size=s.heap.objs.size+1 from U] at this;exact this
 have hk:∀b o,(s.heap.push (cF [] 0)).get? b=some o->B.get? b=some o:=λb o e=>q3.extBut b o (Az (by have:=Am e;rw[U] at this;show b<(s.heap.push (cF [] 0)).objs.size;rw[U];exact this)) (Ab _ e);have I0:=aJt (N':=N') CS I f hf (tk:=s.toks+([]:List (Str×Value)).length) x7 hk;have v4:∀{b:Addr},b<s.heap.objs.size->b≠s.heap.objs.size+1:=λ{b} hb=>Az (BH hb);have z2:H s.heap.objs.size=none:=I.fresh;have hh:∀n,(n,AY)∈scope.names->∃c,X.env.cells.lookup n=some c:=λn hn=>I.ok.has n (CS.free n hn);have x2:B.get? s.heap.objs.size=some (cF [] 0):=hk _ _ (Aq _ rfl);have z4:∀b∈frs X.stack,b<s.heap.objs.size:=λb hb=>by obtain⟨_,o,ho,_⟩:=I.stack.mem hb;exact Am ho
 have w5:∀(pl:List (Addr×Obj)),(∀p∈pl,p.1=s.heap.objs.size)->∀{H':Hp},(∀b∈fp,H' b=none)->∀b∈fp,iI (bX X scope N' (s.heap.objs.size+1) { s with heap:=s.heap.push (cF [] 0) } H (s.heap.objs.size::fp)) pl H' b:=by
  intro pl x9 H' hn b hb;refine⟨hn b hb,v4 (hf b hb),λz=>?_,.inl (Ae _ hb),λx c e=>(f b hb).2.2.2.2.1 x c (bM hh e),λp M z=>?_⟩;rcases Ao.mp (I.stkSub b z) with q|q;exact(f b hb).2.1 q;exact(f b hb).2.2.1 q;have x8:p∈pl:=by simpa[bX] using M
  rw[x9 p x8] at z;exact absurd (hf b hb) (by rw[<-z];exact AN _)
 have Z:∀{σ':St} {H':Hp} {s':Ad} {its:List Value} {n:Nat} {pl:List (Addr×Obj)},Inv (bX X scope N' (s.heap.objs.size+1) { s with heap:=s.heap.push (cF [] 0) } H (s.heap.objs.size::fp)) pl σ' H' s' ->
  s'.heap.get? s.heap.objs.size=some (cF its n)->H' s.heap.objs.size=none->Inv (bX X scope N' (s.heap.objs.size+1) { s with heap:=s.heap.push (cF [] 0) } H (s.heap.objs.size::fp)) [(s.heap.objs.size,cF its n)] σ' H' s':=by
  intro σ' H' s' its n pl J'' e nn;refine J''.pins_of λp M=>?_;have:p=(s.heap.objs.size,cF its n):=by simpa using M
  subst this;refine⟨e,nn,Az (Bz _),λz=>absurd (z4 _ z) (AN _),λv z=>by cases z⟩
 have start:Dh (A2 X.prog X.w) X.A (.compLoop (.ListComp elt [⟨tg,W,q4,0⟩] scope pos) 0 (.ref it) (.ref s.heap.objs.size) (Ka scope (gE X.env.cells scope.names []) (s.heap.objs.size+1) X.env))
  (RR (.ref s.heap.objs.size) (s.heap.objs.size+1)) { s with heap:=B,toks:=s.toks+([]:List (Str×Value)).length }:=by
  refine fG (λn s'=>∃i ys its l G H',Inv (bX X scope N' (s.heap.objs.size+1) { s with heap:=s.heap.push (cF [] 0) } H (s.heap.objs.size::fp)) [(s.heap.objs.size,cF its l)] G H' s' /\
   tn i s'.heap/\(∀b∈fp,H' b=none)/\aM ys its/\W0 i n ys G H') ?_ m0 ⟨0,[],[],0,_,H,Z I0 x2 z2,T.keep _ _ _ st λb _ o e=>hk b o (Ab _ e),λb hb=>(f b hb).1,.nil,w0⟩
  rintro n s3 ⟨i,ys,its,l,G,H3,I3,st3,z1,q0,w3⟩;obtain⟨v5,v6,_⟩:=I3.pin (s.heap.objs.size,cF its l) (by simp[bX]);have w6:∀p∈[(s.heap.objs.size,cF its l)],p.1=s.heap.objs.size:=λp M=>by
   have:p=(s.heap.objs.size,cF its l):=by simpa using M
   rw[this]
  rcases z7 i n ys G H3 w3 with⟨stop,hz,qn⟩|⟨go,hz,step⟩
  refine thn (T.done (bX X scope N' (s.heap.objs.size+1) { s with heap:=s.heap.push (cF [] 0) } H (s.heap.objs.size::fp)) rfl rfl rfl hc i _ s3 _ H3 _ I3 (w5 _ w6 z1) st3 stop) λr s4 ⟨hr,I4⟩=>?_;subst hr;obtain⟨x3,z3,_⟩:=I4.pin (s.heap.objs.size,cF its l) (by simp[bX]);have u4:=I4.base;have nb:∀{b:Addr} {o:Obj},s.heap.get? b=some o->b∉fp->b∉s.heap.objs.size::fp:=λ{b o} e hb z=>by rcases Ao.mp z with z|z;exact absurd (Am e) (by rw[z];exact AN _);exact hb z
  have v3:∀{b:Addr} {o:Obj},s.heap.get? b=some o->b≠s.heap.objs.size:=λ{b o} e=>Az (Am e);have z0:∀{b:Addr} {o:HO},H b=some o->b≠s.heap.objs.size:=λ{b o} e=>aN e z2;have u:Un (frs X.stack) fp H (upd H3 s.heap.objs.size (.lst ys)) s.heap s4.heap:={
   keep:=λb o e nn hb hx=>u4.keep b o (Ab _ e) nn hb (nb e hx)
   slot:=λb o e nn hb hx=>u4.slot b o (Ab _ e) nn hb (nb e hx)
   free:=λb o e nn hx=>by rw[aD (v3 e)];exact u4.free b o (Ab _ e) nn (nb e hx)
   there:=λb o e hx=>u4.there b o (Ab _ e) (nb e hx)
   tups:=λb xs e=>by rw[aD (z0 e)];exact u4.tups b xs e
   frzs:=λb o u e=>by rw[aD (z0 e)];exact u4.frzs b o u e
   tbls:=λb ps e=>by rw[aD (z0 e)];exact u4.tbls b ps e }
  have hl:=q0.length;have hok:HOk X.prog X.w (upd H3 s.heap.objs.size (.lst ys)) s4.heap:=HOk.track I4.hok z3 ⟨hz,its,l,q0,x3⟩;have I5:Inv X pins σ (upd H3 s.heap.objs.size (.lst ys)) s4:=I.call' I4.os u hok I4.bare λb hb=>⟨(f b hb).2.2.2.1,(f b hb).2.1,(f b hb).2.2.2.2.1,(f b hb).2.2.2.2.2⟩
  obtain⟨m4,x6,_⟩:=I4.loc;refine hR s.heap.objs.size (s.heap.objs.size+1) s4 _ m4 I5 x6 (Bz _) (λσ' q1 h' I6 v0=>?_) (qn _ z3);have:=I6.turned (t':=q1.toks) (h':=h') (it:=s.heap.objs.size+1) (λb o hb e=>v0.extBut b o hb e) (by rw[aD (BC (Bz _))];exact I4.free)
   (BC (BH I.lt)) (.inr (DN I.sz)) (λx c e=>Az (BH (I.cellLt e))) λp M z=>?_
  exact this;have:=Am (I.pin p M).1;rw[z] at this;exact absurd this (Dp.mpr (CW _));refine thn (T.item (bX X scope N' (s.heap.objs.size+1) { s with heap:=s.heap.push (cF [] 0) } H (s.heap.objs.size::fp)) rfl rfl rfl hc i _ s3 _ H3 _ I3 (w5 _ w6 z1) st3 go) λr s4 ⟨u,hr,h4⟩=>?_;subst hr;refine thn h4 λ_ s5 ⟨x,H5,I5,r5,y5,w9,x1⟩=>?_;obtain⟨hg,ht,he⟩:=x5 (s.heap.objs.size+1) { s with heap:=s.heap.push (cF [] 0) } H (s.heap.objs.size::fp);have x0:=I5.pinned (w5 _ w6 x1) (T.obj _ _ w9);have keep:∀{z8:St} {H7:Hp} {s7:Ad},Inv (bX X scope N' (s.heap.objs.size+1) { s with heap:=s.heap.push (cF [] 0) } H (s.heap.objs.size::fp)) ([(s.heap.objs.size,cF its l)]++lE fp s5.heap) z8 H7 s7 ->
   tn (i+1) s7.heap/\(∀b∈fp,H7 b=none)/\s7.heap.get? s.heap.objs.size=some (cF its l)/\H7 s.heap.objs.size=none:=by intro z8 H7 s7 I7;obtain⟨x4,v2,_⟩:=I7.pin (s.heap.objs.size,cF its l) (by simp[bX]);refine⟨T.keep _ _ _ w9 λb hb o e=>(I7.pin (b,o) (AC _ (AC _ (eM hb e)))).1,λb hb=>?_,x4,v2⟩;obtain⟨o,e,d⟩:=T.obj _ _ w9 b hb;exact(I7.pin (b,o) (AC _ (AC _ (eM hb e)))).2.1
  refine thn (hg _ s5 _ H5 x u _ x0 r5 (step x H5 y5)) λ_ s6 ⟨q9,H6,I6,q6⟩=>?_;refine thn (ht _ s6 q9 H6 _ I6 q6) λb s7 ⟨H7,I7,q7⟩=>?_;cases b with
  | false=>rw[if_neg bN] at q7 ⊢;obtain⟨m',hm,w7⟩:=q7;obtain⟨t7,f7,d7,n7⟩:=keep I7;exact⟨m',hm,i+1,ys,its,l,q9,H7,Z I7 d7 n7,t7,f7,q0,w7⟩|true=>
   rw[if_pos rfl] at q7 ⊢;refine thn (he _ s7 q9 H7 _ I7 q7) λyv s8 ⟨y,H8,I8,r8,q8⟩=>?_;obtain⟨m',hm,w8⟩:=q8;obtain⟨t8,f8,d8,n8⟩:=keep I8;have hl:=q0.length;have v1:its.toArray.size<=sizeLine:=by rw[Al];omega
   refine FP GW ⟨_,d8,rfl⟩ GA (Go _ _) (Hs s.heap.objs.size its.toArray l yv v1) ⟨d8,?_⟩;have q:=HQ d8 (λa=>a.push yv);have e':its.toArray.push yv=(its++[yv]).toArray:=by simp
   rw[e'] at q;have I9:=(I8.unpinned (pins:=[(s.heap.objs.size,cF its l)])).pins_of (pins':=[]) (λp M=>absurd M (by simp));have z9:=I9.turned (t':=s8.toks) (it:=s.heap.objs.size) (h':=s8.heap.update s.heap.objs.size (B1 λa=>a.push yv)) (λb o hb e=>(AE s8.heap _ (BS hb)).trans e) n8
    (Az (Bz _)) (.inl Aj) (λx c e=>Az (I.cellLt (bM hh e))) (λp M=>absurd (show p∈([]:List (Addr×Obj)) from by simpa[bX] using M) (by simp))
   refine⟨m',hm,i+1,ys++[y],its++[yv],_,q9,H8,Z z9 q n8,?_,f8,q0.append (.cons r8 .nil),w8⟩;refine T.keep _ _ _ t8 λb hb o e=>(AE s8.heap _ ?_).trans e;intro z;exact absurd (hf b hb) (by rw[<-z];exact AN _)
 have L:∀C,C=s.heap.objs.size+1->Dh (A2 X.prog X.w) X.A (.compLoop (.ListComp elt [⟨tg,W,q4,0⟩] scope pos) 0 (.ref it) (.ref s.heap.objs.size) (Ka scope (gE X.env.cells scope.names []) C X.env))
  (RR (.ref s.heap.objs.size) C) { s with heap:=B,toks:=s.toks+([]:List (Str×Value)).length }:=by rintro C rfl;exact start
 exact codeAny_compStart_list (L _ U) (T.self X.A 0 _ _ _ (T.keep _ _ _ st λb _ o e=>hk b o (Ab _ e)) (L _ U))
end
section
variable {X:Cx} {scope:Da} {k:Nat} {caps:List Nat} {N':List Str} {tg iter elt:Av} {ifs:List Av} {pos:CF} {wi:TI} {g:TG} {tt:TT} {te:TE}
theorem xL(B:bT X scope k caps N')(hc:X.calm=true)(hi:PI X tg iter wi)
 (G:∀C s₀ H₀ ex,PG (bX X scope N' C s₀ H₀ ex) tg g/\PTs (bX X scope N' C s₀ H₀ ex) ifs tt/\PE (bX X scope N' C s₀ H₀ ex) elt te) (hs:∀x,BV iter X.env x=pure x) :
 PE X (.ListComp elt [⟨tg,iter,ifs,0⟩] scope pos) (aBC k caps wi g tt te):=by intro pins s σ H Q I h;rw[eval_ListComp];refine Fu (use:=none) rfl hs (eW λn L=>I.ok.has n (B.free n L)) B.kind B.loc (thn (hi pins s σ H _ I h) λxv s1 W=>thn W λq0 s2 Z=>?_);obtain⟨it,fp,tn,J'',H2,e,U,T,st2,f2,hw⟩:=Z;subst e;exact sC (RR:=λacc C=>compPost (A2 X.prog X.w) X.A X.xe none (EP X pins σ Q) acc C) (Q:=Q) B hc U T st2 f2 G hw λD C s' H' m J'' L _ l q=>⟨m,L,λh' M=>⟨.ref D,H',l σ s' h' J'' M,rfl,q⟩⟩
theorem lY{i:Nat}{x:Str}{l B:CF}(G:bT X scope k caps N')(hc:X.calm=true)(hi:PI X tg iter wi)
 (M:∀C s₀ H₀ ex,PG (bX X scope N' C s₀ H₀ ex) tg g/\PTs (bX X scope N' C s₀ H₀ ex) ifs tt/\PE (bX X scope N' C s₀ H₀ ex) elt te) (hs:∀x,BV iter X.env x=pure x)
 (hN:X.N.Nodup) (U:X.N[i]? = some x) (hx:Loc X.env.scope x) (hf:X.fn x=true\/X.env.scope.names.lookup x=some .local) :
 PS X (.Assign [.Name x l] (.ListComp elt [⟨tg,iter,ifs,0⟩] scope pos) B) (aGv (aBC k caps wi g tt te) (nT i)):=by
 have hb:∃b,G3 (.ListComp elt [⟨tg,iter,ifs,0⟩] scope pos) (some (.Name x l)) B.line X.env=pure b:=⟨_,rfl⟩
 obtain⟨b,hb⟩:=hb;cases b with
 | false=>exact jE hN U hx (xL G hc hi M hs) hb hf|true=>intro pins s σ H D I h;rw[exec_Assign_Name_used x l _ B hb];refine Aa (GH (Aa ?_));show Ap _ _ (comprehension (.ListComp elt [⟨tg,iter,ifs,0⟩] scope pos) scope X.env (firstIterPos [⟨tg,iter,ifs,0⟩] pos) (K6 []) (firstAsync [⟨tg,iter,ifs,0⟩]) (firstIter [⟨tg,iter,ifs,0⟩] X.env) (some (FJ (.Name x l) X.env)) >>= λ_=>pure ()) _ _ s;refine Aa (Fu (use:=some (FJ (.Name x l) X.env)) rfl hs (eW λn hn=>I.ok.has n (G.free n hn)) G.kind G.loc (thn (hi pins s σ H _ I h) λxv s1 h1=>thn h1 λq3 s2 h2=>?_));obtain⟨it,fp,tn,J'',H2,e,Z,T,st2,f2,hw⟩:=h2;subst e;refine sC (Q:=λv H'=>D.nx (σ.set i (some v)) H') (RR:=λacc C=>compPost (A2 X.prog X.w) X.A X.xe (some (FJ (.Name x l) X.env)) (λ_ W=>Ap (A2 X.prog X.w) X.A (pure ()) (λ_ W=>Ap (A2 X.prog X.w) X.A (pure Flow.next) (SP X pins D) X.xe W) X.xe W) acc C) G hc Z T st2 f2 M hw λD' C W H' m J'' hn lt L q=>?_;show Ap _ _ (FJ (.Name x l) X.env (.ref D')) _ _ W;refine Hi (nS (v:=V.ref D') J'' hN U hx rfl (λq2 J' q1=>?_) hf);obtain⟨a,sb,ha⟩:=q1;refine⟨m,hn.sameBut sb ?_,λh' q0=>?_⟩;rcases ha with z|z;rw[z];exact BC (EJ Z.lt lt);exact BC (EJ (Z.cellLt z) lt);exact Af (Af ⟨_,H',L _ q2 h' J' q0,q⟩)
end
section
variable {X:Cx} {pins:List (Addr×Obj)} {σ:St} {H:Hp} {s:Ad}
noncomputable def aFJ(K:An)(a:Addr)(xs:TKV)(vs:List V)(H:Hp)(Q:VK):Prop:=∃(b:Addr) (k:List Int) (v:V),vs=[.ref b,v]/\H a=some (cZ a xs)/\(∀x∈xs,SqT K H x.2.1 (x.1.map V.int))/\SqT K H b (k.map V.int) /\
 (∀p,EC xs k=some p->∃v',aP v' p.2/\Q v' H)/\(EC xs k=none->Q v H)
theorem aAb{a:Addr}{xs:TKV}{vs:List V}{us:List Value}{Q:VK}(hu:X.A.units+100<cLine)(I:Inv X pins σ H s)(r:aM vs us)(h:aFJ X.K a xs vs H Q) :
 Ap (A2 X.prog X.w) X.A (call (.builtin "dict.get") (.ref a::us)) (EP X pins σ Q) X.xe s:=by
 obtain⟨b,k,v,rfl,e,L,M,B,G⟩:=h;cases r with
 | cons U l=>
  cases l with
  | cons l W=>
   cases W;cases U;rename_i u;obtain⟨g1,g2,g3⟩:=iL I e L;refine JA Gh g3.typeIs PySem.F.entry_dict_get (PySem.F.args_dict_get_3 _ _ _) (meetsH_dict_get_default (HK (Eg X.prog X.w)) a b g1 u) ⟨show X.A.in1.units<cLine by show X.A.units+1<cLine;omega,k,xs,qH I M,g3,?_⟩;cases q:EC xs k with
   | none=>exact⟨v,H,I.tok _,l,G q⟩|some p=>obtain⟨Z,rv,q⟩:=B p q;exact⟨Z,H,I.tok _,rv,q⟩
variable {o e:Av} {es:List Av} {to:TE} {t:TA} {apos cpos:CF}
theorem aEk(hu:X.A.units+100<cLine)(ho:PE X o to)(ha:PA X (e::es) t)
 (B:Eh o "get" X.env (Cc o X.env)=Cc o X.env)
 (L:((BQ cpos (A6 (e::es) X.env)).all (λx=>!x.1)&&(ES cpos (Dm [] X.env)).all (λx=>x.1.isSome)
  && decide ((e::es).length+([]:List Fk).length+(if ([]:List Fk).isEmpty then 0 else 1)<30))=true)
 (G:(apos.endLine==cpos.line)=true) (hs:A6 (e::es) X.env=(false,Cc e X.env)::A6 es X.env) (l:(BQ cpos (A6 es X.env)).any (·.1)=false) :
 PE X (.Call (.Attribute o "get" apos) (e::es) [] cpos) (λσ H Q=>to σ H λx H1=>∃a xs,x=.ref a/\H1 a=some (cZ a xs)/\(∀x∈xs,SqT X.K H1 x.2.1 (x.1.map V.int))/\t σ H1 λvs M=>aFJ X.K a xs vs M Q):=by intro pins s σ H Q I h;refine DJ B L G rfl (thn (ho pins s σ H _ I h) λv s1 ⟨x,H1,U,r1,a,xs,e1,e2,e3,q1⟩=>?_);subst e1;obtain rfl:v=A5 a:=r1;obtain⟨g1,g2,g3⟩:=iL U e2 e3;refine⟨"dict", "dict.get",F2,Gh,PySem.F.type_dict_get,g3.typeIs,λb q=>?_,?_⟩;cases q;obtain⟨ob,_,_,h1,h2,_⟩:=g3;exact⟨ob,h1,h2.2.1⟩;have W:=ha cpos pins s1 σ H1 _ U q1;rw[hs] at W ⊢;refine DK (by show(false||(BQ cpos (A6 es X.env)).any (·.1))=false;rw[l] <;> rfl) (Dn ?_);exact thn W λus s2 ⟨vs,M,Z,r2,q2⟩=>aAb hu Z r2 q2
end
noncomputable def Rec(h:Heap)(e:Addr)(cls:Value)(T:Option Addr):Prop:=∃oe vs,h.get? e=some oe/\oe.cls=cls/\oe.dict=none/\oe.data=.fields vs/\match T with|none=>vs[1]? = some .none|some T=>vs[1]? = some (.ref T)/\T≠e/\∃oT ts,h.get? T=some oT/\oT.data=.fields ts/\∃f:Option Addr,ts[3]? = some (f.elim .none λf=>BD f)
structure Lx (fr:List Addr) (e:Addr) (T:Option Addr) (h h':Heap):Prop where
 keep:∀b o,h.get? b=some o->b∉fr->b≠e->T≠some b->h'.get? b=some o
 slot:∀b o,h.get? b=some o->b∈fr->∃sl,h'.get? b=some { o with slots:=sl }
theorem mB(f:Array Value->Array Value)(o:Obj):(o.mapFields f).dict=o.dict:=by obtain⟨c,d,l,sl⟩:=o;cases l <;> rfl
section
variable {M:Ic} {A:AV} {E:Value->Ad->Prop} {s:Ad}
theorem xM{base:Heap}{env:GG}{outer:List GG}{L e:Addr}{oe:Obj}{vs:Array Value}{I:Value}{W:Bool}{Q:Unit->Ad->Prop}
 (q9:A.frames=some (env::outer)) (hl:s.heap.FunFrames base (env::outer)) (hf:env.frame=some L)
 (he:s.heap.get? e=some oe) (q8:oe.dict=none) (hd:oe.data=.fields vs) (q5:1<vs.size)
 (h:∀h' T',s.heap.objs.size<=T'->Lx (frs (env::outer)) e none s.heap h'->Rec h' e oe.cls (some T')->Q () { s with heap:=h' }) :
 Ap M A (do let a<-frameOf env;let pl<-entryPlaceOf L W;let b<-GB I a .none (BD L) .none pl;Kb (.ref e) 1 b) (λ_ s'=>Ap M A (G7 (.ref e) none) Q E s') E s:=by
 have q2:e∉(env::outer).filterMap (·.frame):=λhm=>by obtain⟨_,o,ho,w3⟩:=hl.mem hm;rw[he] at ho;injection ho with ho;subst ho;exact w3 vs hd
 refine Aa (wpAny_frameOf_fun q9 hl hf λl B=>?_);refine Aa (wpAny_entryPlaceOf λpl q6=>?_);unfold GB newFields;refine Aa (Bm ?_ (q6.sizeOk5 _ _ _ _ _));have Z:l.get? e=some oe:=(B.2.1 e q2).trans he;have q0:=Ab (h:=l) { cls:=.type "traceback",dict:=none,data:=.fields ([I,.ref L,.none,BD L,.none]++(if pl.isEmpty then Ag 6 AZ else pl)).toArray } Z;refine DO q0 hd q5 ?_;have q3:l.objs.size≠e:=BC (Am Z);have G:=B8 hd (·.setIfInBounds 1 (A5 l.objs.size));have q1:=Bg (D4 (·.setIfInBounds 1 (A5 l.objs.size))) q0 (C5 G);have U:=(AE (l.push { cls:=.type "traceback",dict:=none,data:=.fields ([I,.ref L,.none,BD L,.none]++(if pl.isEmpty then Ag 6 AZ else pl)).toArray })
  (D4 (·.setIfInBounds 1 (A5 l.objs.size))) (BS q3)).trans (Aq l rfl)
 unfold G7;refine Aa (AT q1 G (x:=.ref l.objs.size) (by simp[q5]) ?_);rw[if_pos (show(A5 l.objs.size != AZ)=true from by simp)];refine DO U rfl (by simp only[Al,lA,lC,lN] <;> omega) (h _ l.objs.size (by rw[B.1];exact As _) ?_ ?_);have keep:∀b o,b≠e->l.get? b=some o ->
  (((l.push { cls:=.type "traceback",dict:=none,data:=.fields ([I,.ref L,.none,BD L,.none]++(if pl.isEmpty then Ag 6 AZ else pl)).toArray }).update e (D4 (·.setIfInBounds 1 (A5 l.objs.size)))).update l.objs.size
   (D4 (·.setIfInBounds 3 ((none:Option Addr).elim AZ λf=>BD f)))).get? b=some o:=λb o q4 hb=>by have q7:l.objs.size≠b:=BC (Am hb);rw[AE _ _ q7,AE _ _ (BS q4)];exact Ab _ hb
 refine⟨λb o hb hn q4 _=>keep b o q4 ((B.2.1 b hn).trans hb),λb o hb hn=>?_⟩;obtain⟨sl,hs⟩:=B.2.2 b o hb;refine⟨sl,keep b _ (λz=>?_) hs⟩;subst z;exact q2 hn
 . refine⟨_,_,(AE _ _ q3).trans q1,Hv _ _,(mB _ _).trans q8,G,by simp[q5],q3,_,_,Bg _ U (C5 (B8 rfl _)),B8 rfl _,none,by first|(simp;done)|(rcases q6 with rfl|⟨_,_,_,_,_,_,_,rfl⟩ <;> simp)⟩
theorem aBE{base:Heap}{env:GG}{outer:List GG}{L e:Addr}{cls:Value}{T:Option Addr}{Q:Unit->Ad->Prop}
 (q4:A.frames=some (env::outer)) (hl:s.heap.FunFrames base (env::outer)) (hf:env.frame=some L) (hr:Rec s.heap e cls T)
 (h:∀h' T',(s.heap.objs.size<=T'\/T=some T')->Lx (frs (env::outer)) e T s.heap h'->Rec h' e cls (some T')->Q () { s with heap:=h' }):Ap M A (G6 (.ref e) env) (λ_ s'=>Ap M A (G7 (.ref e) none) Q E s') E s:=by
 obtain⟨oe,vs,he,q2,q1,hd,hT⟩:=hr;subst q2;unfold G6;simp only[hf];cases T with
 | none=>have h1:vs[1]? = some .none:=hT;refine Aa (AT he hd h1 ?_);rw[if_neg (by decide)];exact xM q4 hl hf he q1 hd (AL.mp h1).1 λh' T' l=>h h' T' (.inl l)|some T=>
  obtain⟨h1,q0,oT,ts,hT,U,fl,h3⟩:vs[1]? = some (.ref T)/\T≠e/\∃oT ts,s.heap.get? T=some oT/\oT.data=.fields ts/\∃f:Option Addr,ts[3]? = some (f.elim .none λf=>BD f):=hT;refine Aa (AT he hd h1 ?_);rw[if_pos (show(A5 T != AZ)=true from by simp)];have W:∀b o,s.heap.get? b=some o->(∀vs,o.data≠.fields vs)->b≠T:=λb o hb G q=>by rw[q,hT] at hb;injection hb with hb;subst hb;exact G ts U
  refine Aa (AT hT U h3 ?_);by_cases q3:(fl.elim AZ (λf=>BD f)==BD L)=true;rw[if_pos q3];refine Af ?_;refine Gr he hd h1 hT U (AL.mp h3).1 (h _ T (.inr rfl) ⟨λb o q _ _ hb=>?_,λb o q hb=>⟨o.slots,?_⟩⟩ ?_);exact(AE _ _ λz=>hb (by rw[z])).trans q;obtain⟨_,o',Z,G⟩:=hl.mem hb;rw[q] at Z;cases Z;exact(AE _ _ (BS (W b o q G))).trans q;refine⟨oe,vs,(AE _ _ q0).trans he,rfl,q1,hd,h1,q0,_,_,Bg _ hT (C5 (B8 U _)),B8 U _,none,?_⟩;have:=(AL.mp h3).1;simp[this];rw[if_neg q3];refine Aa (DO hT U (AL.mp h3).1 ?_);have I:∀b,b≠T->(s.heap.update T (D4 (·.setIfInBounds 3 AZ))).get? b=s.heap.get? b:=λb hb=>AE _ _ (BS hb);have B:∀b o,s.heap.get? b=some o->(∀vs,o.data≠.fields vs)->b≠T:=λb o hb G q=>by rw[q,hT] at hb;injection hb with hb;subst hb;exact G ts U
  have q7:(s.heap.update T (D4 (·.setIfInBounds 3 AZ))).objs.size=s.heap.objs.size:=Heap.size_after_update ..;refine xM q4 (hl.of_keeps λb o hb G=>⟨o,(I b (B b o hb G)).trans hb,rfl⟩) hf ((I e (BS q0)).trans he) q1 hd (AL.mp h1).1
   λh' T' l1 x1 x2=>h h' T' (.inl (by rw[<-q7];exact l1)) ⟨λb o hb hn q6 q5=>x1.keep b o ((I b λz=>q5 (by rw[z])).trans hb) hn q6 (λz=>nomatch z),λb o hb hn=>?_⟩ x2
  refine x1.slot b o ((I b ?_).trans hb) hn;obtain⟨_,o',Z,G⟩:=hl.mem hn;rw[hb] at Z;cases Z;exact B b o hb G
theorem aAc{base:Heap}{env:GG}{outer:List GG}{L e:Addr}{cls:Value}{T:Option Addr}{Q:Unit->Ad->Prop}
 (B:A.frames=some (env::outer)) (hl:s.heap.FunFrames base (env::outer)) (G:env.frame=some L) (I:Rec s.heap e cls T)
 (h:∀h' l,(s.heap.objs.size<=l\/T=some l)->Lx (frs (env::outer)) e T s.heap h'->Rec h' e cls (some l)->Q () { s with heap:=h' }):Ap M A (J9 env (.ref e)) Q E s:=by unfold J9;exact Aa (aBE B hl G I h)
end
noncomputable def Old(h:Heap)(b:Addr):Prop:=∃o,h.get? b=some o
theorem Old.lt{h:Heap}{b:Addr}(x:Old h b):b<h.objs.size:=let ⟨_,q⟩:=x;Am q
noncomputable def Fly(h0:Heap)(ex:List Addr)(H:Hp)(L:List Addr)(e:Addr)(cls:Value)(h:Heap):Prop:=∃T,Rec h e cls T/\∀b,(b=e\/T=some b)->¬ (Old h0 b/\b∉ex)/\H b=none/\b∉L
theorem Fly.older{I B h:Heap}{H:Hp}{L G:List Addr}{e:Addr}{cls:Value}{ex:List Addr}(f:Fly B [] H L e cls h)(l:∀b,Old I b->b∉ex->Old B b)(M:∀b∈G,Old B b):Fly I ex H G e cls h:=
 let ⟨T,c,d⟩:=f
 ⟨T,c,λb z=>⟨λy=>(d b z).1 ⟨l _ y.1 y.2,DY⟩,(d b z).2.1,λy=>(d b z).1 ⟨M b y,DY⟩⟩⟩
noncomputable def CX1(P:A0)(w:AH):CXT:=λouter H s E e s'=>∃a cls H',e=.ref a/\s'.os=s.os/\EH s'.gens/\Un (frs outer) [] H H' s.heap s'.heap/\HOk P w H' s'.heap/\Fly s.heap [] H' [] a cls s'.heap/\E cls none H'
abbrev pinA(X:Cx)(pins:List (Addr×Obj)):List Addr:=(X.pn++pins).map (·.1)
noncomputable def Rs(X:Cx)(W0:Value->St->Hp->Prop):Prop:=∀(pins:List (Addr×Obj)) (σ:St) (H:Hp) (s:Ad) (a:Addr) (cls:Value),Inv X pins σ H s->Fly X.s₀.heap X.ex H (pinA X pins) a cls s.heap->W0 cls σ H->X.xe (.ref a) s
noncomputable def RX(X:Cx)(cls:Value)(σV:St)(H:Hp):Prop:=∀(pins:List (Addr×Obj)) (s:Ad) (a:Addr),Inv X pins σV H s->Fly X.s₀.heap X.ex H (pinA X pins) a cls s.heap->X.xe (.ref a) s
theorem aFK(X:Cx):Rs X (RX X):=λpins σ H s a cls I l h=>h pins s a I l
section
variable {X:Cx} {pins:List (Addr×Obj)} {σ:St} {H:Hp} {s:Ad}
theorem aBF(I:Inv X pins σ H s):∀b,Old X.s₀.heap b->b∉X.ex->Old s.heap b:=λb ⟨o,q⟩ hb=>I.base.there b o q hb
theorem qM(I:Inv X pins σ H s):∀b∈pinA X pins,Old s.heap b:=λb hb=>by obtain⟨p,l,rfl⟩:=AA.mp hb;exact⟨_,(I.pin p l).1⟩
theorem Rs.pass{B:Value->St->Hp->Prop}{e:Value}{l:Ad}(h:Rs X B)(I:Inv X pins σ H s)(c:CX1 X.prog X.w X.stack H s (λc _ H=>B c σ H) e l):X.xe e l:=by obtain⟨a,cls,H',G,os,bare,un,hok,L,q⟩:=c;subst G;exact h pins σ H' l a cls (I.call' (ch:=[]) os un hok bare (λb z=>absurd z (by simp))) (L.older (aBF I) (qM I)) q
theorem aEl{k:Nat}{f:Addr}{fd:Cs}{ps:List Str}{sp:Sp}{l:List V}{ds:List Value}{Q:VK}{G:Value->St->Hp->Prop}{us:List Value}{vs:List V}(F:dG X.prog X.w X.K X.mg X.base (CX1 X.prog X.w) k f fd ps sp)(W:dQ k X.A)(hb:bZ X.K fd ps ds)(hd:aM l ds)(U:Rs X G)
 (I:Inv X pins σ H s) (r:aM vs us) (h:sp (vs++l) H Q λc _ H=>G c σ H):Ap (A2 X.prog X.w) X.A (call (.ref f) us) (EP X pins σ Q) X.xe s:=by
 have L:aM (vs++l) (us++ds):=r.append hd;have hl:(us++ds).length=ps.length:=by rw[<-L.length];exact F.len _ _ _ _ h
 refine GU (Ds (F.run X.A X.stack s H ⟨us,[]⟩ (us++ds) (vs++l) Q _ W I.env0 (hb s us I.kIn hl) L h) λr Z B=>?_);cases r with
 | error e=>exact U.pass I B|ok M=>
  cases M with
  | ret u=>exact I.after B|next=>exact BJ B|brk=>exact BJ B|cont=>exact BJ B
end
theorem aBG{fs ex:List Addr}{H H1:Hp}{h W h':Heap}{fr:List Addr}{e:Addr}{T:Option Addr}(u:Un fs ex H H1 h W)(x:Lx fr e T W h')(L:∀b,b∈fr->b∈fs\/h.objs.size<=b)(he:¬ (Old h e/\e∉ex))(Z:∀t,T=some t->¬ (Old h t/\t∉ex))(M:∀b∈fs,b∈fr) :
 Un fs ex H H1 h h' where
 keep:=λb o q n hb B=>by have l:=Am q;refine x.keep b o (u.keep b o q n hb B) (λz=>?_) (λz=>?_) λz=>?_;rcases L b z with z|z;exact hb z;exact absurd l (Dp.mpr z);subst z;exact he ⟨⟨o,q⟩,B⟩;exact Z b z ⟨⟨o,q⟩,B⟩
 slot:=λb o q n hb B=>by obtain⟨sl,G⟩:=u.slot b o q n hb B;obtain⟨U,I⟩:=x.slot b _ G (M b hb);exact⟨U,I⟩
 free:=u.free
 there:=λb o q B=>by obtain⟨o',G⟩:=u.there b o q B;by_cases hb:b∈fr;obtain⟨sl,I⟩:=x.slot b o' G hb;exact⟨_,I⟩;exact⟨o',x.keep b o' G hb (λz=>by subst z;exact he ⟨⟨o,q⟩,B⟩) λz=>Z b z ⟨⟨o,q⟩,B⟩⟩
 tups:=u.tups
 frzs:=u.frzs
 tbls:=u.tbls
theorem oK{P:A0}{w:AH}{H:Hp}{h h':Heap}{fr:List Addr}{e:Addr}{T:Option Addr}(k:HOk P w H h)(x:Lx fr e T h h')(l:∀b∈fr,H b=none)(I:H e=none)(G:∀t,T=some t->H t=none):HOk P w H h':=λa o q=>
 (k a o q).stay (λb u hb g=>by
  have B:H b≠none:=by rcases hb with z|z;rw[z,q];exact λz=>nomatch z;rw[z];exact λz=>nomatch z
  exact x.keep b u g (λz=>B (l b z)) (λz=>B (by rw[z];exact I)) λz=>B (G b z)) (λ_ z=>z) λ_ _ z=>z
theorem vC{P:A0}{w:AH}{K:An}{mg:Str->Option Value}{base:Heap}{N:List Str}{qual:Str}{scope:Da}{f:Addr}{l:Value}{A:AV}{outer:List GG}{s:Ad}{H:Hp}{E:XK} :
 Rs (lH (CX1 P w) P w K mg base N qual scope f l A outer s H E) λc _ H'=>E c none H':=by
 intro pins σ H1 s1 a cls I U W;obtain⟨T,f3,f4⟩:=U;have G:(lH (CX1 P w) P w K mg base N qual scope f l A outer s H E).env.frame=some (lH (CX1 P w) P w K mg base N qual scope f l A outer s H E).env.locals:=by
  rcases I.ok.stk with z|⟨_,z⟩
  have z:envOfC qual scope s.heap.objs.size f l::outer=outer:=z;exact absurd (congrArg Fl z) (by simp);exact z
 show Ap (A2 P w) (A.deeper (envOfC qual scope s.heap.objs.size f l)) (J9 (envOfC qual scope s.heap.objs.size f l) (.ref a)) _ _ s1;refine aAc (base:=base) (outer:=outer) I.ok.frames I.stack G f3 λh' M B x r=>?_;have L:∀b,b∈frs (envOfC qual scope s.heap.objs.size f l::outer)->b=(envOfC qual scope s.heap.objs.size f l).locals\/b∈frs outer:=λb hb=>Ao.mp (I.stkSub b hb);have un:Un (frs outer) [] H H1 s.heap h':=aBG I.base x (λb hb=>?_) (f4 a (.inl rfl)).1 (λt z=>(f4 t (.inr z)).1) λb hb=>?_;refine⟨a,cls,H1,rfl,I.os,I.bare,un,oK I.hok x I.stkFree (f4 a (.inl rfl)).2.1 λt z=>(f4 t (.inr z)).2.1,⟨some M,r,λt z=>?_⟩,W⟩;rcases z with rfl|z;exact⟨(f4 _ (.inl rfl)).1,(f4 _ (.inl rfl)).2.1,by simp⟩;cases z;rcases B with B|B;exact⟨λz=>absurd z.1.lt (Dp.mpr (AX I.sz B)),I.hok.fresh B,by simp⟩;exact⟨(f4 _ (.inr B)).1,(f4 _ (.inr B)).2.1,by simp⟩;rcases L b hb with z|z;rw[z];exact .inr I.ok.above;exact .inl z;unfold frs at hb ⊢;rw[BY];have:(envOfC qual scope s.heap.objs.size f l).frame=some (envOfC qual scope s.heap.objs.size f l).locals:=G;rw[this];exact Ae _ hb
abbrev bmV:List Value:=[.type "ValueError",.type "Exception",.type "BaseException",.type "object"]
section
variable {X:Cx}
theorem bQ.old{P:A0}{w:AH}{H:Hp}{h:Heap}{a:Addr}{o:HO}(x:bQ P w H h a o):Old h a:=by
 cases o with
 | lst xs=>obtain⟨_,_,_,_,e⟩:=x;exact⟨_,e⟩|tup xs=>obtain⟨_,_,_,l,e,_⟩:=x;exact⟨_,e⟩|dK kvs=>obtain⟨_,_,_,_,o,_,_,e,_⟩:=x;exact⟨_,e⟩|dT kvs=>obtain⟨_,_,_,_,o,_,_,e,_⟩:=x;exact⟨_,e⟩|set S n=>obtain⟨o,_,_,_,e,_⟩:=x;exact⟨_,e⟩|ins C dx fs=>obtain⟨_,_,_,e,_⟩:=x;exact⟨_,e⟩|own y=>obtain⟨_,e⟩:=x;exact⟨_,e⟩|xd fs=>obtain⟨_,⟨_,_,_,e,_⟩,_⟩:=x;exact⟨_,e⟩|rng lo hi=>obtain⟨_,_,_,e⟩:=x;exact⟨_,e⟩|frz l u=>obtain⟨e,_⟩:=x;exact⟨_,e⟩|tbl ps=>exact⟨_,(show h.get? a=some _ from x)⟩|met f y=>exact⟨_,(show h.get? a=some _ from x)⟩|ext φ=>obtain⟨_,e,_⟩:=x;exact e
theorem vD{C:Addr}{newId:String}{h:Heap}(I:X.K.In h)(q:Ci X.K C bmV newId=true) :
 ∃bm N nm q bs hdct sn sub ab col dd k0 k1 k2 k3 k5 mN,h.get? C=some (Ih nm q C N bs bm hdct sn sub ab col dd k0 k1 k2 k3 k5 newId)/\h.Ns N mN/\mN "__init__" = none/\OwnTail h bmV bm:=by
 unfold Ci at q;split at q;rename_i dd M sl W;split at q;rename_i C' bm k0 k1 k2 k3 n k5 hm hs;simp only[bA,beq_iff_eq,CD] at q;obtain⟨⟨⟨⟨⟨rfl,rfl⟩,B⟩,Z⟩,hok⟩,G⟩:=q;obtain⟨nm,bs,q0,ns,qn,hd,sn,sub,ab,col,U⟩:=M;dsimp only at hm B hok G;subst hm B;have L:sl=#[k0,k1,k2,k3,some (.builtin n),k5]:=by obtain⟨l⟩:=sl;simp only at hs;rw[hs]
 subst L;exact⟨bm,ns,nm,qn,bs,hd,sn,sub,ab,col,dd,k0,k1,k2,k3,k5,_,I _ _ W,.of_isNs (PySem.W.isNs_of_in I hok),PySem.W.nsMap_none_of_in I hok G,PySem.W.tail_of_in I Z⟩;cases q;cases q
theorem aBH{G h h':Heap}{H:Hp}{e:Addr}{cls:Value}{vs:List Value}{L:List Addr}(m:Heap.MadeExcOf h h' e cls vs)(I:H e=none){ex:List Addr}(l:∀b,Old G b->b∉ex->Old h b)(U:∀b∈L,Old h b):Fly G ex H L e cls h':=by
 have B:¬ Old h e:=λ⟨o,q⟩=>by rw[m.new] at q;cases q
 refine⟨none,?_,λb z=>?_⟩;obtain⟨t,M,_⟩:=m.there;exact⟨_,_,M,rfl,rfl,rfl,rfl⟩;rcases z with rfl|z;exact⟨λz=>B (l _ z.1 z.2),I,λz=>B (U _ z)⟩;cases z
theorem aBI{x:Str}{C:Addr}{newId:String}{np l pos:CF}{a:Av}{args:List Av}{t:TA}{E:Value->St->Hp->Prop}{Bn q0:String}{M:List Value}(Fn:ExcBaseFacts Bn newId q0 M)(U:bmV.contains (.type Bn)=true)
 (hg:Gl X x) (hm:X.mg x=some (.ref C)) (q:Ci X.K C bmV newId=true) (ha:PA X (a::args) t) (hc:X.calm=true) (hR:Rs X E)
 (hd:(x==("__debug__" : Str))=false) (he:A6 (a::args) X.env=(false,Cc a X.env)::A6 args X.env) (Z:(BQ l (A6 (a::args) X.env)).any (·.1)=false) :
 PS X (.Raise (some (.Call (.Name x np) (a::args) [] l)) none pos) (λD σ H=>t σ H λvs H1=>vs.length<=sizeLine/\E (.ref C) σ H1):=by
 intro pins s σ H D I h;obtain⟨bm,N,nm,qn,bs,hdct,sn,sub,ab,col,dd,k0,k1,k2,k3,k5,mN,hC,hN,W,TL⟩:=vD I.mod.kin q;have G:=ha l pins s σ H _ I h;refine wpAny_Raise_call_subU (C:=C) (nm:=nm) (q:=qn) (N:=N) (bs:=bs) (bm:=bm) (hdct:=hdct) (sn:=sn) (sub:=sub) (ab:=ab) (col:=col) (dd:=dd) (k0:=k0) (k1:=k1) (k2:=k2) (k3:=k3) (k5:=k5) (newId:=newId) (mN:=mN)
  Fn U EV (TL.hasType rfl) (I.ok.hd hc) Z W (eK I hg hm ⟨rfl,?_⟩ hd)
 rw[he] at G ⊢;refine Dn (thn G λus s2 ⟨vs,H1,B,rv,hl,hE⟩=>⟨rfl,by rw[<-rv.length];exact hl,B.bk _ _ hC,hN.keeps B.bk,TL.keeps B.bk,λh' e m=>?_⟩);have hn:H1 e=none:=by
  cases z:H1 e with
  | none=>rfl|some o=>obtain⟨ob,L⟩:=(B.hok e o z).old;rw[m.new] at L;cases L
 exact hR pins σ H1 { s2 with heap:=h' } e (.ref C) (B.un (t':=s2.toks) (Un.kept m.keeps) (B.hok.kept m.keeps)) (aBH m hn (aBF B) (qM B)) hE
end
section
variable {X:Cx} {pins:List (Addr×Obj)} {σ:St} {H:Hp} {s:Ad} {h':Heap}
theorem Rec.data{h:Heap}{e:Addr}{cls:Value}{T:Option Addr}(r:Rec h e cls T):∀b,(b=e\/T=some b)->∃o vs,h.get? b=some o/\o.data=.fields vs:=by obtain⟨I,vs,B,_,_,hd,l⟩:=r;intro b hb;rcases hb with rfl|hb;exact⟨I,vs,B,hd⟩;subst hb;obtain⟨_,_,G,ts,g1,g2,_⟩:=l;exact⟨G,ts,g1,g2⟩
theorem Inv.note{fr:List Addr}{e:Addr}{cls:Value}{T:Option Addr}(I:Inv X pins σ H s)(x:Lx fr e T s.heap h')(q0:∀b∈fr,b∈frs X.stack)(q3:∀b∈X.fs,b∈fr\/fr=[])(r:Rec s.heap e cls T)
 (n:∀b,(b=e\/T=some b)->¬ (Old X.s₀.heap b/\b∉X.ex)/\H b=none/\b∉pinA X pins):Inv X pins σ H { s with heap:=h' }:=by
 have any:∀b o,s.heap.get? b=some o->b≠e->T≠some b->∃sl,h'.get? b=some { o with slots:=sl }:=λb o q W Z=>by by_cases hb:b∈fr;exact x.slot b o q hb;exact⟨o.slots,x.keep b o q hb W Z⟩
 have sub:∀b∈fr,b=X.env.locals\/b∈X.fs:=λb hb=>Ao.mp (I.stkSub b (q0 b hb));have q1:∀b o,s.heap.get? b=some o->(∀vs,o.data≠.fields vs)->b≠e/\T≠some b:=λb o q d=>by constructor;intro z;obtain⟨o',vs,g,d'⟩:=r.data b (.inl z);rw[q] at g;cases g;exact d vs d';intro z;obtain⟨o',vs,g,d'⟩:=r.data b (.inr z);rw[q] at g;cases g;exact d vs d'
 have L:∀c v,s.heap.IsCell c v->h'.IsCell c v:=λc v ⟨o,ho,hd⟩=>by
  obtain⟨W,Z⟩:=q1 c o ho λvs z=>by rw[hd] at z;cases z
  obtain⟨sl,q⟩:=any c o ho W Z;exact⟨_,q,hd⟩
 have B:∀b o,X.s₀.heap.get? b=some o->b∉X.ex->b≠e/\T≠some b:=λb o q G=>⟨λz=>(n b (.inl z)).1 ⟨⟨o,q⟩,G⟩,λz=>(n b (.inr z)).1 ⟨⟨o,q⟩,G⟩⟩
 refine⟨I.ok,I.os,I.bare,⟨λb o e n hb G=>?_,λb o e n hb G=>?_,I.base.free,λb o e G=>?_,I.base.tups,I.base.frzs,I.base.tbls⟩,?_,λy c e=>?_,I.free,I.freeC,λp hp=>?_,oK I.hok x (λb hb=>I.stkFree b (q0 b hb)) (n e (.inl rfl)).2.1 (λt z=>(n t (.inr z)).2.1),I.len⟩;refine x.keep b o (I.base.keep b o e n hb G) (λz=>?_) (B b o e G).1 (B b o e G).2;rcases sub b z with z|z;exact absurd (Am e) (Dp.mpr (by rw[z];exact I.ok.above));exact hb z;obtain⟨sl,M⟩:=I.base.slot b o e n hb G;obtain⟨q2,U⟩:=any b _ M (B b o e G).1 (B b o e G).2;exact⟨q2,U⟩;obtain⟨o',M⟩:=I.base.there b o e G;obtain⟨q2,U⟩:=any b _ M (B b o e G).1 (B b o e G).2;exact⟨_,U⟩;obtain⟨m,hn,hl⟩:=I.loc;refine⟨m,?_,λi y v M U e3=>?_⟩;obtain⟨o,es,ep,ho,hd,rr⟩:=hn;obtain⟨W,Z⟩:=q1 _ o ho λvs z=>by rw[hd] at z;cases z
 obtain⟨sl,q⟩:=any _ o ho W Z;exact⟨_,es,ep,q,hd,rr⟩;obtain⟨u,rr,l⟩:=hl i y v M U e3;refine⟨u,rr,?_⟩;rcases l with l|⟨k,c,e,z⟩
 exact .inl l;exact .inr ⟨k,c,e,L c _ z⟩;obtain⟨v,z⟩:=I.cell y c e;exact⟨v,L c v z⟩;obtain⟨M,n1,ne,nf,d⟩:=I.pin p hp;refine⟨x.keep p.1 p.2 M (λz=>(sub _ z).elim ne nf) (λz=>(n _ (.inl z)).2.2 (AA.mpr ⟨p,hp,rfl⟩)) (λz=>(n _ (.inr z)).2.2 (AA.mpr ⟨p,hp,rfl⟩)),n1,ne,nf,d⟩
theorem aBJ{M:Ic}{A:AV}{E:Value->Ad->Prop}{e T:Addr}{cls:Value}{Q:Unit->Ad->Prop}(r:Rec s.heap e cls (some T))
 (h:∀h',Lx [] e (some T) s.heap h'->Rec h' e cls (some T)->Q () { s with heap:=h' }):Ap M A (G7 (.ref e) none) Q E s:=by obtain⟨oe,vs,W,Z,G,hd,I,B,oT,ts,U,l,fl,L⟩:=r;refine Gr W hd I U l (AL.mp L).1 (h _ ⟨λb o q _ _ hb=>?_,λb o _ z=>by cases z⟩ ?_);exact(AE _ _ λz=>hb (by rw[z])).trans q;refine⟨oe,vs,(AE _ _ B).trans W,Z,G,hd,I,B,_,_,Bg _ U (C5 (B8 l _)),B8 l _,none,?_⟩;have:=(AL.mp L).1;simp[this]
theorem Inv.track{a:Addr}{o:HO}(I:Inv X pins σ H s)(n:¬ (Old X.s₀.heap a/\a∉X.ex))(W:H a=none)(Z:a∉pinA X pins)(hl:a≠X.env.locals)(U:∀x c,X.env.cells.lookup x=some c->c≠a)(new:bQ X.prog X.w (upd H a o) s.heap a o):Inv X pins σ (upd H a o) s:=by
 have ne:∀b o,X.s₀.heap.get? b=some o->b∉X.ex->b≠a:=λb o q B z=>n (by rw[<-z];exact⟨⟨o,q⟩,B⟩);have nt:∀b u,H b=some u->b≠a:=λb u q z=>by rw[z,W] at q;cases q
 refine⟨I.ok,I.os,I.bare,⟨I.base.keep,I.base.slot,λb o q M B=>by rw[aD (ne b o q B)];exact I.base.free b o q M B,I.base.there,λb xs q=>?_,λb o u q=>?_,λb ps q=>?_⟩,I.loc,I.cell,by rw[aD (BS hl)];exact I.free,λx c e=>by rw[aD (U x c e)];exact I.freeC x c e,λp l=>?_,λb u q=>?_,I.len⟩;have z:=I.base.tups b xs q;rw[aD (nt b _ z)];exact z;have z:=I.base.frzs b o u q;rw[aD (nt b _ z)];exact z;obtain⟨more,z⟩:=I.base.tbls b ps q;exact⟨more,by rw[aD (nt b _ z)];exact z⟩;obtain⟨L,n1,G,nf,d⟩:=I.pin p l;exact⟨L,by rw[aD λz=>Z (AA.mpr ⟨p,l,z⟩)];exact n1,G,nf,d⟩;by_cases hb:b=a;subst hb;rw[aK] at q;cases q;exact new;rw[aD hb] at q;exact(I.hok b u q).stay (λ_ _ _ g=>g) (λc g=>by rw[aD (nt c _ g)];exact g) λc xs g=>by rw[aD (nt c _ g)];exact g
end
section
variable {X:Cx} {pins:List (Addr×Obj)} {σ:St} {H:Hp} {s:Ad}
theorem aAd{M:Ic}{A:AV}{E:Value->Ad->Prop}{i:Nat}{x:Str}{v:V}{Q:Unit->Ad->Prop}(I:Inv X pins σ H s)(hN:X.N.Nodup)(hi:X.N[i]? = some x)(hk:X.env.scope.names.lookup x=some .local)(hv:σ[i]? = some (some v))
 (h:∀s',Inv X pins (σ.set i none) H s'->Q () s'):Ap M A (unbindName X.env x) Q E s:=by
 obtain⟨m,hn,hl⟩:=id I.loc;have G:(X.env.scope.kind==.class||(X.env.scope.kind==.module&&X.env.locals != X.env.globals))=false:=by rw[I.ok.kind];rfl
 have L:i<σ.length:=by rw[I.len];exact(Ai.mp hi).1
 obtain⟨u,r,lk⟩:=hl i x v hi hv (.inl hk);have hm:m x=some u:=by
  rcases lk with⟨_,e⟩|⟨k,_⟩
  exact e;have k':X.env.scope.names.lookup x=some .cell\/X.env.scope.names.lookup x=some .free:=k;rw[hk] at k';rcases k' with z|z <;> cases z
 refine wpAny_unbindName_local hk hn hm G λh' u' q0 hs=>?_;obtain⟨oL,_,_,q1,_⟩:=id hn;have l:HOk X.prog X.w H h':=λb ob e=>by refine(I.hok b ob e).stay (λc w' Z q=>(hs.2 c ?_).trans q) (λ_ q=>q) λ_ _ q=>q;rintro rfl;have hf:=I.free;rcases Z with rfl|Z;rw[hf] at e;cases e;rw[hf] at Z;cases Z
 refine h { s with heap:=h' } ⟨I.ok,I.os,I.bare,⟨λb o e n hb U=>?_,λb o e n hb U=>?_,I.base.free,λb o e U=>?_,I.base.tups,I.base.frzs,I.base.tbls⟩,⟨_,q0,λj y v' B W e3=>?_⟩,λy c e=>?_,I.free,I.freeC,λp hp=>?_,l,by simpa using I.len⟩;exact(hs.2 b (Az (A8 (Am e) I.ok.above))).trans (I.base.keep b o e n hb U);obtain⟨sl,B⟩:=I.base.slot b o e n hb U;exact⟨sl,(hs.2 b (Az (A8 (Am e) I.ok.above))).trans B⟩;obtain⟨o',B⟩:=I.base.there b o e U;exact⟨o',(hs.2 b (Az (A8 (Am e) I.ok.above))).trans B⟩;by_cases hj:j=i;subst hj;rw[Ar L] at W;cases W;rw[Ah (BS hj)] at W;obtain⟨w',r',q⟩:=hl j y v' B W e3;refine⟨w',r',?_⟩;rcases q with⟨k,e⟩|⟨k,c,e,z⟩
 refine .inl ⟨k,?_⟩;have:y≠x:=λe=>hj (lD hN B (e▸hi));simp[this,e];exact .inr ⟨k,c,e,z.sameBut hs (I.cne y c e)⟩;obtain⟨w',z⟩:=I.cell y c e;exact⟨w',z.sameBut hs (I.cne y c e)⟩;obtain⟨e,n,ne,nf,d⟩:=I.pin p hp;exact⟨(hs.2 p.1 ne).trans e,n,ne,nf,d⟩
end
noncomputable def oM(K:An)(C1 C:Addr):Bool:=match K.lookup C1 with|some ⟨_,_,.cls cd,_⟩=>cd.mro.contains (.ref C)|_=>false
section
variable {M:Ic} {A:AV} {E:Value->Ad->Prop}
theorem sD{h:Heap}{g:Array EN}{d:KT}{t:Nat}{os:G8}{e C Z:Addr}{oe:Obj}{Q:Bool->Ad->Prop}
 {nm q:Str} {N:Addr} {bs bm:List Value} {hdct:Bool} {sn:List Str} {sub:List Value} {ab:Bool} {col:Option Bool} {dd:Option Addr} {k0 k1 k2 k3 k5:Option Value} {newId:String}
 {w4 q':Str} {N':Addr} {q1 B:List Value} {I:Bool} {w5:List Str} {W:List Value} {q0:Bool} {L:Option Bool} {q2:Option Addr} {q6 q7 q8 q9 w3:Option Value} {l:String}
 (q3:h.get? Z=some (Ih nm q Z N bs bm hdct sn sub ab col dd k0 k1 k2 k3 k5 newId)) (hC:h.get? C=some (Ih w4 q' C N' q1 B I w5 W q0 L q2 q6 q7 q8 q9 w3 l))
 (he:h.get? e=some oe) (U:oe.cls=.ref Z) (G:B.contains (.type "BaseException")=true) (q5:(A5 Z::bm).contains (.ref C)=true)
 (hq:Q true ⟨h,g,d,t,os⟩):Ap M A (excMatches (.ref e) (.ref C)) Q E ⟨h,g,d,t,os⟩:=by
 have q4:(A5 C::B).contains (.type "BaseException")=true:=by rw[List.contains_cons,G,FS]
 have f:=tc_notTuple;unfold excMatches
 repeat (first|(with_reducible refine DP he ?_;rw[U])|with_reducible refine DP hC ?_|(with_reducible refine GC hC ?_;rw[q4])|(with_reducible refine GC q3 ?_;rw[q5])|wp_step)
 exact hq
end
theorem aEm{P:A0}{w:AH}{H:Hp}{h:Heap}{a C:Addr}{T:Option Addr}(r:Rec h a (.ref C) T):bQ P w H h a (excO a C):=by
 obtain⟨B,vs,G,M,l,hd,_⟩:=r;refine⟨⟨B,G,M,?_,?_⟩,⟨B,G⟩,λ_ _ ⟨o',I⟩ k=>⟨o',k o' I.at_,I.cls,I.no,?_⟩⟩;obtain⟨c,dd,L,sl⟩:=B;have hd:L=.fields vs:=hd;subst hd;rfl;rw[l];exact Dl;have z:=I.dict;cases q:o'.dict with
 | none=>exact Dl|some d=>rw[q] at z;exact z.elim
abbrev Cx.inTry(X:Cx)(pins:List (Addr×Obj))(E:Value->Ad->Prop):Cx:={ X with pn:=X.pn++pins,xe:=E }
abbrev Cx.inExc(X:Cx)(e:Value):Cx:={ X with A:=X.A.mark (some e),calm:=false,xe:=λ_ _=>False }
section
variable {X:Cx} {pins pins':List (Addr×Obj)} {σ:St} {H:Hp} {s:Ad} {E:Value->Ad->Prop}
theorem Inv.inTry(I:Inv X pins σ H s):Inv (X.inTry pins E) [] σ H s:=
 ⟨⟨I.ok.mod,I.ok.kind,I.ok.glob,I.ok.blt,I.ok.above,I.ok.inj,I.ok.has,I.ok.cab,I.ok.hd,I.ok.frames,I.ok.stk,I.ok.exf,I.ok.bs,I.ok.bsz,I.ok.noex,I.ok.exfs,I.ok.funs,I.ok.frf⟩,
  I.os,I.bare,I.base,I.loc,I.cell,I.free,I.freeC,λp l=>I.pin p (by simpa using l),I.hok,I.len⟩
theorem Inv.outTry(I:Inv (X.inTry pins E) pins' σ H s):Inv X pins σ H s:=
 ⟨⟨I.ok.mod,I.ok.kind,I.ok.glob,I.ok.blt,I.ok.above,I.ok.inj,I.ok.has,I.ok.cab,I.ok.hd,I.ok.frames,I.ok.stk,I.ok.exf,I.ok.bs,I.ok.bsz,I.ok.noex,I.ok.exfs,I.ok.funs,I.ok.frf⟩,
  I.os,I.bare,I.base,I.loc,I.cell,I.free,I.freeC,λp l=>I.pin p (AK _ l),I.hok,I.len⟩
theorem Inv.inExc{e:Value}(I:Inv X pins σ H s):Inv (X.inExc e) pins σ H s:=
 ⟨⟨I.ok.mod,I.ok.kind,I.ok.glob,I.ok.blt,I.ok.above,I.ok.inj,I.ok.has,I.ok.cab,(λz=>nomatch z),I.ok.frames,I.ok.stk,I.ok.exf,I.ok.bs,I.ok.bsz,I.ok.noex,I.ok.exfs,I.ok.funs,I.ok.frf⟩,
  I.os,I.bare,I.base,I.loc,I.cell,I.free,I.freeC,I.pin,I.hok,I.len⟩
theorem Inv.outExc{e:Value}(c:X.calm=true->X.A.handled=none)(I:Inv (X.inExc e) pins σ H s):Inv X pins σ H s:=
 ⟨⟨I.ok.mod,I.ok.kind,I.ok.glob,I.ok.blt,I.ok.above,I.ok.inj,I.ok.has,I.ok.cab,c,I.ok.frames,I.ok.stk,I.ok.exf,I.ok.bs,I.ok.bsz,I.ok.noex,I.ok.exfs,I.ok.funs,I.ok.frf⟩,
  I.os,I.bare,I.base,I.loc,I.cell,I.free,I.freeC,I.pin,I.hok,I.len⟩
theorem SP.outTry{D:Ends}{f:Flow}{l:Ad}(h:SP (X.inTry pins E) [] D f l):SP X pins D f l:=by
 cases f with
 | next=>obtain⟨σ',H',I,q⟩:=h;exact⟨σ',H',I.outTry,q⟩|brk=>obtain⟨σ',H',I,q⟩:=h;exact⟨σ',H',I.outTry,q⟩|cont=>obtain⟨σ',H',I,q⟩:=h;exact⟨σ',H',I.outTry,q⟩|ret u=>obtain⟨v,σ',H',I,r,q⟩:=h;exact⟨v,σ',H',I.outTry,r,q⟩
end
noncomputable def aMp(K:An)(C:Addr)(newOk:Addr->Prop)(iy jn:Nat)(D:Ends):Value->St->Hp->Prop:=λcls σ H=>∃C1,cls=.ref C1/\newOk C1/\oM K C1 C=true/\∀a,H a=none->D.nx ((((σ.set jn (some (.ref a))).set iy (some (.ref a))).set jn (some .non)).set jn none) (upd H a (excO a C1))
section
variable {X:Cx}
theorem aGY{K:An}{h:Heap}{G C:Addr}{o:Obj}(I:K.In h)(l:oM K G C=true)(q:h.get? G=some o):∃B,o.data=.cls B/\B.mro.contains (.ref C)=true:=by unfold oM at l;split at l;rename_i c d B sl L;have:=I _ _ L;rw[q] at this;cases this;exact⟨B,rfl,l⟩;cases l
theorem aBK{body:List BR}{tb:(Value->St->Hp->Prop)->TS}{x n y:Str}{C:Addr}{newId:String}{iy jn:Nat}{np yp q0 ap hp pos:CF}
 (hg:Gl X x) (hm:X.mg x=some (.ref C)) (hd:(x==("__debug__" : Str))=false) (qC:Ci X.K C bmV newId=true) (U:X.stack=X.env::X.outer)
 (hN:X.N.Nodup) (w9:X.N[iy]? = some y) (B:X.N[jn]? = some n) (hy:Loc X.env.scope y) (hn:X.env.scope.names.lookup n=some .local) (w7:X.fn y=true\/X.env.scope.names.lookup y=some .local)
 (w6:(n==("__debug__" : Str))=false) (w3:(n==("__classdict__" : Str))=false) (hs:G3 (.Name n q0) (some (.Name y yp)) ap.line X.env=pure false) (x7:iy≠jn)
 (hb:∀(pins:List (Addr×Obj)) (E:Value->Ad->Prop) (W0:Value->St->Hp->Prop),Fz (A2 X.prog X.w) X.A X.env E->Rs (X.inTry pins E) W0->PSs (X.inTry pins E) body (tb W0)) :
 PS X (.Try body [.ExceptHandler (some (.Name x np)) (some n) [.Assign [.Name y yp] (.Name n q0) ap] hp] [] [] pos)
  (λD σ H=>tb (aMp X.K C (λC1=>∃id,Ci X.K C1 bmV id=true) iy jn D) D σ H):=by
 intro pins s σ H D I h;refine wpAny_Try_except ?_;refine Cy (hb pins (λe L=>Ap (A2 X.prog X.w) X.A (G6 e X.env) (λ_ q7=>Ap (A2 X.prog X.w) X.A (G7 e none) (λ_ M=>Ap (A2 X.prog X.w) X.A (handleBy e X.env [.ExceptHandler (some (.Name x np)) (some n) [.Assign [.Name y yp] (.Name n q0) ap] hp]) (SP X pins D) X.xe M) X.xe q7) X.xe L) _ K7 ?_ [] s σ H D I.inTry h) (λf L q=>?_) λe L q=>q;intro pins' σ' H' s' a cls I1 fl hW;obtain⟨C1,rfl,⟨x8,q1⟩,w8,hD⟩:=hW;have W:Inv X pins σ' H' s':=I1.outTry;obtain⟨T,rc,Z⟩:=fl;have Z:∀b,(b=a\/T=some b)->¬ (Old X.s₀.heap b/\b∉X.ex)/\H' b=none/\b∉pinA X pins:=λb z=>⟨(Z b z).1,(Z b z).2.1,λy=>(Z b z).2.2 (by
  obtain⟨p,hp,e⟩:=AA.mp y;exact AA.mpr ⟨p,AK _ hp,e⟩)⟩
 have q5:X.env.frame=some X.env.locals:=by
  rcases W.ok.stk with z|⟨_,z⟩
  rw[U] at z;exact absurd (congrArg Fl z) (by simp);exact z
 show Ap (A2 X.prog X.w) X.A (G6 (.ref a) X.env) _ X.xe s';refine aBE (base:=X.base) (outer:=X.outer) (by rw[W.ok.frames,U]) (by rw[<-U];exact W.stack) q5 rc λh1 T1 l1 x1 r1=>?_;have I2:Inv X pins σ' H' { s' with heap:=h1 }:=W.note x1 (λb hb=>by rw[U];exact hb) (λb hb=>.inl (by unfold frs;rw[BY,q5];exact Ae _ hb)) rc Z;have z0:∀b,(b=a\/some T1=some b)->¬ (Old X.s₀.heap b/\b∉X.ex)/\H' b=none/\b∉pinA X pins:=λb z=>by rcases z with z|z;exact Z b (.inl z);cases z;rcases l1 with l1|l1;exact⟨λz=>absurd z.1.lt (Dp.mpr (AX W.sz l1)),W.hok.fresh l1,λz=>absurd (qM W _ z).lt (Dp.mpr l1)⟩;exact Z _ (.inr l1)
 refine wpAny_handleBy_cons (codeAny_handlers_test (eK (X:=X.inExc (.ref a)) I2.inExc hg hm ?_ hd)) (by intro q;cases q);obtain⟨z7,N1,u1,u4,z9,w4,u6,z3,z5,z1,x3,x9,v1,v3,v5,v7,v9,q2,_,_,_⟩:=vD (X:=X) I2.kIn q1;obtain⟨z8,N2,u2,u5,x0,w5,u7,z4,z6,z2,x4,v0,v2,v4,v6,v8,u0,q9,_,_,TL⟩:=vD (X:=X) I2.kIn qC;obtain⟨cd,e1,e2⟩:=aGY I2.kIn w8 q2;cases e1;obtain⟨oe,vs,he,hc,_,x6,hT⟩:=id r1;refine sD q2 q9 he hc (TL.hasType rfl) e2 ?_;refine codeAny_handlers_suite_as (aBJ r1 λh2 x2 r2=>?_);have I3:Inv X pins σ' H' { s' with heap:=h2 }:=Inv.note (s:={ s' with heap:=h1 }) (fr:=[]) I2 x2 (λb hb=>by cases hb) (λb hb=>.inr rfl) r1 z0;obtain⟨u3,u8,q4,x5,_,q3,_⟩:=id r2;have nl:a≠X.env.locals:=λz=>by obtain⟨m,⟨o,es,ep,G,l,_⟩,_⟩:=I3.loc;rw[<-z] at G;have G:h2.get? a=some o:=G;rw[q4] at G;cases G;rw[q3] at l;cases l
 have nc:∀x c,X.env.cells.lookup x=some c->c≠a:=λx c e z=>by obtain⟨v,o,G,l⟩:=I3.cell x c e;rw[z] at G;have G:h2.get? a=some o:=G;rw[q4] at G;cases G;rw[q3] at l;cases l
 have na:=Z a (.inl rfl);have I4:Inv X pins σ' (upd H' a (excO a C1)) { s' with heap:=h2 }:=I3.track (a:=a) (o:=excO a C1) na.1 na.2.1 na.2.2 nl nc (aEm r2);have q6:jn<σ'.length:=by rw[I3.len];exact(Ai.mp B).1
 refine iG (X:=X) (v:=.ref a) I4 hN B (.inl hn) rfl (λs4 I5=>?_) (.inr hn);refine Cy (pV (jE (X:=X.inExc (.ref a)) hN w9 hy (pT (i:=jn) B (.inl hn) w6 w3) hs w7) pins s4 _ _
  { nx:=λq8 H5=>q8=(σ'.set jn (some (.ref a))).set iy (some (.ref a))/\H5=upd H' a (excO a C1),rt:=λ_ _=>False,bk:=λ_ _=>False,ct:=λ_ _=>False } I5.inExc ⟨.ref a,Ar q6,rfl,rfl⟩) (λf s5 q=>?_) (λ_ _ z=>z.elim)
 cases f with
 | next=>obtain⟨q8,H5,I6,e5,e6⟩:=q;subst e5 e6;have I6:=I6.outExc W.ok.hd;show Ap (A2 X.prog X.w) X.A (do bindName X.env n .none;Gs X.env n hp) (λ_ M=>SP X pins D .next M) X.xe s5;refine Aa (wpAny_bindName (iG (v:=.non) I6 hN B (.inl hn) rfl (λs6 I7=>?_) (.inr hn)));unfold Gs;refine Ei (aAd (v:=.non) I7 hN B hn (Ar (by simpa using q6)) λs7 I8=>?_);exact⟨_,_,I8,hD a na.2.1⟩|brk=>obtain⟨_,_,_,z⟩:=q;exact z.elim|cont=>obtain⟨_,_,_,z⟩:=q;exact z.elim|ret u=>obtain⟨_,_,_,_,_,z⟩:=q;exact z.elim
 cases f with
 | next=>exact Eo (SP.outTry (f:=.next) q)|brk=>exact SP.outTry (f:=.brk) q|cont=>exact SP.outTry (f:=.cont) q|ret u=>exact SP.outTry (f:=.ret u) q
end
end L2
noncomputable section
set_option maxRecDepth 100000
namespace L2
open PySem PySem.Spec PyProof.Rows PySem.W
section
variable {prog:A0} {w:AH} {A:AV} {E:Value->Ad->Prop} {K:An} {h:Heap} {g:Array EN} {d:KT} {t:Nat} {os:G8} {a C:Addr} {o:Obj}
theorem aBL{tk:Tok}{Q:KP->Ad->Prop}(X:K.In h)(I:InstAt h a o C none)(g3:DZ K (.ref C) "__class__" = some (some (.builtin "object.__class__")))(hm:K8 K C (.type "object")=some true)(L:Q (.done (.ret (.ref C))) ⟨h,g,d,t,os⟩) :
 Ap (A2 prog w) A (C4.«object.__getattribute__» ⟨[.ref a,.str "__class__" tk],[]⟩) Q E ⟨h,g,d,t,os⟩:=by
 have G:=I.at_;have B:=I.cls;have l:(⟨h,g,d,t,os⟩:Ad).TypeIs (.builtin "object.__class__") "getset_descriptor" := Gi;have f5:=Gi;have f6:=F.slot_gs_get.lookup;have f7:=F.slot_gs_set.lookup
 repeat (any_goals (first|assumption|(with_reducible refine DP G ?_;rw[B])|with_reducible refine(Hw X g3).at ?_|wp_step))
 refine class_get (s:=⟨h,g,d,t,os⟩) X I hm ?_
 repeat (any_goals (first|assumption|wp_step))
theorem aBM{M:Ic}{l:Value}{Q:Unit->Ad->Prop}(X:K.In h)(I:InstAt h a o C none)(hb:K9 K (.ref C) (.type "BaseException")=some true)(U:Q () ⟨h,g,d,t,os⟩) :
 Ap M A (F5 "BaseException.__getattribute__" ⟨[.ref a,l],[]⟩) Q E ⟨h,g,d,t,os⟩:=by
 have L:builtinKind "BaseException.__getattribute__" = some .slot:=by decide +kernel
 have B:splitId "BaseException.__getattribute__" = some ("BaseException", "__getattribute__"):=by decide +kernel
 have W:=F.args_bexc_ga (.ref a) l;have G:Looks M h (isInstance (.ref a) (.type "BaseException")) true:=(I.type (M:=M)).andThen (looks_subIn X hb);simp only[F5,L,B];refine Aa (G.at ?_)
 repeat (first|wp_step)
 exact U
theorem aEn{tk:Tok}{R:GS->Ad->Prop}(X:K.In h)(I:InstAt h a o C none)(hb:K9 K (.ref C) (.type "BaseException")=some true)(g3:DZ K (.ref C) "__class__" = some (some (.builtin "object.__class__")))(hm:K8 K C (.type "object")=some true)(l:R (.ok (.ret (.ref C))) ⟨h,g,d,t,os⟩) :
 Dh (A2 prog w) A (.call (.builtin "BaseException.__getattribute__") ⟨[.ref a,.str "__class__" tk],[]⟩) R ⟨h,g,d,t,os⟩:=
 Gu Gj.ga.plain F.entry_bexc_ga (aBM X I hb (aBL X I g3 hm l))
theorem aJu{tk:Tok}{fill l:Bool}{Q:Value->Ad->Prop}(X:K.In h)(I:InstAt h a o C none)(hb:K9 K (.ref C) (.type "BaseException")=some true)(g1:DZ K (.ref C) "__getattribute__" = some (some (.builtin "BaseException.__getattribute__")))(g2:DZ K (.ref C) "__getattr__" = some none)
 (g3:DZ K (.ref C) "__class__" = some (some (.builtin "object.__class__"))) (hm:K8 K C (.type "object")=some true) (W:Q (.ref C) ⟨h,g,d,t,os⟩) :
 Ap (A2 prog w) A (getAttrBy (.ref a) (.str "__class__" tk) fill l) Q E ⟨h,g,d,t,os⟩:=by
 have L:=I.at_;have G:=I.cls;have f3:=Gj.ga.bind (.ref a);have M:(l&&onTheHeap (Ej "BaseException.__getattribute__"))=false:=by cases l <;> rfl
 have B:(Ej "BaseException.__getattribute__" == Ej "object.__getattribute__")=false:=by decide +kernel
 have U:(onTheHeap (A5 C)&&Ej "BaseException.__getattribute__" == Ej "object.__getattribute__")=false:=by rw[B];rfl
 repeat (any_goals (first|assumption|(with_reducible refine DP L ?_;rw[G])|with_reducible refine(Hw X g1).at ?_|with_reducible refine(Hw X g2).at ?_|wp_step))
 refine aEn X I hb g3 hm ?_
 repeat (any_goals (first|assumption|wp_step))
theorem aEo{Q:Option Value->Ad->Prop}(X:K.In h)(I:InstAt h a o C none)(hb:K9 K (.ref C) (.type "BaseException")=some true)(g1:DZ K (.ref C) "__getattribute__" = some (some (.builtin "BaseException.__getattribute__")))(g2:DZ K (.ref C) "__getattr__" = some none)
 (g3:DZ K (.ref C) "__class__" = some (some (.builtin "object.__class__"))) (hm:K8 K C (.type "object")=some true) (l:Q (some (.ref C)) ⟨h,g,d,t+1,os⟩):Ap (A2 prog w) A (getAttr? (.ref a) "__class__") Q E ⟨h,g,d,t,os⟩:=by
 unfold getAttr? getAttrBy?
 repeat (any_goals (first|assumption|with_reducible apply aJu X I hb g1 g2 g3 hm|wp_step))
end
structure XC (K:An) (C:Addr):Prop where
 isc:(clsIn K C).isSome=true
 hb:K9 K (.ref C) (.type "BaseException")=some true
 g1:DZ K (.ref C) "__getattribute__" = some (some (.builtin "BaseException.__getattribute__"))
 g2:DZ K (.ref C) "__getattr__" = some none
 g3:DZ K (.ref C) "__class__" = some (some (.builtin "object.__class__"))
 hm:K8 K C (.type "object")=some true
theorem sF{K:An}{a C:Addr}(c:XC K C):KitX K (.ref a) (.ref C) (λh=>∃o,InstAt h a o C none) where
 ty:=λ_ _ _ ⟨_,I⟩=>I.type
 it:=λ_ _ X _=>by obtain⟨G,l⟩:=CI.mp c.isc;unfold clsIn at l;split at l;rename_i W d' B U L;intro A' Q' E' s' k q;unfold isType loadHead;exact Aa (IF (k _ _ (X _ _ L)) (Af q));cases l
 ne:=λh Z dd its n sl X M=>by obtain⟨G,l⟩:=CI.mp c.isc;refine Bool.eq_false_iff.mpr λq=>?_;have e:C=Z:=Value.ref.inj (beq_iff_eq.mp q);subst e;unfold clsIn at l;split at l;rename_i W d' B U L;have z:=(X _ _ L).symm.trans M;cases z;cases l
 ca:=λ{prog w A E Q s} X ⟨o,I⟩ k=>by obtain⟨h,g,d,t,os⟩:=s;exact aEo X I c.hb c.g1 c.g2 c.g3 c.hm k
end L2
end
namespace Hp
open PySem PySem.Spec PyProof.Rows L2
noncomputable def Rr(K:Fg)(H H':Hp)(Y:Addr->Prop)(r:Rt)(u:V):Prop:=
 if r.2.1=true then ∃a xs ds,u=.ref a/\r.1=.lst ds/\H a=none/\H' a=some (.lst xs)/\Reps K H' (λb=>b=a\/Y b\/(r.2.2=false/\H b≠none)) ds xs
 else Rep K H' (λb=>Y b\/(r.2.2=false/\H b≠none)) r.1 u
noncomputable def REx{α:Type}(w:D->Prop):R α->(α->Prop)->Prop
 | .ok a,p=>p a|.exc x,_=>w x|.bad,_=>False
theorem RE.x{α:Type}{x:R α}{p:α->Prop}(w:D->Prop)(h:RE x p):REx w x p:=by
 cases x with
 | ok a=>exact h|_=>exact h.elim
theorem REx.mono{α:Type}{x:R α}{p q:α->Prop}{w l:D->Prop}(h:REx w x p)(f:∀a,p a->q a)(g:∀x,w x->l x):REx l x q:=by
 cases x with
 | ok a=>exact f a h|exc e=>exact g e h|bad=>exact h
noncomputable def xE(K:Fg)(H:Hp)(E:XK)(x:D):Prop:=∃c,x=dS c/\∀(cls:Value) (H':Hp),Br K AB c=some (some cls)->Tk K H'->aE H H'->E cls none H'
noncomputable def XW(X:Cx)(σV:L2.St)(H:Hp)(x:D):Prop:=∃c,x=dS c/\∀cls,Br X.K AB c=some (some cls)->RX X cls σV H
noncomputable def spF(K:Fg)(P:Pg)(n:Nat)(f:Nat):Sp:=λvs H Q E=>∃(ds:List D) (Y:Addr->Prop),(∀a,Y a->H a≠none)/\Reps K H Y ds vs/\REx (xE K H E) (call P n f ds) λr=>∀u H',Tk K H'->aE H H'->Rr K H H' Y r u->Q u H'
noncomputable def spI(K:Fg)(P:Pg)(n f:Nat)(c:Str):Sp:=λvs H Q _=>∃(C x dx:Addr) (ds:List D) (us:List V) (r:Rt),vs=.ref x::us/\ds.length=us.length/\H x=some (.ins C dx [])/\Br K AB c=some (some (.ref C)) /\
 call P n f (.err 0 [.int 0,.str c]::ds)=.ok r/\(Tk K H->∃Y:Addr->Prop,(∀a,Y a->H a≠none)/\Y x/\Reps K H Y ds us/\∀H',Tk K H'->(∀a o,H a=some o->a≠x->H' a=some o)->Rep K H' (λb=>Y b/\b≠x) r.1 (.ref x)->Q .non H')
noncomputable def bltNames:List Str:=["len", "list", "tuple", "int", "str", "all", "sorted", "bool", "range", "zip", "enumerate", "reversed", "set", "isinstance", "dict", "ValueError"]
structure oN (K:Fg) (mg:Str->Option Value) (cls:List Str) (c:Str) (ab:List Cl) (C:Addr):Prop where
 bd:mg c=some (.ref C)
 ns:Br K AB c=some (some (.ref C))
 ex:Ci K C bmV "ValueError.__new__" = true
 xc:XC K C
 ve:CP K (.ref C) (.type "ValueError")=some (ab.contains .tValueError)
 ow:∀x∈cls,∃C2,mg x=some (.ref C2)/\CP K (.ref C) (.ref C2)=some (ab.contains (.own x))/\(ab.contains (.own x)=true->oM K C C2=true/\Ci K C2 bmV "ValueError.__new__" = true)
structure Md (X:Cx) (P:Pg) (Γ:Ct) (n:Nat):Prop where
 fn:∀(f:Nat) (x:Str),Γ.fns[f]? = some x->∃fa fd ps,X.mg x=some (.ref fa)/\CO X.K (.ref fa)=true/\bZ X.K fd ps []/\dG X.prog X.w X.K X.mg X.base (CX1 X.prog X.w) n fa fd ps (spF X.K P n f)
 blt:∀x∈bltNames,X.mg x=none
 cns:∀(x:Str) (d:D),Γ.cns.lookup x=some d->∃u v,X.mg x=some u/\aP v u/\∀H ex,Rep X.K H ex d v
 tab:∀(i:Nat) (x:Str),Γ.tbs[i]? = some x->∃a t,X.mg x=some (.ref a)/\P.tabs[i]? = some t/\oG X.prog X.w X.K a t
 obj:∀(c:Str) (k:List Str×List (Str×Nat)),P.objs.lookup c=some k->∃C,Br X.K AB c=some (some (.ref C))/\Cls X.K C/\(∀f,k.1.contains f=true->cT X.K C f)/\∀m f,k.2.lookup m=some f->∃fa fd ps,rM X.K C m fa/\bZ X.K fd ps []/\dG X.prog X.w X.K X.mg X.base (CX1 X.prog X.w) n fa fd ps (spF X.K P n f)
 mkr:∀(j:Nat) (c:Str),Γ.obs[j]? = some c->∃k C fi fa fd ps,P.objs[j]? = some (c,k)/\Br X.K AB c=some (some (.ref C))/\k.2.lookup ("__init__" : Str)=some fi/\X.mg c=some (.ref C)/\Mk X.K C fa/\bZ X.K fd ps [] /\
  ∀n',n=n'+1->dG X.prog X.w X.K X.mg X.base CX0 n' fa fd ps (spI X.K P n' fi c)
 exc:∀(c:Str) (ab:List Cl),P.above.lookup c=some ab->∃C,oN X.K X.mg Γ.cls c ab C
 rsd:∀c∈Γ.rsd,∃ab,P.above.lookup c=some ab
 cls:∀x∈Γ.cls,∃C2,X.mg x=some (.ref C2)
structure Mc (X:Cx) (P:Pg) (Γ:Ct) (n:Nat):Prop where
 md:Md X P Γ n
 N:X.N=Γ.N
 nd:X.N.Nodup
 sc:X.env.scope.names=Γ.sc
 calm:X.calm=true
 room:dQ n X.A
 own:Fz (A2 X.prog X.w) X.A X.env X.xe
 st:∀x:Str,rW Γ x=true->X.fn x=true\/X.env.scope.names.lookup x=some .local
 fk:X.env.scope.kind=.function
 stk:Γ.fn=true->X.stack=X.env::X.outer
section
variable {X:Cx} {P:Pg} {Γ:Ct} {n:Nat}
theorem Mc.inTry(M:Mc X P Γ n){pins:List (Addr×Obj)}{E:Value->Ad->Prop}(h:Fz (A2 X.prog X.w) X.A X.env E):Mc (X.inTry pins E) P Γ n:=
 ⟨⟨M.md.fn,M.md.blt,M.md.cns,M.md.tab,M.md.obj,M.md.mkr,M.md.exc,M.md.rsd,M.md.cls⟩,M.N,M.nd,M.sc,M.calm,M.room,h,M.st,M.fk,M.stk⟩
theorem aBN{P:A0}{w:AH}{X:Cx}:fB (CX1 P w) X E0:=λ_ _ _ _ _ _ _ h=>by obtain⟨_,_,_,_,_,_,_,_,_,z⟩:=h;exact z.elim
theorem Mc.units(M:Mc X P Γ n):X.A.units+200<cLine:=by have:=M.room.un;omega
theorem Mc.vis(M:Mc X P Γ n){x:Str}(h:aBs Γ x=true):Vis X.env.scope x:=by
 unfold aBs at h;unfold Vis;rw[M.sc];cases q:Γ.sc.lookup x with
 | none=>rw[q] at h;cases h|some k=>rw[q] at h;cases k <;> first|exact .inl rfl|exact .inr (.inl rfl)|exact .inr (.inr rfl)|cases h
theorem Mc.loc(M:Mc X P Γ n){x:Str}(h:rW Γ x=true):L2.Loc X.env.scope x:=by
 unfold rW at h;unfold L2.Loc;rw[M.sc];cases q:Γ.sc.lookup x with
 | none=>rw[q] at h;cases h|some k=>rw[q] at h;cases k <;> first|exact .inl rfl|exact .inr rfl|cases h
theorem Mc.gl(M:Mc X P Γ n){x:Str}(h:bD Γ x=true):Gl X x:=by
 unfold bD at h;unfold Gl;show X.env.scope.names.lookup x=_;rw[M.sc];cases q:Γ.sc.lookup x with
 | none=>rw[q] at h;cases h|some k=>rw[q] at h;cases k <;> first|rfl|cases h
theorem aJ{x:Str}(h:aX x=true):(x==("__debug__" : Str))=false:=by unfold aX at h;simp only[bA,CD] at h;exact h.1
theorem fV{x:Str}(h:aX x=true):(x==("__classdict__" : Str))=false:=by unfold aX at h;simp only[bA,CD] at h;exact h.2
theorem aGZ:∀{d d':D},eqK d d'=true->d=d':=by intro d d' h;cases d <;> cases d' <;> simp[eqK] at h <;> first|rfl|(subst h;rfl)
noncomputable def aI:Av->Bool
 | .Starred _ _=>false|.Slice _ _ _ _=>false|.Set _ _ _=>false|_=>true
theorem sG{α:Type}{o:Option α}{f:α->Bool}(h:oB o f=true):∃a,o=some a/\f a=true:=by
 cases o with
 | none=>cases h|some a=>exact⟨a,rfl,h⟩
theorem aC{α:Type}{q:α->Prop}{o:Option { a:α // q a }}{f:α->Bool}(h:oS o f=true):∃a,q a/\f a=true:=by
 cases o with
 | none=>cases h|some a=>exact⟨a.1,a.2,h⟩
theorem aF{c:E}{e:Av}(h:aL Γ c e=true):aI e=true:=by
 cases c with
 | c d=>rcases(BZ _ _).mp (show(oS (asC e) (eqC d)||oS (asN e) λx=>bD Γ x&&aX x&&oB (Γ.cns.lookup x) (eqK d))=true from h) with h|h;obtain⟨_,⟨_,_,rfl⟩,_⟩:=aC h;rfl;obtain⟨_,⟨_,rfl⟩,_⟩:=aC h;rfl
 | v i=>obtain⟨_,⟨_,rfl⟩,_⟩:=aC h;rfl|op o a b=>obtain⟨_,⟨_,rfl⟩,_⟩:=aC h;rfl|neg a=>obtain⟨_,⟨_,rfl⟩,_⟩:=aC h;rfl|nt a=>obtain⟨_,⟨_,rfl⟩,_⟩:=aC h;rfl|an a b=>obtain⟨_,rfl,_⟩:=aC h;rfl|orr a b=>obtain⟨_,rfl,_⟩:=aC h;rfl|ife t a b=>obtain⟨_,⟨_,rfl⟩,_⟩:=aC h;rfl|cmp o a b=>obtain⟨_,⟨_,rfl⟩,_⟩:=aC h;rfl|fld j f=>obtain⟨_,⟨_,_,rfl⟩,_⟩:=aC h;rfl|mcl j m es=>obtain⟨_,⟨_,_,rfl,_⟩,_⟩:=aC h;rfl|mk j es=>obtain⟨_,⟨_,_,rfl⟩,_⟩:=aC h;rfl|dgl o k=>obtain⟨_,⟨_,_,rfl,_⟩,_⟩:=aC h;rfl|isx _ _=>obtain⟨_,⟨_,_,rfl⟩,_⟩:=aC h;rfl|emp=>obtain⟨_,⟨_,rfl⟩,_⟩:=aC h;rfl|lrv _=>obtain⟨_,⟨_,_,rfl⟩,_⟩:=aC h;rfl|hid _ a=>obtain⟨_,⟨_,rfl⟩,_⟩:=aC h;rfl|grp j=>cases h|sset a=>obtain⟨_,⟨_,_,rfl⟩,_⟩:=aC h;rfl|cmp2 l B a b c=>obtain⟨_,⟨_,rfl⟩,_⟩:=aC h;rfl|idx a b=>obtain⟨_,⟨_,rfl⟩,_⟩:=aC h;rfl|sli a lo hi=>obtain⟨_,⟨_,rfl⟩,_⟩:=aC h;rfl|tup es=>obtain⟨_,⟨_,_,rfl⟩,_⟩:=aC h;rfl|lst es=>obtain⟨_,⟨_,rfl⟩,_⟩:=aC h;rfl|call f es=>obtain⟨_,⟨_,_,rfl⟩,_⟩:=aC h;rfl|bi b es=>obtain⟨_,⟨_,_,rfl⟩,_⟩:=aC h;rfl|isi a cs=>obtain⟨_,⟨_,_,rfl⟩,_⟩:=aC h;rfl|comp k caps t it cond elt=>obtain⟨_,⟨_,rfl⟩,_⟩:=aC h;rfl
theorem aB{e:Av}{es:List Av}{env:GG}(h:aI e=true):A6 (e::es) env=(false,Cc e env)::A6 es env:=by cases e <;> first|rfl|cases h
theorem cH:∀{cs:Es} {es:List Av},chkEs Γ cs es=true->es.all aI=true
 | .nil,[],_=>rfl|.nil,_::_,h=>by cases h|.cons _ _,[],h=>by cases h|.cons c cs,e::es,h=>by simp only[chkEs,bA] at h;rw[Fq,aF h.1,cH h.2];rfl
theorem bC{pos:CF}{env:GG}:∀{es:List Av},es.all aI=true->(BQ pos (A6 es env)).any (·.1)=false
 | [],_=>rfl|e::es,h=>by rw[Fq,bA] at h;rw[aB h.1];show(false||(BQ pos (A6 es env)).any (·.1))=false;rw[bC h.2];rfl
theorem gY{e:Av}(h:aI e=true):wR e:=by intro o i;cases e <;> first|rfl|cases h
theorem fW{e:Av}{env:GG}(h:aI e=true):∀x,BV e env x=pure x:=by intro x;cases e <;> first|rfl|cases h
theorem mD{op:CmpOp}{e:Av}(h:aI e=true):GI op e=false:=by cases e <;> first|rfl|cases h
variable {RT Y J:Addr->Prop} {σ:Sg} {pos:CF}
abbrev WE(X:Cx)(P:Pg)(n:Nat)(RT Y J:Addr->Prop)(σ:Sg)(c:E):TE:=wE X P (call P n) RT Y J σ c
abbrev WT(X:Cx)(P:Pg)(n:Nat)(RT Y J:Addr->Prop)(σ:Sg)(c:E):TT:=wT X P (call P n) RT Y J σ c
abbrev WA(X:Cx)(P:Pg)(n:Nat)(RT Y J:Addr->Prop)(σ:Sg)(c:Es):TA:=wA X P (call P n) RT Y J σ c
theorem RE.bind'{α l:Type}{x:R α}{f:α->R l}{p:l->Prop}(h:RE (x >>= f) p):RE x λa=>RE (f a) p:=by rwa [RE.bind] at h
theorem wE.one{a:E}{σV:L2.St}{H:Hp}{p:Vl->Prop}{Q:V->Hp->Prop}(S:Sx X.K RT Y J σ σV H)(h:RE (ev P (call P n) σ a) p)
 (f:∀x u H',p x->Tk X.K H'->Sx X.K RT Y J σ σV H'->Ro X.K RT Y J σ σV H H' x u->Q u H'):WE X P n RT Y J σ a σV H Q:=
 ⟨S,h.mono λx l u H' t r=>f x u H' l t (S.grow r.1 t) r⟩
theorem aMq{o:Operator}{a b:E}{ea eb:Av}(ha:PE X ea (WE X P n RT Y J σ a))(hb:PE X eb (WE X P n RT Y J σ b)):PE X (.BinOp ea o eb pos) (WE X P n RT Y J σ (.op o a b)):=by
 intro pins s σV H Q I hw;obtain⟨S,h⟩:=hw;have h:=RE.bind' (show RE (ev P (call P n) σ a >>= λx=>ev P (call P n) σ b >>= λy=>opD o x y) _ from h);refine wpAny_BinOp (thn (ha pins s σV H (λux H1=>WE X P n RT Y J σ b σV H1 λuy l=>∃x y,Sx X.K RT Y J σ σV l/\aE H l/\Rv X.K RT Y J σ σV l x ux/\Rv X.K RT Y J σ σV l y uy/\(x.fr=true->∃a xs,ux=.ref a/\l a=some (.lst xs))/\RE (opD o x y) (Wn X RT Y J σ σV H Q)) I
  (wE.one S h λx u H1 M t1 Z W=>wE.one Z (RE.bind' M) λy u' l U t2 G B=>⟨x,y,G,W.1.trans B.1,(W.rv S).grow B.1,B.rv Z,λL=>?_,U⟩)) λv s1 ⟨x',H1,I1,rx,q1⟩=>thn (hb pins s1 σV H1 _ I1 q1) λu s2 ⟨y',l,I2,ry,q2⟩=>?_)
 have:=W.2;rw[if_pos L] at this;obtain⟨a',xs,ds,e1,_,_,e4,_⟩:=this;exact⟨a',xs,e1,B.1 _ _ e4⟩;obtain⟨x,y,G,sm,M,U,L,h⟩:=q2;exact aBz I2 G rx ry M U L (h.mono λv hv u H' t r=>hv u H' t (r.from sm))
theorem aJv{a:E}{B:Av}(L:PE X B (WE X P n RT Y J σ a)):PE X (.UnaryOp .USub B pos) (WE X P n RT Y J σ (.neg a)):=by refine(aIU aGC L).imp λσV H Q t ⟨S,h⟩=>?_;have h:=RE.bind' (show RE (ev P (call P n) σ a >>= λx=>(match x.d with|.int i=>R.ok (Vl.cl (.int (-i)))|_=>.bad)) _ from h);refine wE.one S h λx u H1 l U M G=>?_;split at l;rename_i i I;exact⟨i,(G.rv S).int I,λt'=>l _ _ t' (Ro.cl G.1 rfl)⟩;exact l.elim
theorem aBO{H:Hp}{σV:L2.St}{x:Vl}{u:V}{k:Bool}(l:Rv X.K RT Y J σ σV H x u)(h:aBp x.d=some k):aDQ X.K u H k:=by unfold aBp at h;split at h;rename_i b d;rw[l.bl d];exact(Au h).symm;cases h
theorem RE.tru{x:Vl}{p:Bool->Prop}(h:RE (cV x) p):∃k,aBp x.d=some k/\p k:=by
 unfold cV at h;cases q:aBp x.d with
 | none=>rw[q] at h;exact h.elim|some k=>rw[q] at h;exact⟨k,rfl,h⟩
theorem aJw{a:E}{B:Av}(ha:PE X B (WE X P n RT Y J σ a)):PE X (.UnaryOp .Not B pos) (WE X P n RT Y J σ (.nt a)):=by intro pins s σV H Q I hw;obtain⟨S,h⟩:=hw;have h:=RE.bind' (show RE (ev P (call P n) σ a >>= λx=>cV x >>= λk=>R.ok (Vl.cl (.bl (!k)))) _ from h);refine UnaryOp_ (thn (ha pins s σV H (λu H1=>∃k,aDQ X.K u H1 k/\Q (.bl (!k)) H1) I (wE.one S h λx u H1 hx t1 S1 G=>?_)) λv s1 ⟨u,H1,M,ru,k,l,q⟩=>?_);obtain⟨k,l,hp⟩:=RE.tru (RE.bind' hx);exact⟨k,aBO (G.rv S) l,(show Wn X RT Y J σ σV H Q (Vl.cl (.bl (!k))) from hp) _ _ t1 (Ro.cl G.1 rfl)⟩;refine not_of (thn (aAZ pins s1 σV H1 u v (λk' H'=>k'=k/\H'=H1) M ru ⟨k,l,rfl,rfl⟩) λb s2 ⟨L,U,W,Z⟩=>?_);subst W Z;exact⟨.bl (!b),L,U,rfl,q⟩
theorem mE{c:E}{e:Av}(G:PE X e (WE X P n RT Y J σ c))(L:∀l,isTrue e X.env l=(do let v<-l;Hj e.pos;FK [v] (truthy v)))
 (I:∀p,RE (tst P (call P n) σ c) p->RE (ev P (call P n) σ c) λx=>RE (cV x) p):PT X e (WT X P n RT Y J σ c):=by refine(aBa G L).imp λσV H Q t ⟨S,h⟩=>?_;refine wE.one S (I _ h) λx u H1 W t1 Z B=>?_;obtain⟨k,M,U⟩:=RE.tru W;exact⟨k,aBO (B.rv S) M,λt'=>U _ t' B.1⟩
theorem aJx{a b:E}{I L:Av}{r:List Av}(U:PE X I (WE X P n RT Y J σ a))(hb:PE X (.BoolOp .And (L::r) pos) (WE X P n RT Y J σ b)):PE X (.BoolOp .And (I::L::r) pos) (WE X P n RT Y J σ (.an a b)):=by refine(aGq U hb).imp λσV H Q t ⟨S,h⟩=>?_;have h:=RE.bind' (show RE (ev P (call P n) σ a >>= λx=>(match x.d with|.bl true=>ev P (call P n) σ b|.bl false=>R.ok (Vl.cl (.bl false))|_=>.bad)) _ from h);refine wE.one S h λx u H1 l Z M B=>?_;split at l;rename_i G;refine⟨true,(B.rv S).bl G,?_⟩;rw[if_pos rfl];exact⟨M,l.mono λv W u H' t r=>λ_=>W u H' t (r.from B.1)⟩;rename_i G;refine⟨false,(B.rv S).bl G,?_⟩;rw[if_neg bN];exact λt'=>l _ _ t' (Ro.cl B.1 rfl);exact l.elim
theorem aFL{a b:E}{I L:Av}{r:List Av}(U:PE X I (WE X P n RT Y J σ a))(hb:PE X (.BoolOp .Or (L::r) pos) (WE X P n RT Y J σ b)):PE X (.BoolOp .Or (I::L::r) pos) (WE X P n RT Y J σ (.orr a b)):=by refine(aIJ U hb).imp λσV H Q t ⟨S,h⟩=>?_;have h:=RE.bind' (show RE (ev P (call P n) σ a >>= λx=>(match x.d with|.bl true=>R.ok (Vl.cl (.bl true))|.bl false=>ev P (call P n) σ b|_=>.bad)) _ from h);refine wE.one S h λx u H1 l Z M B=>?_;split at l;rename_i G;refine⟨true,(B.rv S).bl G,?_⟩;rw[if_pos rfl];exact λt'=>l _ _ t' (Ro.cl B.1 rfl);rename_i G;refine⟨false,(B.rv S).bl G,?_⟩;rw[if_neg bN];exact⟨M,l.mono λv W u H' t r=>λ_=>W u H' t (r.from B.1)⟩;exact l.elim
theorem aJy{t a b:E}{L G I:Av}(W:PT X L (WT X P n RT Y J σ t))(U:PE X G (WE X P n RT Y J σ a))(hb:PE X I (WE X P n RT Y J σ b)):PE X (.IfExp L G I pos) (WE X P n RT Y J σ (.ife t a b)):=by
 refine(aAQ W U hb).imp λσV H Q Z ⟨S,h⟩=>?_;have h:=RE.bind' (show RE (tst P (call P n) σ t >>= λx=>if x=true then ev P (call P n) σ a else ev P (call P n) σ b) _ from h);refine⟨S,h.mono λk l H1 M s1=>?_⟩;cases k with
 | true=>rw[if_pos rfl] at l ⊢;exact⟨S.grow s1 M,l.mono λv B u H' t r=>λ_=>B u H' t (r.from s1)⟩|false=>rw[if_neg bN] at l ⊢;exact⟨S.grow s1 M,l.mono λv B u H' t r=>λ_=>B u H' t (r.from s1)⟩
noncomputable def w2(X:Cx)(P:Pg)(n:Nat)(RT Y J:Addr->Prop)(σ:Sg)(σV:L2.St)(H:Hp)(p:Vl->Vl->Prop)(ux uy:V)(H2:Hp):Prop:=
 ∃x y,Sx X.K RT Y J σ σV H2/\aE H H2/\Rv X.K RT Y J σ σV H2 x ux/\Rv X.K RT Y J σ σV H2 y uy/\p x y
theorem fX(M:Mc X P Γ n)(o:CmpOp):OpR X (C9 o) (λl B H Q=>∃(σ:Sg) (σV:L2.St) (x y:Vl) (k:Bool),Rv X.K RT Y J σ σV H x l/\Rv X.K RT Y J σ σV H y B/\bL o x.d y.d=some k/\Q (.bl k) H):=by intro pins s σV H l B v u Q I Z ry h;obtain⟨σ',G,x,y,k,U,W,L,q⟩:=h;exact zV I M.units Z ry U W L q
theorem aJz(M:Mc X P Γ n){o:CmpOp}{a b:E}{I B:Av}(L:PE X I (WE X P n RT Y J σ a))(hb:PE X B (WE X P n RT Y J σ b))(l:aI B=true):PE X (.Compare I [o] [B] pos) (WE X P n RT Y J σ (.cmp o a b)):=by refine(aDO (fX (RT:=RT) (Y:=Y) (J:=J) M o) L hb (mD l)).imp λσV H Q t ⟨S,h⟩=>?_;have h:=RE.bind' (show RE (ev P (call P n) σ a >>= λx=>ev P (call P n) σ b >>= λy=>(match bL o x.d y.d with|some k=>R.ok (Vl.cl (.bl k))|none=>.bad)) _ from h);refine wE.two S (h.mono λx G=>RE.bind' G) λx y ux uy Z l t2 s2 S2 G W=>?_;split at l;rename_i k U;exact⟨σ,σV,x,y,k,G,W,U,λt'=>l _ _ t' (Ro.cl s2 rfl)⟩;exact l.elim
theorem cK(M:Mc X P Γ n){o:CmpOp}{a b:E}{I B:Av}(L:PE X I (WE X P n RT Y J σ a))(hb:PE X B (WE X P n RT Y J σ b))(l:aI B=true):PT X (.Compare I [o] [B] pos) (WT X P n RT Y J σ (.cmp o a b)):=by refine(aDP (fX (RT:=RT) (Y:=Y) (J:=J) M o) L hb (mD l)).imp λσV H Q t ⟨S,h⟩=>?_;have h:=RE.bind' (show RE (ev P (call P n) σ a >>= λx=>ev P (call P n) σ b >>= λy=>(match bL o x.d y.d with|some k=>R.ok k|none=>.bad)) _ from h);refine wE.two S (h.mono λx G=>RE.bind' G) λx y ux uy Z l t2 s2 S2 G W=>?_;split at l;rename_i k U;exact⟨σ,σV,x,y,k,G,W,U,k,rfl,λt'=>l _ t' s2⟩;exact l.elim
theorem aJA{a b:E}{I l:Av}(L:PE X I (WE X P n RT Y J σ a))(hb:PE X l (WE X P n RT Y J σ b))(B:aI l=true):PE X (.Subscript I l pos) (WE X P n RT Y J σ (.idx a b)):=by refine(aBj aGL L hb (gY B)).imp λσV H Q t ⟨S,h⟩=>?_;have h:=RE.bind' (show RE (ev P (call P n) σ a >>= λx=>ev P (call P n) σ b >>= λy=>nO x y) _ from h);refine wE.two S (h.mono λx G=>RE.bind' G) λx y ux uy Z B W s2 S2 G U=>?_;exact zW W G U (B.mono λv M u H' t r=>M u H' t (r.from s2))
theorem sJ:PA X [] (WA X P n RT Y J σ .nil):=cU.imp λσV H Q t ⟨S,h⟩ t'=>h [] H t' (aE.refl H) rfl
theorem hG{c:E}{cs:Es}{e:Av}{es:List Av}(I:PE X e (WE X P n RT Y J σ c))(M:PA X es (WA X P n RT Y J σ cs))(L:aI e=true):PA X (e::es) (WA X P n RT Y J σ (.cons c cs)):=by
 refine(bV I M (aB L)).imp λσV H Q t ⟨S,h⟩=>?_;have h:=RE.bind' (show RE (ev P (call P n) σ c >>= λx=>evs P (call P n) σ cs >>= λxs=>R.ok (x::xs)) _ from h);refine wE.one S h λx u H1 W t1 G l=>⟨G,(RE.bind' W).mono λvs U us B t2 s2 Z t'=>?_⟩
 exact U (u::us) B t' (l.1.trans s2) ⟨u,us,rfl,(l.rv S).grow s2,Z⟩
theorem qN:∀{cs:Es} {es:List Av} {vs:List Vl},chkEs Γ cs es=true->evs P (call P n) σ cs=.ok vs->vs.length=es.length
 | .nil,[],vs,_,h=>by cases(show R.ok []=R.ok vs from h);rfl|.nil,_::_,_,h,_=>by cases h|.cons _ _,[],_,h,_=>by cases h|.cons c cs,e::es,vs,G,h=>by
  simp only[chkEs,bA] at G;have h:(ev P (call P n) σ c >>= λx=>evs P (call P n) σ cs >>= λxs=>R.ok (x::xs))=R.ok vs:=h;cases l:ev P (call P n) σ c with
  | ok x=>
   cases B:evs P (call P n) σ cs with
   | ok xs=>rw[l] at h;have h:(evs P (call P n) σ cs >>= λxs=>R.ok (x::xs))=R.ok vs:=h;rw[B] at h;cases(show R.ok (x::xs)=R.ok vs from h);rw[lC,lC,qN G.2 B]|exc z=>rw[l] at h;have h:(evs P (call P n) σ cs >>= λxs=>R.ok (x::xs))=R.ok vs:=h;rw[B] at h;cases h|bad=>rw[l] at h;have h:(evs P (call P n) σ cs >>= λxs=>R.ok (x::xs))=R.ok vs:=h;rw[B] at h;cases h
  | exc z=>rw[l] at h;cases h|bad=>rw[l] at h;cases h
theorem RE.eq{α:Type}{x:R α}{p:α->Prop}(h:RE x p):∃a,x=.ok a/\p a:=by
 cases x with
 | ok a=>exact⟨a,rfl,h⟩|exc e=>exact h.elim|bad=>exact h.elim
theorem aJB{cs:Es}{es:List Av}{k:Nat}(B:PA X es (WA X P n RT Y J σ cs))(G:chkEs Γ cs es=true)(hl:es.length<=1000):PE X (.Tuple es k pos) (WE X P n RT Y J σ (.tup cs)):=by
 refine(aBd B).imp λσV H Q t ⟨S,h⟩=>?_;have h:=RE.bind' (show RE (evs P (call P n) σ cs >>= λvs=>R.ok (wY vs)) _ from h);obtain⟨vs,e,M⟩:=h.eq;refine⟨S,?_⟩;show RE (evs P (call P n) σ cs) _;rw[e];intro us H1 U s1 l;have I:us.length<=sizeLine:=by rw[<-l.length,qN G e,AS];omega
 exact⟨I,λp L t'=>(show Wn X RT Y J σ σV H Q (wY vs) from M) _ _ t' ((Ro.tup L rfl rfl l.all).from s1)⟩
theorem aJC{cs:Es}{es:List Av}(B:PA X es (WA X P n RT Y J σ cs))(G:chkEs Γ cs es=true)(hl:es.length<=1000):PE X (.List es pos) (WE X P n RT Y J σ (.lst cs)):=by
 refine(uS B).imp λσV H Q t ⟨S,h⟩=>?_;have h:=RE.bind' (show RE (evs P (call P n) σ cs >>= λvs=>R.ok (wZ vs)) _ from h);obtain⟨vs,e,M⟩:=h.eq;refine⟨S,?_⟩;show RE (evs P (call P n) σ cs) _;rw[e];intro us H1 U s1 l;have I:us.length<=sizeLine:=by rw[<-l.length,qN G e,AS];omega
 exact⟨I,λp L t'=>(show Wn X RT Y J σ σV H Q (wZ vs) from M) _ _ t' ((Ro.fresh L t' rfl rfl (S.grow s1 U) l.all).from s1)⟩
theorem aEp:∀b:Bi,B4 (gQ b)=some (aFI b):=by intro b;cases b <;> kernel_rfl
theorem dL:∀b:Bi,gQ b∈bltNames:=by intro b;cases b <;> decide +kernel
theorem eF:∀b:Bi,gQ b ≠ "__name__" := by intro b;cases b <;> decide +kernel
theorem aMr(M:Mc X P Γ n){b:Bi}{cs:Es}{x:Str}{p:CF}{e:Av}{es:List Av}(Z:gQ b=x)(I:bD Γ x=true)(L:aX x=true)(G:PA X (e::es) (WA X P n RT Y J σ cs))(W:(e::es).all aI=true) :
 PE X (.Call (.Name x p) (e::es) [] pos) (WE X P n RT Y J σ (.bi b cs)):=by
 subst Z;have l:aI e=true/\es.all aI=true:=by simpa using W
 have body:∀(f:PE X (.Call (.Name (gQ b) p) (e::es) [] pos) (tCB (rBi X b) (WA X P n RT Y J σ cs))),PE X (.Call (.Name (gQ b) p) (e::es) [] pos) (WE X P n RT Y J σ (.bi b cs)):=λf=>f.imp λσV H Q t ⟨S,h⟩=>by have h:=RE.bind' (show RE (evs P (call P n) σ cs >>= λvs=>biD b vs) _ from h);refine⟨S,h.mono λvs U us H1 t1 s1 r1=>?_⟩;exact aBA (S.grow s1 t1) r1 (U.mono λv U u H' t r=>U u H' t (r.from s1))
 refine body ?_;have r:=aEh M.calm M.room.gd M.units b;have B:=aEp b;cases b with
 | len=>exact rO r (M.gl I) (M.md.blt _ (dL _)) B G (eF _) (aJ L) (aB l.1) (bC l.2)|all=>exact rO r (M.gl I) (M.md.blt _ (dL _)) B G (eF _) (aJ L) (aB l.1) (bC l.2)|list=>exact jG r (M.gl I) (M.md.blt _ (dL _)) B G (eF _) (aJ L) (aB l.1) (bC l.2)|int=>exact jG r (M.gl I) (M.md.blt _ (dL _)) B G (eF _) (aJ L) (aB l.1) (bC l.2)|tuple=>exact jG r (M.gl I) (M.md.blt _ (dL _)) B G (eF _) (aJ L) (aB l.1) (bC l.2)
theorem kN{σV:L2.St}{H H1 H':Hp}{vs:List Vl}{r:Rt}{u:V}(I:Sx X.K RT Y J σ σV H1)(s1:aE H H1)(Z:aE H1 H')(h:Rr X.K H1 H' (λb=>H1 b≠none/\exV RT Y J σ σV (dW vs) (bI vs) b) r u) :
 Ro X.K RT Y J σ σV H H' (aW vs r) u:=by
 obtain⟨d,fr,pa⟩:=r;have l:∀b,exV RT Y J σ σV (aW vs (d,fr,pa)).pa (aW vs (d,fr,pa)).al b->(H1 b≠none/\exV RT Y J σ σV (dW vs) (bI vs) b)\/(pa=false/\H1 b≠none):=by
  intro b z;have tk:=exV.trk I z;cases pa with
  | true=>exact .inl ⟨tk,z⟩|false=>exact .inr ⟨rfl,tk⟩
 have B:(aW vs (d,fr,pa)).fr=fr:=by unfold aW;split <;> rfl
 have G:(aW vs (d,fr,pa)).d=d:=by unfold aW;split <;> rfl
 refine⟨s1.trans Z,?_⟩;rw[B];unfold Rr at h;cases fr with
 | true=>rw[if_pos rfl] at h ⊢;obtain⟨a,xs,ds,L,M,U,W,rr⟩:=h;exact⟨a,xs,ds,L,by rw[G];exact M,s1.free U,W,rr.weak λb z=>z.elim (λz=>.inl z) λz=>.inr (l b z)⟩|false=>rw[if_neg bN] at h ⊢;unfold Rv;rw[G];exact Rep.weak h l
theorem aBP{f:Nat}{cs:Es}{σV:L2.St}{H:Hp}{Q:VK}(S:Sx X.K RT Y J σ σV H)(h:RE (ev P (call P n) σ (.call f cs)) (Wn X RT Y J σ σV H Q)) :
 WA X P n RT Y J σ cs σV H λus H1=>spF X.K P n f (us++[]) H1 (λv H'=>Tk X.K H'->Q v H') E0:=by have h:=RE.bind' (show RE (evs P (call P n) σ cs >>= λvs=>call P n f (vs.map (·.d)) >>= λr=>R.ok (aW vs r)) _ from h);refine⟨S,h.mono λvs G us H1 M s1 I=>?_⟩;have l:=S.grow s1 M;refine⟨vs.map (·.d),λb=>H1 b≠none/\exV RT Y J σ σV (dW vs) (bI vs) b,λa z=>z.1,by rw[BB];exact I.all.weak λa z=>z.2,RE.x _ ((RE.bind' G).mono λr B u H' t' L rr _=>?_)⟩;exact(show Wn X RT Y J σ σV H Q (aW vs r) from B) u H' t' (kN l s1 L rr)
theorem aHa(M:Mc X P Γ n){f:Nat}{cs:Es}{x:Str}{p:CF}{es:List Av}(hf:Γ.fns[f]? = some x)(U:bD Γ x=true)(W:aX x=true)(Z:PA X es (WA X P n RT Y J σ cs))(hp:es.all aI=true)(hc:chkEs Γ cs es=true) :
 PE X (.Call (.Name x p) es [] pos) (WE X P n RT Y J σ (.call f cs)):=by
 obtain⟨fa,fd,ps,B,G,I,L⟩:=M.md.fn f x hf;cases es with
 | cons e es=>
  have l:aI e=true/\es.all aI=true:=by simpa using hp
  exact(aDU L M.room (M.gl U) B G I .nil aBN Z (aJ W) (aB l.1) (bC l.2)).imp λσV H Q t ⟨S,h⟩=>aBP S h
 | nil=>
  cases cs with
  | cons _ _=>cases hc|nil=>refine(aBe L M.room (M.gl U) B G I .nil aBN (aJ W)).imp λσV H Q t ⟨S,h⟩=>?_;exact(aBP S h).2 [] H t (aE.refl H) rfl
noncomputable def wC(X:Cx)(P:Pg)(n:Nat)(RT Y J:Addr->Prop)(σ:Sg)(f:Nat)(cs:Es):TE:=λσV H Q=>Sx X.K RT Y J σ σV H/\RE (evs P (call P n) σ cs) λvs=>REx (λx=>∀H',Tk X.K H'->aE H H'->XW X σV H' x) (call P n f (vs.map (·.d))) λr=>Wn X RT Y J σ σV H Q (aW vs r)
theorem aEq{f:Nat}{cs:Es}{σV:L2.St}{H:Hp}{Q:VK}(h:wC X P n RT Y J σ f cs σV H Q) :
 WA X P n RT Y J σ cs σV H λus H1=>spF X.K P n f (us++[]) H1 (λv H'=>Tk X.K H'->Q v H') (λc _ H'=>RX X c σV H'):=by obtain⟨S,h⟩:=h;refine⟨S,h.mono λvs U us H1 I s1 W=>?_⟩;have L:=S.grow s1 I;refine⟨vs.map (·.d),λb=>H1 b≠none/\exV RT Y J σ σV (dW vs) (bI vs) b,λa z=>z.1,by rw[BB];exact W.all.weak λa z=>z.2,U.mono (λr M u H' t' l rr _=>?_) λx G=>?_⟩;exact(show Wn X RT Y J σ σV H Q (aW vs r) from M) u H' t' (kN L s1 l rr);obtain⟨c,e,_⟩:=G H1 I s1;refine⟨c,e,λcls H' q t' l=>?_⟩;obtain⟨Z,B,h'⟩:=G H' t' (s1.trans l);rw[e] at B;cases B;exact h' cls q
theorem aEr(M:Mc X P Γ n){f:Nat}{cs:Es}{x:Str}{p:CF}{e:Av}{es:List Av}(hf:Γ.fns[f]? = some x)(hg:bD Γ x=true)(ho:aX x=true)(Z:PA X (e::es) (WA X P n RT Y J σ cs))(hp:(e::es).all aI=true) :
 PE X (.Call (.Name x p) (e::es) [] pos) (wC X P n RT Y J σ f cs):=by
 obtain⟨fa,fd,ps,G,L,U,W⟩:=M.md.fn f x hf;have l:aI e=true/\es.all aI=true:=by simpa using hp
 intro pins s σV H Q I h;refine Bv (eK I (M.gl hg) G ?_ (aJ ho));refine DB (h₀:=X.base) I.ok.mod.kin L (thn (Z pos pins s σV H _ I (aEq h)) λus s1 ⟨vs,H1,B,r,q⟩=>⟨B.kIn,?_⟩) (aB l.1) (bC l.2);exact thn (aEl W M.room U .nil (aFK X) B r q) λu s2 z=>EP.tk z
theorem sK{K:Fg}{H:Hp}{ex:Addr->Prop}{f:Str}{d:D}:∀{ds:List D} {fs:List (Str×V)},RepF K H ex ds fs->qJ f ds=some d->∃v,fs.lookup f=some v/\Rep K H ex d v
 | [],_,_,e=>by cases e|.str g::d'::r,fs,h,e=>by obtain⟨x,L,rfl,l,B⟩:=h;have e:(if g=f then some d' else qJ f r)=some d:=e;by_cases c:g=f;rw[if_pos c] at e;cases e;exact⟨x,by rw[c];simp[Bl],l⟩;rw[if_neg c] at e;obtain⟨v,G,I⟩:=sK B e;refine⟨v,?_,I⟩;rw[Bl,show(f==g)=false from beq_eq_false_iff_ne.mpr λz=>c z.symm];exact G|[.str _],_,h,_=>h.elim|.non::_,_,h,_=>h.elim|.bl _::_,_,h,_=>h.elim|.int _::_,_,h,_=>h.elim|.tup _::_,_,h,_=>h.elim|.lst _::_,_,h,_=>h.elim|.err _ _::_,_,h,_=>h.elim
theorem oO{K:Fg}{H:Hp}{ex:Addr->Prop}{f:Str}:∀{ds:List D} {fs:List (Str×V)},RepF K H ex ds fs->qJ f ds=none->fs.lookup f=none
 | [],_,h,_=>by rw[show _=[] from h];rfl|.str g::d'::r,fs,h,e=>by obtain⟨x,G,rfl,B,l⟩:=h;have e:(if g=f then some d' else qJ f r)=none:=e;by_cases c:g=f;rw[if_pos c] at e;cases e;rw[if_neg c] at e;rw[Bl,show(f==g)=false from beq_eq_false_iff_ne.mpr λz=>c z.symm];exact oO l e|[.str _],_,h,_=>h.elim|.non::_,_,h,_=>h.elim|.bl _::_,_,h,_=>h.elim|.int _::_,_,h,_=>h.elim|.tup _::_,_,h,_=>h.elim|.lst _::_,_,h,_=>h.elim|.err _ _::_,_,h,_=>h.elim
theorem aBQ{P:Pg}{d:D}{k:List Str×List (Str×Nat)}{ds:List D}(h:zU P d=some (k,ds)):∃n c,d=.err n (.str c::ds)/\P.objs.lookup c=some k:=by
 unfold zU at h;split at h;rename_i n c ds';cases q:P.objs.lookup c with
 | none=>rw[q] at h;cases h|some l=>rw[q] at h;cases h;exact⟨n,c,rfl,q⟩
 cases h
theorem aJD(M:Mc X P Γ n){j:Nat}{f x:Str}{p:CF}(Z:PE X (.Name x p) (WE X P n RT Y J σ (.v j))):PE X (.Attribute (.Name x p) f pos) (WE X P n RT Y J σ (.fld j f)):=by refine(aGE Z rfl).imp λσV H Q tk ⟨S,h⟩=>?_;have h:=RE.bind' (show RE (ev P (call P n) σ (.v j) >>= λx=>aBr P f x) _ from h);refine wE.one S h λy u H1 l t1 S1 L=>?_;unfold aBr at l;split at l;rename_i k ds ho;obtain⟨hf,l⟩:=l.iff;obtain⟨no,c,W,hc⟩:=aBQ ho;split at l;rename_i d hd;have rv:Rep X.K H1 (exV RT Y J σ σV y.pa y.al) y.d u:=L.rv S;rw[W] at rv;obtain⟨a,C,dx,fs,U,q,_,hn,rf⟩:=rv;obtain⟨C',B,G,I,_⟩:=M.md.obj c k hc;rw[hn] at B;cases B;obtain⟨v,q1,q2⟩:=sK rf hd;exact⟨a,C,dx,fs,v,U,q,G,I f hf,q1,λt'=>(show Wn X RT Y J σ σV H Q (y.sub d) from l) v H1 t' ((Rv.ofSub q2).from L.1)⟩;exact l.elim;exact l.elim
theorem aAe{x m:Str}{p l pos:CF}{es:List Av}{env:GG}(B:IS (es.length+([]:List Fk).length) (BQ pos (A6 es env)) (ES pos (Dm [] env))=true)(hl:(l.endLine==pos.line)=true) :
 Cc (.Call (.Attribute (.Name x p) m l) es [] pos) env=(do
  let ov<-Cc (.Name x p) env
  Hj l.atName
  let (f,first)<-FK [ov] (HN ov m (do return (<-importBound (.Name x p) env).getD true))
  callWith pos f first (BQ pos (A6 es env)) (ES pos (Dm [] env))):=by
 rw[arm_eval_Call];show(do
  let ov<-Cc (.Name x p) env
  Hj l.atName
  methodCall (.Name x p) m l pos env ov (es.length+([]:List Fk).length) (BQ pos (A6 es env)) (ES pos (Dm [] env)))=_
 unfold methodCall;rw[B];unfold calleeOf methodCallPos;simp[hl]
theorem aJE(M:Mc X P Γ n){j:Nat}{m x:Str}{p ap:CF}{e:Av}{es:List Av}{cs:Es}(L:PE X (.Name x p) (WE X P n RT Y J σ (.v j)))(hs:PA X (e::es) (WA X P n RT Y J σ cs))(hp:(e::es).all aI=true)(q1:(e::es).length<30)(hl:(ap.endLine==pos.line)=true) :
 PE X (.Call (.Attribute (.Name x p) m ap) (e::es) [] pos) (WE X P n RT Y J σ (.mcl j m cs)):=by
 intro pins s σV H Q I hw;obtain⟨S,h⟩:=hw;have h:=RE.bind' (show RE (ev P (call P n) σ (.v j) >>= λx=>evs P (call P n) σ cs >>= λvs=>(match kI P m x.d with
  | some f=>call P n f (x.d::vs.map (·.d)) >>= λr=>R.ok (aW (x::vs) r)|none=>.bad)) _ from h)
 obtain⟨y,ey,h⟩:=h.eq;have h:=RE.bind' h;cases hm:kI P m y.d with
 | none=>rw[hm] at h;obtain⟨_,_,z⟩:=h.eq;exact z.elim|some f=>
  rw[hm] at h;unfold kI at hm;split at hm;rename_i k ds ho;split at hm
  . rename_i Z;obtain⟨no,c,ed,hc⟩:=aBQ ho;obtain⟨C,hn,U,_,W⟩:=M.md.obj c k hc;obtain⟨fa,fd,ps,h1,h3,h4⟩:=W m f hm;have G:aI e=true/\es.all aI=true:=by simpa using hp
    refine aDV L U h1 h4 M.room h3 .nil aBN hs (aB G.1) (bC G.2) (aAe ?few hl) pins s σV H Q I ?_
    case few=>
     have L:(BQ pos (A6 (e::es) X.env)).all (λx=>!x.1)=true:=by rw[A9];intro y hy;have:=bC (pos:=pos) (env:=X.env) hp;rw[Fi] at this;simpa using this y hy
     unfold IS;rw[L,show ES pos (Dm [] X.env)=[] from rfl];show(true&&decide ((e::es).length+0+0<30))=true;rw[AR (by omega)];rfl
    refine wE.one (p:=λz=>z=y) S (by rw[ey];rfl) λl u H1 hy t1 S1 r1=>?_;subst hy;have rv:Rep X.K H1 (exV RT Y J σ σV l.pa l.al) l.d u:=r1.rv S;have q0:=rv;rw[ed] at rv;obtain⟨a,C',dx,fs,e1,q,_,B,rf⟩:=rv;rw[hn] at B;cases B;refine⟨a,dx,fs,e1,q,oO rf Z,S1,h.mono λvs hv us H2 t2 s2 r2=>?_⟩;have S2:=S1.grow s2 t2;have rs:Rvs X.K RT Y J σ σV H2 (l::vs) (u::us):=⟨u,us,rfl,Rv.grow q0 s2,r2⟩
    refine⟨l.d::vs.map (·.d),λb=>H2 b≠none/\exV RT Y J σ σV (dW (l::vs)) (bI (l::vs)) b,λa z=>z.1,by rw[BB];exact rs.all.weak λa z=>z.2,RE.x _ ((RE.bind' hv).mono λr hr u' H' t' s' rr=>?_)⟩;exact(show Wn X RT Y J σ σV H Q (aW (l::vs) r) from hr) u' H' t' (kN S2 (r1.1.trans s2) s' rr)
  cases hm;cases hm
theorem aEs{P:Pg}{n j fi:Nat}{c:Str}{k:List Str×List (Str×Nat)}{ds:List D}(l:P.objs[j]? = some (c,k))(B:k.2.lookup ("__init__" : Str)=some fi) :
 call P (n+1) (P.fns.length+j) ds=(call P n fi (.err 0 [.int 0,.str c]::ds) >>= λr=>R.ok (r.1,false,true)):=by show gP P (call P n) (P.fns.length+j) ds=_;unfold gP;rw[Ce (CQ _ _),Bu,l];show(match k.2.lookup ("__init__" : Str) with|some fi=>_|none=>_)=_;rw[B]
theorem aMs(M:Mc X P Γ n){j:Nat}{cs:Es}{x:Str}{p:CF}{e:Av}{es:List Av}(hf:Γ.obs[j]? = some x)(hg:bD Γ x=true)(ho:aX x=true)(ha:PA X (e::es) (WA X P n RT Y J σ cs))(hp:(e::es).all aI=true) :
 PE X (.Call (.Name x p) (e::es) [] pos) (WE X P n RT Y J σ (.mk j cs)):=by
 obtain⟨k,C,fi,fa,fd,ps,h1,h2,h3,h4,h5,h6,h7⟩:=M.md.mkr j x hf;have G:aI e=true/\es.all aI=true:=by simpa using hp
 cases n with
 | zero=>intro pins s σV H Q I hw;obtain⟨S,h⟩:=hw;have h:=RE.bind' (show RE (evs P (call P 0) σ cs >>= λvs=>(R.bad:R Rt) >>= λr=>R.ok (aW vs r)) _ from h);obtain⟨_,_,z⟩:=h.eq;exact z.elim|succ n=>
  refine(aDW h5 (h7 n rfl) M.room (M.gl hg) h4 h6 .nil aJh ha (aJ ho) (aB G.1) (bC G.2)).imp λσV H Q tk ⟨S,h⟩=>?_;have h:=RE.bind' (show RE (evs P (call P (n+1)) σ cs >>= λvs=>call P (n+1) (P.fns.length+j) (vs.map (·.d)) >>= λr=>R.ok (aW vs r)) _ from h);refine⟨S,h.mono λvs l us H1 t1 s1 W q dx B L q0=>?_⟩;have Z:=S.grow s1 t1;have l:=RE.bind' l;rw[aEs h1 h3] at l;obtain⟨r,er,l⟩:=(RE.bind' l).eq;have l:Wn X RT Y J σ σV H Q (aW vs (r.1,false,true)):=l;have s2:aE H1 (upd (upd H1 dx (.own q)) q (.ins C dx [])):=λa o e=>by rw[aD (aN e B),aD (aN e L)];exact e
  refine⟨C,q,dx,vs.map (·.d),us,r,by rw[BB],by rw[lM];exact W.length,aK,h2,er,λt2=>⟨λb=>(H1 b≠none/\exV RT Y J σ σV (dW vs) (bI vs) b)\/b=q,λa z=>?_,.inr rfl,?_,λH' t' s' rr=>⟨rfl,λ_=>l _ H' t' ?_⟩⟩⟩;rcases z with z|z;cases e:H1 a with
  | none=>exact absurd e z.1|some o=>rw[s2 a o e];simp
  rw[z,aK];simp;have nq:∀{a:Addr} {ys:List V},SqL X.K H1 a ys->a≠q:=λ{a ys} z w=>by
   subst w;rcases z with(z|⟨o,z⟩)|⟨o,its,n',z,_⟩
   rw[B] at z;cases z;rw[B] at z;cases z;rw[t2 a (by rw[aK];simp)] at z;cases z
  refine Reps.imp (λ_ _ z=>aE.seqT s2 z) (λa ys U z=>⟨λw=>w.elim (λw=>U w.2) (nq z),s2.seq z⟩) (λ_ _ z=>s2 _ _ z) (λa o _ U z=>⟨λw=>w.elim (λw=>U w.2) (aN z B),s2 _ _ z⟩) _ _ W.all;have s3:aE H1 H':=λa o e=>s' a o (s2 a o e) (aN e B);refine kN Z s1 s3 ?_;show(if false=true then _ else Rep X.K H' (λb=>(H1 b≠none/\exV RT Y J σ σV (dW vs) (bI vs) b)\/(true=false/\H1 b≠none)) r.1 (.ref q));rw[if_neg bN];refine rr.weak λb z=>?_;rcases z with z|z;exact⟨.inl z,λw=>z.1 (by rw[w];exact B)⟩;cases z.1
theorem jJ{K:Fg}{H:Hp}{ex:Addr->Prop}:∀{ds:List D} {xs:TKV},RepM K H ex ds xs->∀x∈xs,SqT K H x.2.1 (x.1.map V.int)
 | [],_,h,x,l=>by rw[show _=[] from h] at l;cases l|.tup is::d::ds,_,h,x,l=>by obtain⟨js,b,u,v,r,rfl,I,B,L,M,G⟩:=h;rcases Ao.mp l with z|z;subst z;exact B;exact jJ G x z
 | [.tup _],_,h,_,_=>h.elim|.non::_,_,h,_,_=>h.elim|.bl _::_,_,h,_,_=>h.elim|.int _::_,_,h,_,_=>h.elim|.str _::_,_,h,_,_=>h.elim|.lst _::_,_,h,_,_=>h.elim|.err _ _::_,_,h,_,_=>h.elim
theorem hJ:∀js:List Int,aU (js.map D.int)=some js
 | []=>rfl|j::js=>by rw[mC,aU,hJ js]
theorem sL{K:Fg}{H:Hp}{ex:Addr->Prop}{js:List Int}:∀{ds:List D} {xs:TKV},RepM K H ex ds xs->(∀p,EC xs js=some p->∃d v,oF js ds=some d/\aP v p.2/\Rep K H ex d v)/\(EC xs js=none->oF js ds=none)
 | [],_,h=>by rw[show _=[] from h];exact⟨λp e=>(by cases e),λ_=>rfl⟩|.tup is::d::ds,_,h=>by obtain⟨ks,b,u,v,r,rfl,rfl,L,B,G,I⟩:=h;obtain⟨g1,g2⟩:=sL (js:=js) I;unfold EC at g1 g2 ⊢;rw[Gc,oF,hJ];by_cases l:ks=js;subst l;simp only[Kc,if_true];refine⟨λp e=>?_,λe=>by cases e⟩;cases e;exact⟨d,v,rfl,B,G⟩;rw[if_neg (by simpa using l)];simp only[Be l];exact⟨g1,g2⟩|[.tup _],_,h=>h.elim|.non::_,_,h=>h.elim|.bl _::_,_,h=>h.elim|.int _::_,_,h=>h.elim|.str _::_,_,h=>h.elim|.lst _::_,_,h=>h.elim|.err _ _::_,_,h=>h.elim
theorem aJF(M:Mc X P Γ n){o k:E}{m:Str}{ap lp:CF}{L W:Av}(hm:m=("get" : Str))(hl:(ap.endLine==pos.line)=true)(hb:aJl L=true)(hO:PE X L (WE X P n RT Y J σ o))(ha:PE X W (WE X P n RT Y J σ k))(B:aI W=true) :
 PE X (.Call (.Attribute L m ap) [W,.List [] lp] [] pos) (WE X P n RT Y J σ (.dgl o k)):=by
 subst hm;refine(aEk (by have:=M.units;omega) hO (bV ha (bV (uS cU) cU rfl) (aB B)) (by cases L <;> first|rfl|cases hb) (by rw[aB B];rfl) hl (aB B) rfl).imp λσV H Q t ⟨S,h⟩=>?_;have h:=RE.bind' (show RE (ev P (call P n) σ o >>= λx=>ev P (call P n) σ k >>= λy=>(match x.d,y.d with
  | .err _ (.non::ds),.tup is=>(match aU is with
   | some js=>(match oF js ds with
    | some d=>R.ok (x.sub d)|none=>R.ok (Vl.cl (.lst [])))
   | none=>R.bad)
  | _,_=>R.bad)) _ from h)
 refine wE.one S h λx u H1 l t1 S1 Z=>?_;obtain⟨y,ey,l⟩:=(RE.bind' l).eq;split at l;rename_i c ds is d1 d2;split at l;rename_i js hj;have rv:Rep X.K H1 (exV RT Y J σ σV x.pa x.al) x.d u:=Z.rv S;rw[d1] at rv;obtain⟨a,xs,e1,q,nx,rm⟩:=rv;refine⟨a,xs,e1,q,jJ rm,?_⟩;refine wE.one (p:=λI=>I=y) S1 (by rw[ey];rfl) λI uk U hy t2 S2 r2=>?_;subst hy;refine⟨AW _,λp B=>?_⟩;have s2:=r2.1;have s3:aE U (upd U p (.lst [])):=aE.new B;have s:=s2.trans s3;have rk:Rep X.K U (exV RT Y J σ σV I.pa I.al) I.d uk:=r2.rv S1;rw[d2] at rk;obtain⟨b,zs,rfl,qb,rz⟩:=rk;have G:zs=js.map V.int:=fF hj rz;subst G;obtain⟨g1,g2⟩:=sL (js:=js) rm;refine⟨b,js,.ref p,rfl,s _ _ q,λz hz=>aE.seqT s (jJ rm z hz),aE.seqT s3 qb,λz G=>?_,λG t'=>?_⟩;obtain⟨d,v,l1,l2,l3⟩:=g1 z G;rw[l1] at l;exact⟨v,l2,λt'=>(show Wn X RT Y J σ σV H Q (x.sub d) from l) v _ t' ((Rv.ofSub (l3.grow s)).from (Z.1.trans s))⟩;rw[g2 G] at l;refine(show Wn X RT Y J σ σV H Q (.cl (.lst [])) from l) _ _ t' (Ro.plain (Z.1.trans s) rfl ⟨p,[],rfl,SqL.of aK,λz=>exV.trk S2 z B,rfl⟩);exact l.elim;exact l.elim
theorem aAf{c:Cl}{l:Value}{x:Str}(B:oJ c=some l)(G:cE Γ c=some x):B4 x=some l/\x∈bltNames/\x ≠ "__name__" := by cases c <;> cases B <;> cases G <;> exact⟨by kernel_rfl,by decide +kernel,by decide +kernel⟩
theorem aJG(M:Mc X P Γ n){a:E}{c:Cl}{cv:Value}{f x:Str}{pf W:CF}{B:Av}(hf:f=("isinstance" : Str))(hg:bD Γ f=true)(hc:oJ c=some cv)(hx:cE Γ c=some x)(G:bD Γ x=true)(U:aX x=true)
 (ha:PE X B (WE X P n RT Y J σ a)) (hp:aI B=true):PE X (.Call (.Name f pf) [B,.Name x W] [] pos) (WE X P n RT Y J σ (.isi a [c])):=by subst hf;intro pins s σV H Q I hw;obtain⟨S,h⟩:=hw;have h:=RE.bind' (show RE (ev P (call P n) σ a >>= λx=>(match isI [c] P x.d with|some k=>R.ok (Vl.cl (.bl k))|none=>.bad)) _ from h);obtain⟨b1,b2,b3⟩:=aAf hc hx;refine Bv (cJ I (M.gl hg) (M.md.blt _ (by decide +kernel)) (show B4 "isinstance" = some (.builtin "isinstance") by kernel_rfl) ?_ (by decide +kernel) (by decide +kernel));refine Cf ?_ (aB hp) rfl;rw[aB hp];show Ap _ _ (Fh ((false,Cc B X.env)::BQ pos (A6 [.Name x W] X.env))) _ _ s;refine BL (thn (ha pins s σV H (λu H1=>∃y k,Rv X.K RT Y J σ σV H1 y u/\isI [c] P y.d=some k/\Q (.bl k) H1) I (wE.one S h λy u H1 l t1 S1 r1=>?_)) λv s1 ⟨u,H1,Z,ru,y,k,l,L,q⟩=>?_);split at l;rename_i k L;exact⟨y,k,r1.rv S,L,(show Wn X RT Y J σ σV H Q (Vl.cl (.bl k)) from l) _ _ t1 (Ro.cl r1.1 rfl)⟩;exact l.elim;show Ap _ _ (Fh ((false,Cc (.Name x W) X.env)::BQ pos (A6 [] X.env))) _ _ s1;refine BL (cJ Z (M.gl G) (M.md.blt _ b2) b1 (CA ?_) b3 (aJ U));exact aAa P Z ru l hc L q
noncomputable def aBR(X:Cx)(cls:List Str):Cl->V->Prop
 | .own x,v=>x∈cls/\∃C2,X.mg x=some (.ref C2)/\v=.ref C2|.tValueError,v=>v=.ty "ValueError"|_,_=>False
noncomputable def xN(X:Cx)(cls:List Str):List Cl->List V->Prop
 | [],vs=>vs=[]
 | c::cs,vs=>∃v r,vs=v::r/\aBR X cls c v/\xN X cls cs r
noncomputable def ClV(X:Cx)(cls:List Str)(cs:List Cl)(v:V)(H:Hp):Prop:=(∃c,cs=[c]/\aBR X cls c v)\/∃p vs,v=.ref p/\SqT X.K H p vs/\xN X cls cs vs
theorem aBS{c:Str}{ab:List Cl}{C:Addr}(E:oN X.K X.mg Γ.cls c ab C){z:Cl}{v:V}{u:Value}(h:aBR X Γ.cls z v)(r:aP v u):CP X.K (.ref C) u=some (ab.contains z):=by
 cases z with
 | own x=>obtain⟨hm,C2,G,rfl⟩:=h;obtain⟨B,l,I,_⟩:=E.ow x hm;rw[G] at l;cases l;cases r;exact I|tValueError=>have h:v=.ty "ValueError" := h;subst h;cases r;exact E.ve|_=>exact h.elim
theorem aBT{c:Str}{ab:List Cl}{C:Addr}(E:oN X.K X.mg Γ.cls c ab C):∀{cs:List Cl} {vs:List V} {us:List Value},xN X Γ.cls cs vs->aM vs us->IT X.K (.ref C) us=some (cs.any λz=>ab.contains z)
 | [],vs,us,h,r=>by have h:vs=[]:=h;subst h;cases r;rfl|z::cs,vs,us,h,r=>by
  obtain⟨v,rr,e,l,B⟩:=h;subst e;cases r with
  | cons q t=>
   have k:=aBS E l q;have G:=aBT E B t;rw[Jo];unfold IT;rw[k];cases hb:ab.contains z with
   | true=>rfl|false=>exact G
theorem aBU(M:Mc X P Γ n){a:E}{cs:List Cl}{f:Str}{pf:CF}{Z y:Av}{tc:TE}(hf:f=("isinstance" : Str))(hg:bD Γ f=true)(ha:PE X Z (WE X P n RT Y J σ a))(hp:aI Z=true)(hy:PE X y tc)(W:aI y=true)
 (q2:∀σV H Q,(∀v H',aE H H'->ClV X Γ.cls cs v H'->Q v H')->tc σV H Q):PE X (.Call (.Name f pf) [Z,y] [] pos) (WE X P n RT Y J σ (.isx a cs)):=by
 subst hf;intro pins s σV H Q I hw;obtain⟨S,h⟩:=hw;have h:=RE.bind' (show RE (ev P (call P n) σ a >>= λx=>(match isX cs P x.d with|some k=>R.ok (Vl.cl (.bl k))|none=>.bad)) _ from h);refine Bv (cJ I (M.gl hg) (M.md.blt _ (by decide +kernel)) (show B4 "isinstance" = some (.builtin "isinstance") by kernel_rfl) ?_ (by decide +kernel) (by decide +kernel));refine Cf ?_ (aB hp) (by rw[aB W];rfl);rw[aB hp];show Ap _ _ (Fh ((false,Cc Z X.env)::BQ pos (A6 [y] X.env))) _ _ s;refine BL (thn (ha pins s σV H (λu H1=>∃z k,Rv X.K RT Y J σ σV H1 z u/\isX cs P z.d=some k/\∀l,Tk X.K l->aE H1 l->Q (.bl k) l) I (wE.one S h λz u H1 hz t1 S1 r1=>?_)) λv s1 ⟨u,H1,I1,ru,z,k,hz,B,q⟩=>?_);split at hz;rename_i k B;exact⟨z,k,r1.rv S,B,λl t2 s2=>(show Wn X RT Y J σ σV H Q (Vl.cl (.bl k)) from hz) _ _ t2 (Ro.cl (r1.1.trans s2) rfl)⟩;exact hz.elim;rw[aB W];show Ap _ _ (Fh ((false,Cc y X.env)::BQ pos (A6 [] X.env))) _ _ s1;refine BL (thn (hy pins s1 σV H1 (λv l=>aE H1 l/\ClV X Γ.cls cs v l) I1 (q2 σV H1 _ λv l s2 c=>⟨s2,c⟩)) λcv s2 ⟨v2,l,G,r2,sm,U⟩=>CA ?_);have L:∀tk,EP X pins σV Q (.bool k) { s2 with toks:=tk }:=λtk=>⟨.bl k,l,G.tok tk,rfl,q l G.tk sm⟩
 have hz:=hz.grow sm;unfold isX at B;split at B;rename_i c hd;unfold Rv at hz;rw[excC_of hd] at hz;obtain⟨c',b,C1,ec,e1,hH,_,q1⟩:=hz;cases ec;subst e1;cases ru;split at B;rename_i ab q0;obtain⟨C,E⟩:=M.md.exc c ab q0;have e:C=C1:=by have:=E.ns.symm.trans q1;simpa using this
 subst e;have B:=Au B;obtain⟨hI,_⟩:=(show bQ X.prog X.w l s2.heap b (excO b C) from G.hok b _ hH)
 rcases U with⟨c1,rfl,U⟩|⟨p,vs,rfl,hq,U⟩
 refine Cq (sF E.xc) G.kIn hI ?_ (λz=>nomatch z) L;rw[aBS E U r2,<-B];simp;obtain⟨its,v3,t3,_⟩:=G.tuple hq;obtain⟨o,h1,h2,nn,h3⟩:=t3;obtain⟨oc,od,q3,osl⟩:=o;dsimp only at h2 h3;subst h2 h3;cases r2;refine PySem.W.kia_tup (sF E.xc) G.kIn hI h1 ?_ (λz=>nomatch z) L;rw[aBT E U v3,<-B];cases B;cases B
noncomputable def tCs(vs:List V):TA:=λ_ H Q=>Q vs H
theorem sM{c:Cl}{y:Av}(h:xC Γ c y=true):∃x p,c=.own x/\y=.Name x p/\bD Γ x=true/\aX x=true/\x∈Γ.cls:=by unfold xC at h;split at h;rename_i x z p;simp only[bA] at h;obtain⟨⟨⟨l,B⟩,G⟩,I⟩:=h;have e:z=x:=eq_of_beq l;subst e;exact⟨z,p,rfl,rfl,B,G,by simpa using I⟩;cases h
theorem aBV(M:Mc X P Γ n):∀{cs:List Cl} {es:List Av},xD Γ cs es=true->∃vs,PA X es (tCs vs)/\xN X Γ.cls cs vs/\vs.length=es.length
 | [],[],_=>⟨[],cU,rfl,rfl⟩
 | [],_::_,h=>by cases h|_::_,[],h=>by cases h|z::cs,y::ys,h=>by unfold xD at h;obtain⟨l,B⟩:=(bA _ _).mp h;obtain⟨vs,i1,i2,G⟩:=aBV M B;obtain⟨x,p,rfl,rfl,g1,g2,g3⟩:=sM l;obtain⟨C2,q⟩:=M.md.cls x g3;exact⟨.ref C2::vs,bV (pU (v:=.ref C2) (M.gl g1) q rfl (aJ g2)) i1 (aB rfl),⟨_,_,rfl,⟨g3,C2,q,rfl⟩,i2⟩,by rw[lC,lC,G]⟩
end
section
variable {X:Cx} {P:Pg} {Γ:Ct} {n:Nat} {RT Y J:Addr->Prop} {σ:Sg} {pos:CF}
theorem mF{o o':CmpOp}{B l:Av}(G:aI l=true):J0 [o,o'] [B,l]=false:=mD G
theorem aHb(M:Mc X P Γ n){o o':CmpOp}{a b c:E}{ea eb G:Av}(ha:PE X ea (WE X P n RT Y J σ a))(hb:PE X eb (WE X P n RT Y J σ b))(hc:PE X G (WE X P n RT Y J σ c))(hq:aI G=true) :
 PE X (.Compare ea [o,o'] [eb,G] pos) (WE X P n RT Y J σ (.cmp2 o o' a b c)):=by
 refine(aAX (fX (RT:=RT) (Y:=Y) (J:=J) M o) (fX (RT:=RT) (Y:=Y) (J:=J) M o') ha hb hc (mF hq)).imp λσV H Q t ⟨S,h⟩=>?_;have h:=RE.bind' (show RE (ev P (call P n) σ a >>= λx=>ev P (call P n) σ b >>= λy=>(match bL o x.d y.d with
  | some true=>ev P (call P n) σ c >>= λz=>(match bL o' y.d z.d with|some k=>R.ok (Vl.cl (.bl k))|none=>.bad)
  | some false=>R.ok (Vl.cl (.bl false))|none=>.bad)) _ from h)
 refine wE.two S (h.mono λx B=>RE.bind' B) λx y ux uy H2 l t2 s2 Z B U=>?_;split at l;rename_i I;refine⟨σ,σV,x,y,true,B,U,I,true,rfl,?_⟩;rw[if_pos rfl];refine wE.one Z (RE.bind' l) λz u H3 hz t3 S3 W=>?_;split at hz;rename_i k' L;exact⟨σ,σV,y,z,k',U.grow W.1,W.rv Z,L,λt'=>hz _ _ t' (Ro.cl (s2.trans W.1) rfl)⟩;exact hz.elim;rename_i I;refine⟨σ,σV,x,y,false,B,U,I,false,rfl,?_⟩;rw[if_neg bN];exact λt'=>l _ _ t' (Ro.cl s2 rfl);exact l.elim
theorem aHc(M:Mc X P Γ n){o o':CmpOp}{a b c:E}{ea eb G:Av}(ha:PE X ea (WE X P n RT Y J σ a))(hb:PE X eb (WE X P n RT Y J σ b))(hc:PE X G (WE X P n RT Y J σ c))(hq:aI G=true) :
 PT X (.Compare ea [o,o'] [eb,G] pos) (WT X P n RT Y J σ (.cmp2 o o' a b c)):=by
 refine(aAY (fX (RT:=RT) (Y:=Y) (J:=J) M o) (fX (RT:=RT) (Y:=Y) (J:=J) M o') ha hb hc (mF hq)).imp λσV H Q t ⟨S,h⟩=>?_;have h:=RE.bind' (show RE (ev P (call P n) σ a >>= λx=>ev P (call P n) σ b >>= λy=>(match bL o x.d y.d with
  | some true=>ev P (call P n) σ c >>= λz=>(match bL o' y.d z.d with|some k=>R.ok k|none=>.bad)
  | some false=>R.ok false|none=>.bad)) _ from h)
 refine wE.two S (h.mono λx B=>RE.bind' B) λx y ux uy H2 l t2 s2 Z B U=>?_;split at l;rename_i I;refine⟨σ,σV,x,y,true,B,U,I,true,rfl,?_⟩;rw[if_pos rfl];refine wE.one Z (RE.bind' l) λz u H3 hz t3 S3 W=>?_;split at hz;rename_i k' L;exact⟨σ,σV,y,z,k',U.grow W.1,W.rv Z,L,k',rfl,λt'=>hz _ t' (s2.trans W.1)⟩;exact hz.elim;rename_i I;refine⟨σ,σV,x,y,false,B,U,I,false,rfl,?_⟩;rw[if_neg bN];exact⟨false,rfl,λt'=>l _ t' s2⟩;exact l.elim
theorem eC{a:E}{l:Av}(B:PT X l (WT X P n RT Y J σ a)):PT X (.UnaryOp .Not l pos) (WT X P n RT Y J σ (.nt a)):=by refine(aGp B).imp λσV H Q t ⟨S,h⟩=>?_;have h:=RE.bind' (show RE (tst P (call P n) σ a >>= λx=>R.ok (!x)) _ from h);exact⟨S,h.mono λk G H1 I s1 t'=>(show ∀H',Tk X.K H'->aE H H'->Q (!k) H' from G) _ t' s1⟩
theorem aBW{e:Av}{t t':TT}(h:PW X e t)(f:∀σV H Q,Tk X.K H->t' σV H Q->t σV H λv H'=>Tk X.K H'->Q v H'):PW X e t':=λG pins s σV H Q I B=>thn (h G pins s σV H _ I (f σV H Q I.tk B)) λk L ⟨H',l,q⟩=>⟨H',l,q l.tk⟩
theorem aJH{a b:E}{B G:Av}{r:List Av}(I:PT X B (WT X P n RT Y J σ a))(hb:PW X (.BoolOp .And (G::r) pos) (WT X P n RT Y J σ b)):PW X (.BoolOp .And (B::G::r) pos) (WT X P n RT Y J σ (.an a b)):=by
 refine aBW (aGo I hb) λσV H Q t ⟨S,h⟩=>?_;have h:=RE.bind' (show RE (tst P (call P n) σ a >>= λx=>if x=true then tst P (call P n) σ b else R.ok false) _ from h);refine⟨S,h.mono λk l H1 U s1=>?_⟩;cases k with
 | true=>rw[if_pos rfl] at l ⊢;exact⟨S.grow s1 U,l.mono λv L H' t M _=>L H' t (s1.trans M)⟩|false=>rw[if_neg bN] at l ⊢;exact λt'=>(show ∀H',Tk X.K H'->aE H H'->Q false H' from l) _ t' s1
theorem aFM{a b:E}{B G:Av}{r:List Av}(I:PT X B (WT X P n RT Y J σ a))(hb:PW X (.BoolOp .Or (G::r) pos) (WT X P n RT Y J σ b)):PW X (.BoolOp .Or (B::G::r) pos) (WT X P n RT Y J σ (.orr a b)):=by
 refine aBW (aIH I hb) λσV H Q t ⟨S,h⟩=>?_;have h:=RE.bind' (show RE (tst P (call P n) σ a >>= λx=>if x=true then R.ok true else tst P (call P n) σ b) _ from h);refine⟨S,h.mono λk l H1 U s1=>?_⟩;cases k with
 | true=>rw[if_pos rfl] at l ⊢;exact λt'=>(show ∀H',Tk X.K H'->aE H H'->Q true H' from l) _ t' s1|false=>rw[if_neg bN] at l ⊢;exact⟨S.grow s1 U,l.mono λv L H' t M _=>L H' t (s1.trans M)⟩
noncomputable def wO(X:Cx)(P:Pg)(n:Nat)(RT Y J:Addr->Prop)(σ:Sg)(cs:Es):TO:=λσV H Q=>Sx X.K RT Y J σ σV H/\RE (evs P (call P n) σ cs) λvs=>(vs=[]/\∀H',Tk X.K H'->aE H H'->Q none H')\/∃v i,vs=[v]/\v.d=.int i/\∀H',Tk X.K H'->aE H H'->Q (some i) H'
theorem aBX{e:Option Av}{t t':TO}(h:PO X e t)(f:∀σV H Q,Tk X.K H->t' σV H Q->t σV H λv H'=>Tk X.K H'->Q v H'):PO X e t':=λpins s σV H Q I B=>thn (h pins s σV H _ I (f σV H Q I.tk B)) λu G ⟨o,H',l,r,q⟩=>⟨o,H',l,r,q l.tk⟩
theorem aJI:PO X none (wO X P n RT Y J σ .nil):=aBX aDY λσV H Q t ⟨S,h⟩ t'=>by
 rcases(show([]:List Vl)=[]/\_\/_ from h) with⟨_,q⟩|⟨v,i,e,_⟩
 exact q H t' (aE.refl H);cases e
theorem aJJ{c:E}{e:Av}(B:PE X e (WE X P n RT Y J σ c)):PO X (some e) (wO X P n RT Y J σ (.cons c .nil)):=by
 refine aBX (aDZ B) λσV H Q t ⟨S,h⟩=>?_;have h:=RE.bind' (show RE (ev P (call P n) σ c >>= λx=>evs P (call P n) σ .nil >>= λxs=>R.ok (x::xs)) _ from h);refine wE.one S h λx u H1 G L I l=>?_;rcases(show([x]:List Vl)=[]/\_\/∃v i,([x]:List Vl)=[v]/\_/\_ from G) with⟨e,_⟩|⟨v,i,e,hd,q⟩
 cases e;cases e;exact⟨i,(l.rv S).int hd,λt'=>q _ t' l.1⟩
theorem aJK{a:E}{lo hi:Es}{ea:Av}{el eh:Option Av}{p2:CF}(ha:PE X ea (WE X P n RT Y J σ a))(hl:PO X el (wO X P n RT Y J σ lo))(B:PO X eh (wO X P n RT Y J σ hi)) :
 PE X (.Subscript ea (.Slice el eh none p2) pos) (WE X P n RT Y J σ (.sli a lo hi)):=by
 refine(aBh (aGX (X:=X)) ha hl B).imp λσV H Q t ⟨S,h⟩=>?_;have h:=RE.bind' (show RE (ev P (call P n) σ a >>= λx=>evs P (call P n) σ lo >>= λl=>evs P (call P n) σ hi >>= λh=>(match l,h with
  | [l],[]=>(match l.d with|.int l=>R.iff (aT l) (gO x (some l) none)|_=>.bad)
  | [],[h]=>(match h.d with|.int h=>R.iff (aT h) (gO x none (some h))|_=>.bad)
  | _,_=>.bad)) _ from h)
 refine wE.one S h λx u H1 hx t1 S1 r1=>?_;have hx:=RE.bind' hx;refine⟨S1,hx.mono λl hl=>?_⟩;have hl:=RE.bind' hl;have up:∀(L:Option Int) (I:Hp),Tk X.K I->aE H1 I->(RE (evs P (call P n) σ hi) λh=>(h=[]/\RE (gO x L none) (Wn X RT Y J σ σV H Q))\/∃v i,h=[v]/\v.d=.int i/\RE (gO x L (some i)) (Wn X RT Y J σ σV H Q)) ->
  wO X P n RT Y J σ hi σV I λhv G=>aBl X.K u L hv G (λv H'=>Tk X.K H'->Q v H')\/aBi X.K u L hv G (λv H'=>Tk X.K H'->Q v H'):=by
  intro L I t2 s2 B;refine⟨S1.grow s2 t2,B.mono λhv hq=>?_⟩;have Z:∀(U:Option Int) (G:Hp),Tk X.K G->aE I G->RE (gO x L U) (Wn X RT Y J σ σV H Q) ->
   aBl X.K u L U G (λv H'=>Tk X.K H'->Q v H')\/aBi X.K u L U G (λv H'=>Tk X.K H'->Q v H'):=λU G W M hs=>
   zX (S1.grow (s2.trans M) W) W ((r1.rv S).grow (s2.trans M)) (hs.mono λv hv u H' t r=>hv u H' t (r.from (r1.1.trans (s2.trans M))))
  rcases hq with⟨e,hs⟩|⟨v,i,e,hd,hs⟩
  exact .inl ⟨e,λG W M=>Z none G W M hs⟩;exact .inr ⟨v,i,e,hd,λG W M=>Z (some i) G W M hs⟩
 match l,hl with
 | [],hl=>
  refine .inl ⟨rfl,λI t2 s2=>up none I t2 s2 (hl.mono λh B=>?_)⟩
  match h,B with
  | [],B=>exact B.elim|[h],B=>have B:RE (match h.d with|.int h=>R.iff (aT h) (gO x none (some h))|_=>.bad) _:=B;split at B;rename_i i hd;exact .inr ⟨h,i,rfl,hd,B.iff.2⟩;exact B.elim|_::_::_,B=>exact B.elim
 | [l],hl=>
  have hd:∃i,l.d=.int i:=by
   obtain⟨h,_,B⟩:=hl.eq
   match h,B with
   | [],B=>have B:RE (match l.d with|.int l=>R.iff (aT l) (gO x (some l) none)|_=>.bad) _:=B;split at B;rename_i i hd;exact⟨i,hd⟩;exact B.elim|[h],B=>exact B.elim|_::_::_,B=>exact B.elim
  obtain⟨i,hd⟩:=hd;refine .inr ⟨l,i,rfl,hd,λI t2 s2=>up (some i) I t2 s2 (hl.mono λh B=>?_)⟩
  match h,B with
  | [],B=>have B:RE (match l.d with|.int l=>R.iff (aT l) (gO x (some l) none)|_=>.bad) _:=B;rw[hd] at B;exact .inl ⟨rfl,B.iff.2⟩|[h],B=>exact B.elim|_::_::_,B=>exact B.elim
 | _::_::_,hl=>exact(by
     obtain⟨h,_,B⟩:=hl.eq
     match h,B with
     | [],B=>exact B.elim|[_],B=>exact B.elim|_::_::_,B=>exact B.elim)
end
end Hp
namespace L2
open PySem PySem.Spec PyProof.Rows
set_option maxRecDepth 100000
instance:LawfulBEq Key where
 eq_of_beq:=λ{a b} h=>by
  cases a with
  | inl x=>cases b with|inl y=>exact congrArg FH (eq_of_beq (show(x==y)=true from h))|inr y=>cases h
  | inr x=>cases b with|inl y=>cases h|inr y=>exact congrArg Cd (eq_of_beq (show(x==y)=true from h))
 rfl:=λ{a}=>by
  cases a with
  | inl x=>exact(beq_self_eq_true x:(x==x)=true)|inr x=>exact(beq_self_eq_true x:(x==x)=true)
end L2
namespace L2
open PySem PySem.Spec PyProof.Rows
section
variable {X:Cx} {pins:List (Addr×Obj)} {σ:St} {H:Hp} {s:Ad} {h':Heap}
theorem Inv.turnsNew{its:List Addr}{T:Addr}{o:HO}{t':Nat}(I:Inv X pins σ H s)(f:∀b∈its,iI X pins H b)(k:∀b o,b∉its->s.heap.get? b=some o->h'.get? b=some o)(there:∀b∈its,∃o,h'.get? b=some o)
 (M:s.heap.objs.size<=T) (new:bQ X.prog X.w (upd H T o) h' T o):Inv X pins σ (upd H T o) { s with heap:=h',toks:=t' }:=by
 have G:∀b u,H b=some u->b∉its:=λb u e z=>by rw[(f b z).1] at e;cases e
 have B:H T=none:=I.hok.fresh M;have L:∀b o,s.heap.get? b=some o->b≠T:=λb o e=>Az (A8 (Am e) M);refine I.step (g':=s.gens) (d':=s.drawn) (ch:=its) (λb hb=>?_) (λb o _ _ l e _=>k b o l e) (λb o _ _ l e _=>⟨o.slots,k b o l e⟩) (λb o _ e n=>by rw[aD (L b o e)];exact n)
  (λb o l e=>⟨o,k b o l e⟩) (λb xs e=>by rw[aD (aN e B)];exact e) (λb o u e=>by rw[aD (aN e B)];exact e) (λb ps e=>⟨#[],by rw[aD (aN e B),e];simp⟩) (λm hm=>?_) (λb u e=>?_) I.bare
 obtain⟨_,f1,f2,f3,f4,f5⟩:=f b hb;exact⟨f3,f1,f4,f5⟩;obtain⟨o,es,ep,U,r⟩:=hm;exact⟨o,es,ep,k _ o (λz=>(f _ z).2.1 rfl) U,r⟩;by_cases hb:b=T;subst hb;rw[aK] at e;cases e;exact new;rw[aD hb] at e;refine(I.hok b u e).stay (λc v l q=>k c v ?_ q) (λc q=>by rw[aD (aN q B)];exact q) λc xs q=>by rw[aD (aN q B)];exact q
 rcases l with z|z;rw[z];exact G b u e;exact G c _ z
theorem Inv.turns{its:List Addr}{t':Nat}(I:Inv X pins σ H s)(f:∀b∈its,iI X pins H b)(k:∀b o,b∉its->s.heap.get? b=some o->h'.get? b=some o):Inv X pins σ H { s with heap:=h',toks:=t' }:=by
 have B:∀b u,H b=some u->b∉its:=λb u e z=>by rw[(f b z).1] at e;cases e
 refine I.step (g':=s.gens) (d':=s.drawn) (ch:=its) (λb hb=>?_) (λb o _ _ l e _=>k b o l e) (λb o _ _ l e _=>⟨o.slots,k b o l e⟩) (λb o _ e n=>n)
  (λb o l e=>⟨o,k b o l e⟩) (λb xs e=>e) (λb o u e=>e) (λb ps e=>⟨#[],by rw[e];simp⟩) (λm hm=>?_) (λb u e=>?_) I.bare
 obtain⟨_,f1,f2,f3,f4,f5⟩:=f b hb;exact⟨f3,f1,f4,f5⟩;obtain⟨o,es,ep,G,r⟩:=hm;exact⟨o,es,ep,k _ o (λz=>(f _ z).2.1 rfl) G,r⟩;refine(I.hok b u e).stay (λc v l q=>k c v ?_ q) (λc q=>q) λc xs q=>q;rcases l with z|z;rw[z];exact B b u e;exact B c _ z
theorem Inv.newK(I:Inv X pins σ H s):X.K.lookup s.heap.objs.size=none:=by
 cases q:X.K.lookup s.heap.objs.size with
 | none=>rfl|some o=>exact absurd (Am (I.bk _ o (I.ok.mod.kin _ o q))) (AN _)
noncomputable def Sq(k:Bool)(K:An)(H:Hp)(a:Addr)(xs:List V):Prop:=match k with|true=>SqL K H a xs|false=>SqT K H a xs
noncomputable def cW(k:Bool)(h:Heap)(a:Addr)(its:Array Value):Prop:=match k with|true=>h.IsList a its|false=>h.IsTuple a its
noncomputable def bR(k:Bool)(h:Heap)(it a:Addr)(i:Nat):Prop:=match k with|true=>h.IsListIter it a i|false=>h.IsTupleIter it a i
theorem cW.at{k:Bool}{h:Heap}{a:Addr}{its:Array Value}(q:cW k h a its)(e:∀o,h.get? a=some o->h'.get? a=some o):cW k h' a its:=by
 cases k with
 | true=>exact Heap.IsList.at q e|false=>exact Heap.IsTuple.at q e
theorem bR.at{k:Bool}{h:Heap}{a it:Addr}{i:Nat}(q:bR k h it a i)(e:∀o,h.get? it=some o->h'.get? it=some o):bR k h' it a i:=by
 cases k with
 | true=>exact Heap.IsListIter.at q e|false=>exact Heap.IsTupleIter.at q e
theorem bR.obj{k:Bool}{h:Heap}{a it:Addr}{i:Nat}(q:bR k h it a i):∃o,h.get? it=some o/\∀v,o.data≠.cell v:=by
 cases k with
 | true=>obtain⟨o,e,c,d⟩:=q;exact⟨o,e,λv z=>by rw[d] at z;cases z⟩|false=>obtain⟨o,e,c,d⟩:=q;exact⟨o,e,λv z=>by rw[d] at z;cases z⟩
theorem Inv.sq{k:Bool}{a:Addr}{xs:List V}(I:Inv X pins σ H s)(h:Sq k X.K H a xs):∃its:List Value,aM xs its/\cW k s.heap a its.toArray/\xs.length<=sizeLine:=by
 cases k with
 | true=>obtain⟨its,r,p,z⟩:=I.list h;exact⟨its,r,p.isList,z⟩|false=>obtain⟨its,r,p,z⟩:=I.tuple h;exact⟨its,r,p,z⟩
theorem Inv.sq_inj{k:Bool}{a:Addr}{xs ys:List V}(I:Inv X pins σ H s)(h:Sq k X.K H a xs)(h':Sq k X.K H a ys):xs=ys:=by
 cases k with
 | true=>exact I.list_inj h h'|false=>exact I.tuple_inj h h'
theorem Sq.there{k:Bool}{K:An}{a:Addr}{xs:List V}(h:Sq k K H a xs):H a≠none\/∃o,K.lookup a=some o:=by
 cases k with
 | true=>
  rcases h with(h|⟨o,h⟩)|⟨o,its,n,q,_⟩
  exact .inl (by rw[h];simp);exact .inl (by rw[h];simp);exact .inr ⟨_,q⟩
 | false=>
  rcases h with(h|⟨o,h⟩)|⟨o,its,n,q,_⟩
  exact .inl (by rw[h];simp);exact .inl (by rw[h];simp);exact .inr ⟨_,q⟩
theorem Inv.sqNe{k:Bool}{a b:Addr}{xs:List V}(I:Inv X pins σ H s)(h:Sq k X.K H a xs)(f:iI X pins H b):a≠b:=by
 intro e;subst e;rcases h.there with z|⟨o,z⟩
 exact z f.1;have hb:=I.ok.mod.kin a o z;rcases f.2.2.2.1 with q|q;exact I.ok.noex a o hb q;exact absurd (A8 (Am hb) (AX I.ok.bsz q)) (AN _)
end
section
variable {prog:A0} {w:AH} {A:AV} {E:Value->Ad->Prop} {s:Ad}
theorem iQ{it l:Addr}{i:Nat}{items}{x:Value}{Q:Value->Ad->Prop}(B:s.heap.IsTupleIter it l i)
 (hl:s.heap.IsTuple l items) (W:items[i]? = some x)
 (M:∀h',h'.IsTupleIter it l (i+1)->Bq it s.heap h'->Q x { s with heap:=h' }) :
 Ap (A2 prog w) A (AO (.ref it)) Q E s:=by
 obtain⟨o,G,U,hd⟩:=id B;obtain⟨Z,L,_,nl,I⟩:=hl;unfold AO;refine Aa (Bj (name:=Cv "__next__") B.typeIs Cz
  (Bs Cz B.typeIs EK ?_ (Ev _)))
 show Ap _ _ (Gv (.ref it) 0 >>= _) _ _ s;refine Aa (AT G hd (x:=.ref l) rfl ?_);show Ap _ _ (if (A5 l==AZ)=true then _ else _) _ _ s;rw[if_neg (show ¬ ((A5 l==AZ)=true) from bN)];show Ap _ _ (Gv (.ref it) 1 >>= _) _ _ s;refine Aa (AT G hd (x:=.int i 0) rfl ?_);show Ap _ _ (J4 (.ref l) >>= _) _ _ s;refine Aa (BI L I ?_);simp only[BW,W];refine Aa (DO G hd (by simp) (Af ⟨x,rfl,Af (M _ ?_ (BE ..))⟩));exact⟨_,Bg _ G (C5 (B8 hd _)),(Hv ..).trans U,by
  rw[B8 hd];simp[BD]⟩
theorem jK{it l:Addr}{i:Nat}{items}{Q:Value->Ad->Prop}(M:A.handled=none)
 (B:s.heap.IsTupleIter it l i) (hl:s.heap.IsTuple l items) (W:items[i]? = none)
 (U:∀h' e,Gw it s.heap h'->(∃o,h'.get? e=some o/\o.cls=.type "StopIteration")->E (.ref e) { s with heap:=h' }) :
 Ap (A2 prog w) A (AO (.ref it)) Q E s:=by
 obtain⟨o,I,Z,hd⟩:=id B;obtain⟨ol,L,_,nl,G⟩:=hl;unfold AO;refine Aa (Bj (name:=Cv "__next__") B.typeIs Cz
  (Bs Cz B.typeIs EK ?_ (Ev _)))
 show Ap _ _ (Gv (.ref it) 0 >>= _) _ _ s;refine Aa (AT I hd (x:=.ref l) rfl ?_);show Ap _ _ (if (A5 l==AZ)=true then _ else _) _ _ s;rw[if_neg (show ¬ ((A5 l==AZ)=true) from bN)];show Ap _ _ (Gv (.ref it) 1 >>= _) _ _ s;refine Aa (AT I hd (x:=.int i 0) rfl ?_);show Ap _ _ (J4 (.ref l) >>= _) _ _ s;refine Aa (BI L G ?_);simp only[BW,W];refine Aa (DW (Aa (DO I hd (by simp) ?_)));show Ap _ _ (Kw (.type "StopIteration") [] >>= _) _ _ _;refine Aa ?_;simp only[Kw,Kd];refine Aa (Bm ?_ (by size_fits));refine Aa (m:=EW _ _) (Ii (a:=AZ) (by first|rfl|(simp only[EW];rfl)) ?_);refine Bm ?_ (by size_fits);simp only[raiseNew];refine Aa (Jp ?_)
 first|rw[show A.in1.handled=none from M]|rw[M]
 refine Aa (Af (Ke ?_));exact U _ _ (((BE ..).extBut.push _).push _) ⟨_,Aq _ rfl,rfl⟩
theorem dZ{k:Bool}{it l:Addr}{i:Nat}{items:Array Value}{x:Value}{Q:Value->Ad->Prop}(B:bR k s.heap it l i)(hl:cW k s.heap l items)(I:items[i]? = some x)
 (G:∀h',bR k h' it l (i+1)->Bq it s.heap h'->Q x { s with heap:=h' }):Ap (A2 prog w) A (AO (.ref it)) Q E s:=by
 cases k with
 | true=>exact wpAny_nextOf_list_item B hl I G|false=>exact iQ B hl I G
theorem hU{k:Bool}{it l:Addr}{i:Nat}{items:Array Value}{Q:Value->Ad->Prop}(I:A.handled=none)(B:bR k s.heap it l i)(hl:cW k s.heap l items)(L:items[i]? = none)
 (G:∀h' e,Gw it s.heap h'->(∃o,h'.get? e=some o/\o.cls=.type "StopIteration")->E (.ref e) { s with heap:=h' }):Ap (A2 prog w) A (AO (.ref it)) Q E s:=by
 cases k with
 | true=>exact wpAny_nextOf_list_end I B hl L G|false=>exact jK I B hl L G
theorem aAg{ka kb:Bool}{z TI TO i1 i2 l1 l2:Addr}{k1 k2:Nat}{xs ys:Array Value}{x y a b:Value}{Q:Value->Ad->Prop}(D:Hx z TI TO i1 i2 l1 l2)
 (hz:EX s.heap z TI TO .none) (z7:Cw s.heap TI (.ref i1) (.ref i2)) (z8:Cw s.heap TO a b)
 (h1:bR ka s.heap i1 l1 k1) (h2:bR kb s.heap i2 l2 k2) (x0:cW ka s.heap l1 xs) (x1:cW kb s.heap l2 ys) (hx:xs[k1]? = some x) (hy:ys[k2]? = some y)
 (hQ:∀h',EX h' z TI TO (BD s.heap.objs.size)->Cw h' TO x y->bR ka h' i1 l1 (k1+1)->bR kb h' i2 l2 (k2+1)->Cw h' s.heap.objs.size x y->h'.objs.size=s.heap.objs.size+1 ->
  (∀c o,c≠z->c≠TO->c≠i1->c≠i2->s.heap.get? c=some o->h'.get? c=some o)->Q (.ref s.heap.objs.size) { s with heap:=h' }) :
 Ap (A2 prog w) A (C4.«zip.__next__» ⟨[.ref z],[]⟩) (λz6 s'=>∃v,z6=.done (.ret v)/\Q v s') E s:=by
 show Ap _ _ (Gv (.ref z) 2 >>= _) _ _ _;refine Aa (AT hz rfl (x:=.bool false) rfl ?_);show Ap _ _ (Gv (.ref z) 3 >>= _) _ _ _;refine Aa (AT hz rfl (x:=.ref TI) rfl ?_);refine Aa (BI z7 rfl ?_);show Ap _ _ (Bc (.ref z) >>= _) _ _ _;refine Aa ?_;unfold Bc;refine Aa (AT hz rfl (x:=.none) rfl (Af ?_));simp only[if_true];refine Aa (DW ?_);refine Aa (AT hz rfl (x:=.ref TO) rfl ?_);refine Aa (AU hz (by simp) λz1 q3 B=>?_);replace q3:EX z1 z TI TO .ellipsis:=q3;refine Aa ?_;simp only[HU,Io,Gb,Gx];refine Aa (Aa (Ei ?_));show Ap _ _ (AO (.ref i1) >>= _) _ _ _;refine Aa (dZ (h1.at λo e=>B.extBut _ _ D.i1z e) (x0.at λo e=>B.extBut _ _ D.l1z e) hx λz2 w3 I=>Af ?_);have q5:Cw z2 TO a b:=I.extBut _ _ D.TOi1 (B.extBut _ _ D.TOz z8);refine Aa (BI q5 rfl ?_);refine Aa (El q5 λz3 W L=>?_);replace W:Cw z3 TO x b:=W;refine Aa (Fm (Af ?_));refine Aa (Aa (Ei ?_));show Ap _ _ (AO (.ref i2) >>= _) _ _ _;refine Aa (dZ (h2.at λo e=>L.extBut _ _ D.TOi2.symm (I.extBut _ _ D.i12.symm (B.extBut _ _ D.i2z e)))
  (x1.at λo e=>L.extBut _ _ D.l2TO (I.extBut _ _ D.l2i1 (B.extBut _ _ D.l2z e))) hy λz4 w5 M=>Af ?_)
 have q6:Cw z4 TO x b:=M.extBut _ _ D.TOi2 W;refine Aa (BI q6 rfl ?_);refine Aa (El q6 λl G U=>?_);replace G:Cw l TO x y:=G;refine Aa (Fm (Af (Af ?_)));refine Aa (BI G rfl ?_);refine Aa (Gy ?_);have w9:l.objs.size=s.heap.objs.size:=by rw[U.1,M.1,L.1,I.1,B.1]
 have q8:EX l z TI TO .ellipsis:=U.extBut _ _ D.TOz.symm (M.extBut _ _ D.i2z.symm (L.extBut _ _ D.TOz.symm (I.extBut _ _ D.i1z.symm q3)));have w7:∀c o,c≠z->c≠TO->c≠i1->c≠i2->s.heap.get? c=some o->l.get? c=some o:=λc o c1 c2 c3 c4 e=>U.extBut _ _ c2 (M.extBut _ _ c4 (L.extBut _ _ c2 (I.extBut _ _ c3 (B.extBut _ _ c1 e))));have w4:bR ka l i1 l1 (k1+1):=w3.at λo e=>U.extBut _ _ D.TOi1.symm (M.extBut _ _ D.i12 (L.extBut _ _ D.TOi1.symm e));have w6:bR kb l i2 l2 (k2+1):=w5.at λo e=>U.extBut _ _ D.TOi2.symm e;have q9:z<l.objs.size:=Am q8;have z9:TO<l.objs.size:=Am G;show Ap _ _ (BF (.ref z) (.ref l.objs.size) >>= _) _ _ _;refine Aa ?_;unfold BF;have w8:EX (l.push { cls:=.type "tuple",data:=.seq #[x,y] }) z TI TO .ellipsis:=Ab _ q8;refine Aa (AU w8 (by simp) λz5 q4 q1=>?_);replace q4:EX z5 z TI TO (BD l.objs.size):=q4;refine AU q4 (by simp) λq0 Z q2=>?_;replace Z:EX q0 z TI TO (BD l.objs.size):=Z;have up:∀c o,c≠z->l.get? c=some o->q0.get? c=some o:=λc o c1 e=>q2.extBut _ _ c1 (q1.extBut _ _ c1 (Ab _ e));have q7:Cw q0 l.objs.size x y:=q2.extBut _ _ (BC q9) (q1.extBut _ _ (BC q9) (Aq _ rfl));have z0:q0.objs.size=l.objs.size+1:=by rw[q2.1,q1.1,Bf]
 rw[w9] at Z q7 z0;refine Af ⟨_,rfl,?_⟩;show Q (.ref l.objs.size) _;rw[w9];exact hQ q0 Z (up _ _ D.TOz G) (w4.at λo e=>up _ o D.i1z e) (w6.at λo e=>up _ o D.i2z e) q7 z0 λc o c1 c2 c3 c4 e=>up c o c1 (w7 c o c1 c2 c3 c4 e)
theorem aBY{ka kb:Bool}{z TI TO i1 i2 l1 l2:Addr}{k1 k2:Nat}{xs ys:Array Value}{a b:Value}{Q:Fin->Ad->Prop}(hh:A.handled=none)(D:Hx z TI TO i1 i2 l1 l2)
 (hz:EX s.heap z TI TO .none) (w5:Cw s.heap TI (.ref i1) (.ref i2)) (w6:Cw s.heap TO a b)
 (h1:bR ka s.heap i1 l1 k1) (h2:bR kb s.heap i2 l2 k2) (q6:cW ka s.heap l1 xs) (w7:cW kb s.heap l2 ys) (q5:xs[k1]? = none\/ys[k2]? = none)
 (hE:∀h' e,(∀c o,c≠z->c≠TO->c≠i1->c≠i2->s.heap.get? c=some o->h'.get? c=some o)->(∃o,h'.get? e=some o/\o.cls=.type "StopIteration")->E (.ref e) { s with heap:=h' }) :
 Ap (A2 prog w) A (C4.«zip.__next__» ⟨[.ref z],[]⟩) Q E s:=by
 show Ap _ _ (Gv (.ref z) 2 >>= _) _ _ _;refine Aa (AT hz rfl (x:=.bool false) rfl ?_);show Ap _ _ (Gv (.ref z) 3 >>= _) _ _ _;refine Aa (AT hz rfl (x:=.ref TI) rfl ?_);refine Aa (BI w5 rfl ?_);show Ap _ _ (Bc (.ref z) >>= _) _ _ _;refine Aa ?_;unfold Bc;refine Aa (AT hz rfl (x:=.none) rfl (Af ?_));simp only[if_true];refine Aa (DW ?_);refine Aa (AT hz rfl (x:=.ref TO) rfl ?_);refine Aa (AU hz (by simp) λq7 I l=>?_);replace I:EX q7 z TI TO .ellipsis:=I;refine Aa ?_;simp only[HU,Io,Gb,Gx];refine Aa (Aa (Ei ?_));show Ap _ _ (AO (.ref i1) >>= _) _ _ _;cases hx:xs[k1]? with
 | none=>
  refine Aa (hU hh (h1.at λo e=>l.extBut _ _ D.i1z e) (q6.at λo e=>l.extBut _ _ D.l1z e) hx λq2 e B he=>?_);obtain⟨oe,L,U⟩:=he;have q0:EX q2 z TI TO .ellipsis:=B _ _ D.i1z.symm I;have q4:e≠z:=λx=>by subst x;rw[q0] at L;cases L;simp at U
  refine AU q0 (by simp) λq3 _ G=>hE q3 e (λc o c1 _ c3 _ x=>G.extBut _ _ c1 (B _ _ c3 (l.extBut _ _ c1 x))) ⟨oe,G.extBut _ _ q4 L,U⟩
 | some x=>
  have hy:ys[k2]? = none:=by rcases q5 with h|h;rw[hx] at h;cases h;exact h
  refine Aa (dZ (h1.at λo e=>l.extBut _ _ D.i1z e) (q6.at λo e=>l.extBut _ _ D.l1z e) hx λq2 w4 B=>Af ?_);have M:Cw q2 TO a b:=B.extBut _ _ D.TOi1 (l.extBut _ _ D.TOz w6);refine Aa (BI M rfl ?_);refine Aa (El M λq3 w3 G=>?_);refine Aa (Fm (Af ?_));refine Aa (Aa (Ei ?_));show Ap _ _ (AO (.ref i2) >>= _) _ _ _;refine Aa (hU hh (h2.at λo e=>G.extBut _ _ D.TOi2.symm (B.extBut _ _ D.i12.symm (l.extBut _ _ D.i2z e)))
   (w7.at λo e=>G.extBut _ _ D.l2TO (B.extBut _ _ D.l2i1 (l.extBut _ _ D.l2z e))) hy λq8 e W he=>?_)
  obtain⟨oe,L,U⟩:=he;have q1:EX q8 z TI TO .ellipsis:=W _ _ D.i2z.symm (G.extBut _ _ D.TOz.symm (B.extBut _ _ D.i1z.symm I));have q4:e≠z:=λx=>by subst x;rw[q1] at L;cases L;simp at U
  refine AU q1 (by simp) λq9 _ Z=>hE q9 e (λc o c1 c2 c3 c4 x=>Z.extBut _ _ c1 (W _ _ c4 (G.extBut _ _ c2 (B.extBut _ _ c3 (l.extBut _ _ c1 x))))) ⟨oe,Z.extBut _ _ q4 L,U⟩
theorem kJ{U W:Bool}{z TI TO i1 i2 l B:Addr}{k1 k2:Nat}{xs ys:Array Value}{x y a b:Value}{Q:Option Value->Ad->Prop}(D:Hx z TI TO i1 i2 l B)
 (hz:EX s.heap z TI TO .none) (G:Cw s.heap TI (.ref i1) (.ref i2)) (I:Cw s.heap TO a b)
 (h1:bR U s.heap i1 l k1) (h2:bR W s.heap i2 B k2) (L:cW U s.heap l xs) (M:cW W s.heap B ys) (hx:xs[k1]? = some x) (hy:ys[k2]? = some y)
 (hQ:∀h',EX h' z TI TO (BD s.heap.objs.size)->Cw h' TO x y->bR U h' i1 l (k1+1)->bR W h' i2 B (k2+1)->Cw h' s.heap.objs.size x y->h'.objs.size=s.heap.objs.size+1 ->
  (∀c o,c≠z->c≠TO->c≠i1->c≠i2->s.heap.get? c=some o->h'.get? c=some o)->Q (some (.ref s.heap.objs.size)) { s with heap:=h' }) :
 Ap (A2 prog w) A (Dd (.ref z)) Q E s:=by
 have Z:s.TypeIs (.ref z) "zip" := ⟨_,hz,rfl⟩
 unfold Dd;exact Aa (D5 (Bj (name:=Cv "__next__") Z Ew
  (Bs Ew Z HV
   (aAg D hz G I h1 h2 L M hx hy λh' a1 a2 a3 a4 a5 a6 a7=>Af (hQ h' a1 a2 a3 a4 a5 a6 a7)) (Hy _))))
theorem mH{Z kb:Bool}{z TI TO i1 i2 M U:Addr}{k1 k2:Nat}{xs ys:Array Value}{a b:Value}{Q:Option Value->Ad->Prop}(hh:A.handled=none)(D:Hx z TI TO i1 i2 M U)
 (hz:EX s.heap z TI TO .none) (B:Cw s.heap TI (.ref i1) (.ref i2)) (G:Cw s.heap TO a b)
 (h1:bR Z s.heap i1 M k1) (h2:bR kb s.heap i2 U k2) (I:cW Z s.heap M xs) (L:cW kb s.heap U ys) (l:xs[k1]? = none\/ys[k2]? = none)
 (hQ:∀h',(∀c o,c≠z->c≠TO->c≠i1->c≠i2->s.heap.get? c=some o->h'.get? c=some o)->Q none { s with heap:=h' }):Ap (A2 prog w) A (Dd (.ref z)) Q E s:=by
 have W:s.TypeIs (.ref z) "zip" := ⟨_,hz,rfl⟩
 unfold Dd;refine Aa (D5 (Bj (name:=Cv "__next__") W Ew
  (Bs Ew W HV (aBY hh D hz B G h1 h2 I L l λh' e hk he=>?_) (Hy _))))
 obtain⟨o,ho,hc⟩:=he;refine Aa (Dt (T:= "StopIteration") (b:=true) ⟨o,ho,hc⟩ Gz ?_);exact Af (hQ _ hk)
end
noncomputable def eX(k:Bool)(l:Addr):Obj:=match k with
 | true=>{ cls:=.type "list_iterator",data:=.fields #[.ref l,.int 0 0] }
 | false=>{ cls:=.type "tuple_iterator",data:=.fields #[.ref l,.int 0 0] }
abbrev zH1(k:Bool)(h:Heap)(l1:Addr):Heap:=h.push (eX k l1)
abbrev zH2(ka kb:Bool)(h:Heap)(l1 l2:Addr):Heap:=(zH1 ka h l1).push (eX kb l2)
abbrev zH3(ka kb:Bool)(h:Heap)(l1 l2:Addr):Heap:=(zH2 ka kb h l1 l2).push { cls:=.type "tuple",data:=.seq #[.ref h.objs.size,.ref (zH1 ka h l1).objs.size] }
abbrev zH4(ka kb:Bool)(h:Heap)(l1 l2:Addr):Heap:=(zH3 ka kb h l1 l2).push { cls:=.type "tuple",data:=.seq #[.none,.none] }
abbrev zH5(ka kb:Bool)(h:Heap)(l1 l2:Addr):Heap:=(zH4 ka kb h l1 l2).push { cls:=.type "zip",data:=.fields #[.none,.bool false,.bool false,.ref (zH2 ka kb h l1 l2).objs.size,.ref (zH3 ka kb h l1 l2).objs.size] }
theorem fY{prog:A0}{w:AH}{A:AV}{E:Value->Ad->Prop}{s:Ad}{k:Bool}{l:Addr}{items:Array Value}{Q:Value->Ad->Prop}(hl:cW k s.heap l items)
 (B:Q (.ref s.heap.objs.size) { s with heap:=s.heap.push (eX k l) }):Ap (A2 prog w) A (IC (.ref l)) Q E s:=by
 cases k with
 | true=>exact Dg hl B|false=>exact GX hl B
theorem vE(B I:Bool)(l G:Addr)(xs ys:Array Value) :
 Meets (C4.«zip.__new__» ⟨[.type "zip",.ref l,.ref G],[]⟩) (λ_ R s=>cW B s.heap l xs/\cW I s.heap G ys /\
  R (.ok (.ret (.ref (zH4 B I s.heap l G).objs.size))) { s with heap:=zH5 B I s.heap l G }):=
 .of_wp λprog w A R s h=>by
  obtain⟨Z,g,d,tk,os⟩:=s;obtain⟨U,W,h⟩:=h;have q0:=sub_zip;have L:cW B (Shared.heap ⟨Z,g,d,tk,os⟩) l xs:=U;have M:cW I (Shared.heap ⟨Z.push (eX B l),g,d,tk,os⟩) G ys:=W.at λo e=>Ab _ e
  wp_walk using fY L,fY M
  exact⟨_,rfl,h⟩
theorem mI{k:Bool}{h:Heap}{it a:Addr}(e:h.get? it=some (eX k a)):bR k h it a 0:=by
 cases k with
 | true=>exact⟨_,e,rfl,rfl⟩|false=>exact⟨_,e,rfl,rfl⟩
theorem aAh{prog:A0}{w:AH}{A:AV}{E:Value->Ad->Prop}{s:Ad}{G L:Bool}{B I:Addr}{xs ys:Array Value}{Q:Value->Ad->Prop}(U:cW G s.heap B xs)(W:cW L s.heap I ys)
 (h:∀h',EX h' (s.heap.objs.size+4) (s.heap.objs.size+2) (s.heap.objs.size+3) .none->Cw h' (s.heap.objs.size+2) (.ref s.heap.objs.size) (.ref (s.heap.objs.size+1)) ->
  Cw h' (s.heap.objs.size+3) .none .none->bR G h' s.heap.objs.size B 0->bR L h' (s.heap.objs.size+1) I 0->h'.objs.size=s.heap.objs.size+5 ->
  (∀c o,s.heap.get? c=some o->h'.get? c=some o)->Q (.ref (s.heap.objs.size+4)) { s with heap:=h' }) :
 Ap (A2 prog w) A (call (.type "zip") [.ref B,.ref I]) Q E s:=by
 refine JB F.called_zip (by decide) (F.typeCall_zip_2 _ _) (F.newCall_zip_2 _ _) (λobj=>F.args_object_init_3 obj _ _) F.entry_zip_new
  (vE G L B I xs ys) ⟨U,W,?_⟩
 have Z:(zH1 G s.heap B).objs.size=s.heap.objs.size+1:=Bf ..;have z2:(zH2 G L s.heap B I).objs.size=s.heap.objs.size+2:=by rw[Bf,Z]
 have z3:(zH3 G L s.heap B I).objs.size=s.heap.objs.size+3:=by rw[Bf,z2]
 have z4:(zH4 G L s.heap B I).objs.size=s.heap.objs.size+4:=by rw[Bf,z3]
 have z5:(zH5 G L s.heap B I).objs.size=s.heap.objs.size+5:=by rw[Bf,z4]
 have nf:∀k l,(eX k l).isFreed=false:=by intro k l;cases k <;> rfl
 have M:(zH5 G L s.heap B I).get? (zH4 G L s.heap B I).objs.size=some _:=Aq _ rfl;have g4:(zH5 G L s.heap B I).get? (zH3 G L s.heap B I).objs.size=some _:=Ab _ (Aq _ rfl);have g3:(zH5 G L s.heap B I).get? (zH2 G L s.heap B I).objs.size=some _:=Ab _ (Ab _ (Aq _ rfl));have g2:(zH5 G L s.heap B I).get? (zH1 G s.heap B).objs.size=some _:=Ab _ (Ab _ (Ab _ (Aq _ (nf _ _))));have g1:(zH5 G L s.heap B I).get? s.heap.objs.size=some _:=Ab _ (Ab _ (Ab _ (Ab _ (Aq _ (nf _ _)))));show _/\_;rw[z2,z3,z4] at M;rw[Z,z2] at g3;rw[z3] at g4;rw[Z] at g2;rw[z4];exact⟨⟨_,M,rfl⟩,h _ M g3 g4 (mI g1) (mI g2) z5 λc o x=>
  Ab _ (Ab _ (Ab _ (Ab _ (Ab _ x))))⟩
noncomputable def Itz(K:An)(ka kb:Bool)(a b:Addr):It:=
 ⟨λi H=>∃xs ys x y,Sq ka K H a xs/\Sq kb K H b ys/\xs[i]? = some x/\ys[i]? = some y,
  λi H v H'=>∃p x y,v=.ref p/\H p=none/\K.lookup p=none/\H'=upd H p (.tup [x,y])/\∀xs ys,Sq ka K H a xs->Sq kb K H b ys->xs[i]? = some x/\ys[i]? = some y,
  λi H=>∃xs ys,Sq ka K H a xs/\Sq kb K H b ys/\(xs.length<=i\/ys.length<=i)⟩
structure aEt (z TI TO i1 i2:Addr):Prop where
 TIz:TI≠z
 TOz:TO≠z
 i1z:i1≠z
 i2z:i2≠z
 TITO:TI≠TO
 TIi1:TI≠i1
 TIi2:TI≠i2
 TOi1:TO≠i1
 TOi2:TO≠i2
 i12:i1≠i2
theorem aEt.apart{X:Cx}{pins:List (Addr×Obj)}{σ:St}{H:Hp}{s:Ad}{B G:Bool}{a b z TI TO i1 i2:Addr}{xs ys:List V}(F:aEt z TI TO i1 i2)(I:Inv X pins σ H s)(f:∀c∈[z,TI,TO,i1,i2],iI X pins H c)
 (l:Sq B X.K H a xs) (hb:Sq G X.K H b ys):Hx z TI TO i1 i2 a b:=
 ⟨F.TIz,F.TOz,F.i1z,F.i2z,F.TITO,F.TIi1,F.TIi2,F.TOi1,F.TOi2,F.i12,I.sqNe l (f z (by simp)),I.sqNe l (f TO (by simp)),I.sqNe l (f i1 (by simp)),I.sqNe l (f i2 (by simp)),
  I.sqNe hb (f z (by simp)),I.sqNe hb (f TO (by simp)),I.sqNe hb (f i1 (by simp)),I.sqNe hb (f i2 (by simp))⟩
theorem aBZ{P:A0}{w:AH}{K:An}{ka kb:Bool}{q0:List Av}{tk:Nat}{tp:CF}{z TI TO i1 i2 a b:Addr}(F:aEt z TI TO i1 i2) :
 uI P w K (.Tuple q0 tk tp) (Itz K ka kb a b) [z,TI,TO,i1,i2] z (λi h=>EX h z TI TO .none/\Cw h TI (.ref i1) (.ref i2)/\(∃u v,Cw h TO u v)/\bR ka h i1 a i/\bR kb h i2 b i) where
 mem:=by simp
 obj:=λi h st c M=>by
  obtain⟨hz,B,⟨u,v,G⟩,W,Z⟩:=st;have l:c=z\/c=TI\/c=TO\/c=i1\/c=i2:=by simpa using M
  rcases l with rfl|rfl|rfl|rfl|rfl;exact⟨_,hz,λv z=>by cases(show Ie _=G4 v from z)⟩;exact⟨_,B,λv z=>by cases(show JY _ _=G4 v from z)⟩;exact⟨_,G,λv z=>by cases(show JY _ _=G4 v from z)⟩;exact W.obj;exact Z.obj
 keep:=λi h h' st k=>by obtain⟨hz,B,⟨u,v,G⟩,W,Z⟩:=st;exact⟨k z (by simp) _ hz,k TI (by simp) _ B,⟨u,v,k TO (by simp) _ G⟩,W.at λo e=>k i1 (by simp) o e,Z.at λo e=>k i2 (by simp) o e⟩
 item:=by
  intro X hP hw hK M i pins s σ H E I hf st hg;subst hP hw hK;obtain⟨hz,B,⟨u,v,G⟩,W,Z⟩:=st;obtain⟨xs,ys,x,y,ha,hb,hx,hy⟩:=hg;obtain⟨as,ra,pa,_⟩:=I.sq ha;obtain⟨bs,rb,pb,_⟩:=I.sq hb;obtain⟨ux,q7,rx⟩:=ra.get hx;obtain⟨uy,q8,ry⟩:=rb.get hy;have D:=F.apart I hf ha hb;refine kJ D hz B G W Z pa pb (x:=ux) (y:=uy) (by simpa using q7) (by simpa using q8) λh' a1 a2 a3 a4 a5 a6 hk=>?_;refine⟨_,rfl,wpAny_letOwnedTupleGo_zip (s:={ s with heap:=h' }) a1 λL q3 U=>?_⟩;have q1:s.heap.objs.size≠z:=BC (Am hz);have q6:∀c o,c∉[z,TI,TO,i1,i2]->s.heap.get? c=some o->L.get? c=some o:=λc o M e=>by
   have l:c≠z/\c≠TI/\c≠TO/\c≠i1/\c≠i2:=by simpa using M
   exact U.extBut _ _ l.1 (hk c o l.1 l.2.2.1 l.2.2.2.1 l.2.2.2.2 e)
  have tI:Cw L TI (.ref i1) (.ref i2):=U.extBut _ _ F.TIz (hk _ _ F.TIz F.TITO F.TIi1 F.TIi2 B);have tO:Cw L TO ux uy:=U.extBut _ _ F.TOz a2;have t1:bR ka L i1 a (i+1):=a3.at λo e=>U.extBut _ _ F.i1z e;have t2:bR kb L i2 b (i+1):=a4.at λo e=>U.extBut _ _ F.i2z e;have tT:Cw L s.heap.objs.size ux uy:=U.extBut _ _ q1 a5;have hn:H s.heap.objs.size=none:=I.fresh;have I1:Inv X pins σ (upd H s.heap.objs.size (.tup [x,y])) { s with heap:=L }:=by
   refine I.turnsNew (t':=s.toks) hf q6 (λc M=>?_) (As _) ⟨by show 2<=sizeLine;rw[AS];decide,[ux,uy],.cons rx (.cons ry .nil),_,tT,rfl,_,rfl⟩;have l:c=z\/c=TI\/c=TO\/c=i1\/c=i2:=by simpa using M
   rcases l with rfl|rfl|rfl|rfl|rfl;exact⟨_,q3⟩;exact⟨_,tI⟩;exact⟨_,tO⟩;obtain⟨o,e,_⟩:=t1.obj;exact⟨o,e⟩;obtain⟨o,e,_⟩:=t2.obj;exact⟨o,e⟩
  refine⟨.ref s.heap.objs.size,_,I1,rfl,⟨_,x,y,rfl,hn,I.newK,rfl,λq9 w3 q4 q5=>?_⟩,⟨q3,tI,⟨_,_,tO⟩,t1,t2⟩,λc M=>?_⟩;rw[I.sq_inj q4 ha,I.sq_inj q5 hb];exact⟨hx,hy⟩;rw[aD (Az ?_)];exact(hf c M).1;obtain⟨o,e,_⟩:∃o,s.heap.get? c=some o/\True:=by
   have l:c=z\/c=TI\/c=TO\/c=i1\/c=i2:=by simpa using M
   rcases l with rfl|rfl|rfl|rfl|rfl;exact⟨_,hz,trivial⟩;exact⟨_,B,trivial⟩;exact⟨_,G,trivial⟩;obtain⟨o,e,_⟩:=W.obj;exact⟨o,e,trivial⟩;obtain⟨o,e,_⟩:=Z.obj;exact⟨o,e,trivial⟩
  exact Am e
 done:=by
  intro X hP hw hK M i pins s σ H E I hf st hg;subst hP hw hK;obtain⟨hz,B,⟨u,v,G⟩,W,Z⟩:=st;obtain⟨xs,ys,ha,hb,q2⟩:=hg;obtain⟨as,ra,pa,_⟩:=I.sq ha;obtain⟨bs,rb,pb,_⟩:=I.sq hb;have la:=ra.length;have lb:=rb.length;refine mH (I.ok.hd M) (F.apart I hf ha hb) hz B G W Z pa pb ?_ λh' hk=>⟨rfl,I.turns (t':=s.toks) hf λc o M e=>?_⟩
  rcases q2 with q|q;exact .inl (by simp;omega);exact .inr (by simp;omega);have l:c≠z/\c≠TI/\c≠TO/\c≠i1/\c≠i2:=by simpa using M
  exact hk c o l.1 l.2.2.1 l.2.2.2.1 l.2.2.2.2 e
 self:=λ_ _ _ _ _ st h=>HW st.1 h
noncomputable def aMt(K:An)(ta:TA):TI:=λσ H R=>ta σ H λvs H1=>∃(ka kb:Bool) (a b:Addr) (xs ys:List V),vs=[.ref a,.ref b]/\Sq ka K H1 a xs/\Sq kb K H1 b ys/\R (Itz K ka kb a b) H1
theorem aCa:B4 "zip" = some (.type "zip"):=by kernel_rfl
theorem aCb(n:Nat):aEt (n+4) (n+2) (n+3) n (n+1) where
 TIz:=by simp
 TOz:=by simp
 i1z:=by simp
 i2z:=by simp
 TITO:=by simp
 TIi1:=by simp
 TIi2:=by simp
 TOi1:=by simp
 TOi2:=by simp
 i12:=by simp
theorem aHd{X:Cx}{a b:Av}{ta:TA}{p pos:CF}{B:List Av}{tk:Nat}{tp:CF}(hg:Gl X "zip")(hm:X.mg "zip" = none)(ha:PA X [a,b] ta)(hs:A6 [a,b] X.env=[(false,Cc a X.env),(false,Cc b X.env)])(L:A6 [b] X.env=[(false,Cc b X.env)]) :
 PI X (.Tuple B tk tp) (.Call (.Name "zip" p) [a,b] [] pos) (aMt X.K ta):=by
 intro pins s σ H R I h;refine JT (cJ I hg hm aCa (Ba (thn (ha pos pins s σ H _ I h) λus s1 ⟨vs,H1,l,r1,Z⟩=>?_) (by rw[hs,L]) (by rw[L];rfl)));obtain⟨ka,kb,a1,b1,xs,ys,e,Z,q2,q⟩:=Z;subst e;cases r1 with
 | cons r rr=>
  cases rr with
  | cons r' rr=>
   cases rr;cases r;cases r';obtain⟨as,ra,pa,_⟩:=l.sq Z;obtain⟨bs,rb,pb,_⟩:=l.sq q2;refine aAh pa pb λh' hz M U h1 h2 q0 hk=>HW (s:={ s1 with heap:=h' }) hz ?_;refine⟨s1.heap.objs.size+4,_,_,_,H1,rfl,l.kept (t':=s1.toks) hk,aBZ (aCb _),⟨hz,M,⟨_,_,U⟩,h1,h2⟩,λc hc=>?_,q⟩;have W:c=s1.heap.objs.size+4\/c=s1.heap.objs.size+2\/c=s1.heap.objs.size+3\/c=s1.heap.objs.size\/c=s1.heap.objs.size+1:=by simpa using hc
   have G:s1.heap.objs.size<=c:=by rcases W with rfl|rfl|rfl|rfl|rfl <;> omega
   exact l.fpOk G (l.hok.fresh G)
theorem aHe{X:Cx}{tg l:Av}{L:TE}(hl:PE X l L):PI X tg l (λσ H R=>L σ H λx H1=>∃a,x=.ref a/\(((∃xs,SqL X.K H1 a xs)/\R (Itl X.K a) H1)\/((∃xs,SqT X.K H1 a xs)/\R (Itt X.K a) H1))):=by
 intro pins s σ H R I h;refine thn (hl pins s σ H _ I h) λv s1 ⟨x,H1,B,U,M⟩=>?_;obtain⟨a,e,q⟩:=M;subst e;cases U;rcases q with⟨⟨xs,G⟩,q⟩|⟨⟨xs,G⟩,q⟩
 obtain⟨its,rv,p,hz⟩:=B.list G;refine Dg p.isList ?_;refine⟨s1.heap.objs.size,[s1.heap.objs.size],_,_,H1,rfl,B.kept (t':=s1.toks) λb o e=>Ab _ e,nV a _,⟨_,Aq _ rfl,rfl,rfl⟩,λb hb=>?_,q⟩;have e:b=s1.heap.objs.size:=by simpa using hb
 subst e;exact B.fpOk (As _) (B.hok.fresh (As _));obtain⟨its,rv,p,hz⟩:=B.tuple G;refine GX (show s1.heap.IsTuple a its.toArray from p) ?_;refine⟨s1.heap.objs.size,[s1.heap.objs.size],_,_,H1,rfl,B.kept (t':=s1.toks) λb o e=>Ab _ e,uJ a _,⟨_,Aq _ rfl,rfl,rfl⟩,λb hb=>?_,q⟩;have e:b=s1.heap.objs.size:=by simpa using hb
 subst e;exact B.fpOk (As _) (B.hok.fresh (As _))
section
variable {prog:A0} {w:AH} {A:AV} {E:Value->Ad->Prop} {s:Ad}
theorem aCc{k:Bool}{e it l:Addr}{i:Nat}{xs:Array Value}{x J:Value}{Q:Value->Ad->Prop}(he:FT s.heap e it i J)(q1:bR k s.heap it l i)(hl:cW k s.heap l xs)(hx:xs[i]? = some x)(B:e≠it)
 (hQ:∀h',HX h' e it ((i:Int)+1) x s.heap.objs.size->bR k h' it l (i+1)->h'.get? s.heap.objs.size=some { cls:=.type "tuple",data:=.seq #[.int i s.toks,x] }->h'.objs.size=s.heap.objs.size+1 ->
  (∀b o,b≠e->b≠it->s.heap.get? b=some o->h'.get? b=some o)->Q (.ref s.heap.objs.size) { s with heap:=h',toks:=s.toks+1 }) :
 Ap (A2 prog w) A (C4.«enumerate.__next__» ⟨[.ref e],[]⟩) (λq0 s'=>∃v,q0=.done (.ret v)/\Q v s') E s:=by
 obtain⟨G,g,d,tk,os⟩:=s;refine Aa (m:=Gv (.ref e) 2) (AT he rfl (x:=.ref it) rfl (Aa (dZ q1 hl hx λW i1 s1=>?_)));have s1:Bq it G W:=s1;have e1:FT W e it i J:=(s1.2 e B).trans he;refine Aa (m:=Gv (.ref e) 3) (AT e1 rfl (x:=BD i) rfl (Aa (m:=Gv (.ref e) 4) (AT e1 rfl (x:=.none) rfl (Aa (m:=mkInt i) (wpAny_mkInt ?_)))));refine Aa (m:=Kb (.ref e) 3 (BD ((i:Int)+1))) (s:=⟨W,g,d,tk+1,os⟩) (AU e1 (by simp) λZ e2 s2=>?_);have s2:Bq e W Z:=s2;have e2:FT Z e it ((i:Int)+1) J:=e2;refine Aa (m:=Kb (.ref e) 4 .none) (s:=⟨Z,g,d,tk+1,os⟩) (AU e2 (by simp) λI e3 M=>?_);have M:Bq e Z I:=M;have e3:FT I e it ((i:Int)+1) J:=e3;refine Aa (m:=Kd [.int i tk,x]) (s:=⟨I,g,d,tk+1,os⟩) (Gy ?_);have U:FT (I.push { cls:=.type "tuple",data:=.seq #[.int i tk,x] }) e it ((i:Int)+1) J:=Ab _ e3;generalize q4:I.push { cls:=.type "tuple",data:=.seq #[.int i tk,x] }=h4 at U;have z3:I.objs.size=G.objs.size:=by rw[M.1,s2.1,s1.1]
 have lt:e<G.objs.size:=Am he;have t4:h4.get? G.objs.size=some { cls:=.type "tuple",data:=.seq #[.int i tk,x] }:=by rw[<-q4,<-z3];exact Aq _ rfl
 have z4:h4.objs.size=G.objs.size+1:=by rw[<-q4,Bf,z3]
 have k4:∀b o,b≠e->b≠it->G.get? b=some o->h4.get? b=some o:=λb o L n2 hb=>by rw[<-q4];exact Ab _ (M.extBut b o L (s2.extBut b o L (s1.extBut b o n2 hb)))
 have i4:bR k h4 it l (i+1):=i1.at λo ho=>by rw[<-q4];exact Ab _ (M.extBut _ _ B.symm (s2.extBut _ _ B.symm ho))
 rw[z3];refine Aa (m:=Bc (.ref e)) (s:=⟨h4,g,d,tk+1,os⟩) ?_;unfold Bc;refine Aa (AT U rfl (x:=.none) rfl (Af ?_));simp only[if_true];refine Aa (DW (Aa (AT U rfl (x:=J) rfl (Aa (AU U (by simp) λh5 e5 s5=>?_)))));have s5:Bq e h4 h5:=s5;have e5:FT h5 e it ((i:Int)+1) x:=e5;refine Aa (m:=BF (.ref e) (.ref G.objs.size)) (s:=⟨h5,g,d,tk+1,os⟩) ?_;unfold BF;refine Aa (AU e5 (by simp) λh6 e6 s6=>?_);have s6:Bq e h5 h6:=s6;have e6:HX h6 e it ((i:Int)+1) x G.objs.size:=e6;refine AU e6 (by simp) λh7 e7 s7=>?_;have s7:Bq e h6 h7:=s7;have e7:HX h7 e it ((i:Int)+1) x G.objs.size:=e7;have up:∀b o,b≠e->h4.get? b=some o->h7.get? b=some o:=λb o n hb=>s7.extBut _ _ n (s6.extBut _ _ n (s5.extBut _ _ n hb));exact Aa (Fm (Af ⟨_,rfl,hQ h7 e7 (i4.at λo ho=>up _ _ B.symm ho) (up _ _ (BC lt) t4) (by rw[s7.1,s6.1,s5.1,z4]) λb o L n2 hb=>up b o L (k4 b o L n2 hb)⟩))
theorem sN{k:Bool}{e it l:Addr}{i:Nat}{xs:Array Value}{x J:Value}{Q:Option Value->Ad->Prop}(I:FT s.heap e it i J)(B:bR k s.heap it l i)(hl:cW k s.heap l xs)(M:xs[i]? = some x)(G:e≠it)
 (L:∀h',HX h' e it ((i:Int)+1) x s.heap.objs.size->bR k h' it l (i+1)->h'.get? s.heap.objs.size=some { cls:=.type "tuple",data:=.seq #[.int i s.toks,x] }->h'.objs.size=s.heap.objs.size+1 ->
  (∀b o,b≠e->b≠it->s.heap.get? b=some o->h'.get? b=some o)->Q (some (.ref s.heap.objs.size)) { s with heap:=h',toks:=s.toks+1 }):Ap (A2 prog w) A (Dd (.ref e)) Q E s:=by
 have T:s.TypeIs (.ref e) "enumerate" := ⟨_,I,rfl⟩
 unfold Dd;exact Aa (D5 (Bj (name:=Cv "__next__") T De (Bs De T FU (aCc I B hl M G λh' a b c d k=>Af (L h' a b c d k)) (F6 _))))
theorem vF{k:Bool}{e it l:Addr}{i:Nat}{xs:Array Value}{J:Value}{Q:Option Value->Ad->Prop}(M:A.handled=none)(G:FT s.heap e it i J)(B:bR k s.heap it l i)(hl:cW k s.heap l xs)(W:xs[i]? = none)
 (I:∀h',Gw it s.heap h'->Q none { s with heap:=h' }):Ap (A2 prog w) A (Dd (.ref e)) Q E s:=by
 have T:s.TypeIs (.ref e) "enumerate" := ⟨_,G,rfl⟩
 unfold Dd;refine Aa (D5 (Bj (name:=Cv "__next__") T De (Bs De T FU ?_ (F6 _))));refine Aa (m:=Gv (.ref e) 2) (AT G rfl (x:=.ref it) rfl (Aa (hU M B hl W λh' x g ⟨o,U,L⟩=>?_)));exact Aa (Dt (T:= "StopIteration") (b:=true) ⟨o,U,L⟩ Gz (Af (I _ g)))
end
noncomputable def aCd(it:Addr):Obj:={ cls:=.type "enumerate",data:=.fields #[.none,.bool false,.ref it,BD 0,.none,.none] }
theorem aAi(k:Bool)(l:Addr)(xs:Array Value)(M:Obj):Meets (C4.«enumerate.__new__» ⟨[.type "enumerate",.ref l],[]⟩) (λ_ R s=>s.heap.get? l=some M/\cW k s.heap l xs /\
 R (.ok (.ret (.ref (s.heap.push (eX k l)).objs.size))) { s with heap:=(s.heap.push (eX k l)).push (aCd s.heap.objs.size) }):=
 .of_wp λprog w A R s h=>by
  obtain⟨L,g,d,tk,os⟩:=s;obtain⟨B,hl,h⟩:=h;have I:=sub_enumerate;have G:cW k (Shared.heap ⟨L,g,d,tk,os⟩) l xs:=hl
  wp_walk using CT B
  refine wpAny_stack_any λst=>Af ?_;split;rename_i c _ _ _ _ _;cases(c==CG "enumerate") <;> (wp_walk using CT B,fY G;exact⟨_,rfl,h⟩)
  . wp_walk using CT B,fY G
    exact⟨_,rfl,h⟩
theorem aCe{prog:A0}{w:AH}{A:AV}{E:Value->Ad->Prop}{s:Ad}{k:Bool}{l:Addr}{xs:Array Value}{Q:Value->Ad->Prop}(hl:cW k s.heap l xs)
 (h:∀h',FT h' (s.heap.objs.size+1) s.heap.objs.size 0 .none->bR k h' s.heap.objs.size l 0->(∀b o,s.heap.get? b=some o->h'.get? b=some o)->Q (.ref (s.heap.objs.size+1)) { s with heap:=h' }) :
 Ap (A2 prog w) A (call (.type "enumerate") [.ref l]) Q E s:=by
 obtain⟨B,G⟩:∃B,s.heap.get? l=some B:=by
  cases k with
  | true=>obtain⟨o,e,_⟩:=hl;exact⟨o,e⟩|false=>obtain⟨o,e,_⟩:=hl;exact⟨o,e⟩
 refine JB F.called_enumerate (by decide) (F.typeCall_enumerate_1 _) (F.newCall_enumerate_1 _) (λobj=>F.args_object_init_2 obj _) F.entry_enumerate_new (aAi k l xs B) ⟨G,hl,?_⟩;have z:(s.heap.push (eX k l)).objs.size=s.heap.objs.size+1:=Bf ..;have nf:(eX k l).isFreed=false:=by cases k <;> rfl
 have g2:((s.heap.push (eX k l)).push (aCd s.heap.objs.size)).get? (s.heap.push (eX k l)).objs.size=some (aCd s.heap.objs.size):=Aq _ rfl;show _/\_;rw[z] at g2 ⊢;exact⟨⟨_,g2,rfl⟩,h _ g2 (mI (Ab _ (Aq _ nf))) λb o x=>Ab _ (Ab _ x)⟩
noncomputable def Ite(K:An)(k:Bool)(a:Addr):It:=
 ⟨λi H=>∃xs x,Sq k K H a xs/\xs[i]? = some x,
  λi H v H'=>∃p x,v=.ref p/\H p=none/\K.lookup p=none/\H'=upd H p (.tup [.int i,x])/\∀xs,Sq k K H a xs->xs[i]? = some x,
  λi H=>∃xs,Sq k K H a xs/\xs.length<=i⟩
theorem aEu{P:A0}{w:AH}{K:An}{k:Bool}{W:List Av}{tk:Nat}{tp:CF}{e it a:Addr}(ne:e≠it) :
 uI P w K (.Tuple W tk tp) (Ite K k a) [e,it] e (λi h=>(∃J,FT h e it i J)/\bR k h it a i) where
 mem:=by simp
 obj:=λi h st c B=>by
  obtain⟨⟨J,L⟩,M⟩:=st;have l:c=e\/c=it:=by simpa using B
  rcases l with rfl|rfl;exact⟨_,L,λv z=>by cases(show Ie _=G4 v from z)⟩;exact M.obj
 keep:=λi h h' st kp=>by obtain⟨⟨J,L⟩,M⟩:=st;exact⟨⟨J,kp e (by simp) _ L⟩,M.at λo q=>kp it (by simp) o q⟩
 item:=by
  intro X hP hw hK B i pins s σ H E I hf st hg;subst hP hw hK;obtain⟨⟨J,L⟩,M⟩:=st;obtain⟨xs,x,Z,hx⟩:=hg;obtain⟨as,ra,pa,_⟩:=I.sq Z;obtain⟨ux,q2,rx⟩:=ra.get hx;refine sN L M pa (x:=ux) (by simpa using q2) ne λh' a1 a2 a3 a4 hk=>?_;refine⟨_,rfl,wpAny_letOwnedTupleGo_enum (s:={ s with heap:=h',toks:=s.toks+1 }) a1 λG e' U=>?_⟩;have lt:s.heap.objs.size≠e:=BC (Am L);have q1:∀c o,c∉[e,it]->s.heap.get? c=some o->G.get? c=some o:=λc o B q=>by
   have l:c≠e/\c≠it:=by simpa using B
   exact U.extBut _ _ l.1 (hk c o l.1 l.2 q)
  have t1:bR k G it a (i+1):=a2.at λo q=>U.extBut _ _ ne.symm q;have tT:G.get? s.heap.objs.size=some { cls:=.type "tuple",data:=.seq #[.int i s.toks,ux] }:=U.extBut _ _ lt a3;have hn:H s.heap.objs.size=none:=I.fresh;have I1:Inv X pins σ (upd H s.heap.objs.size (.tup [.int i,x])) { s with heap:=G,toks:=s.toks+1 }:=by
   refine I.turnsNew (t':=s.toks+1) hf q1 (λc B=>?_) (As _) ⟨by show 2<=sizeLine;rw[AS];decide,[.int i s.toks,ux],.cons ⟨_,rfl⟩ (.cons rx .nil),_,tT,rfl,_,rfl⟩;have l:c=e\/c=it:=by simpa using B
   rcases l with rfl|rfl;exact⟨_,e'⟩;obtain⟨o,q,_⟩:=t1.obj;exact⟨o,q⟩
  refine⟨.ref s.heap.objs.size,_,I1,rfl,⟨_,x,rfl,hn,I.newK,rfl,λq4 q0=>?_⟩,⟨⟨_,e'⟩,t1⟩,λc B=>?_⟩;rw[I.sq_inj q0 Z];exact hx;rw[aD (Az ?_)];exact(hf c B).1;have l:c=e\/c=it:=by simpa using B
  rcases l with rfl|rfl;exact Am L;obtain⟨o,q,_⟩:=M.obj;exact Am q
 done:=by
  intro X hP hw hK B i pins s σ H E I hf st hg;subst hP hw hK;obtain⟨⟨J,L⟩,M⟩:=st;obtain⟨xs,Z,q3⟩:=hg;obtain⟨as,ra,pa,_⟩:=I.sq Z;have la:=ra.length;refine vF (I.ok.hd B) L M pa (by simp;omega) λh' hk=>⟨rfl,I.turns (t':=s.toks) hf λc o B q=>hk c o ?_ q⟩
  have l:c≠e/\c≠it:=by simpa using B
  exact l.2
 self:=λ_ _ _ _ _ st h=>let ⟨_,q⟩:=st.1;Hz q h
noncomputable def iEn(K:An)(ta:TA):TI:=λσ H R=>ta σ H λvs H1=>∃(k:Bool) (a:Addr) (xs:List V),vs=[.ref a]/\Sq k K H1 a xs/\R (Ite K k a) H1
theorem aAj:B4 "enumerate" = some (.type "enumerate"):=by kernel_rfl
theorem aEv{X:Cx}{a:Av}{W:TA}{p pos:CF}{l:List Av}{tk:Nat}{tp:CF}(hg:Gl X "enumerate")(hm:X.mg "enumerate" = none)(ha:PA X [a] W)(hs:A6 [a] X.env=[(false,Cc a X.env)]) :
 PI X (.Tuple l tk tp) (.Call (.Name "enumerate" p) [a] [] pos) (iEn X.K W):=by
 intro pins s σ H R I h;refine JT (cJ I hg hm aAj (Ba (thn (ha pos pins s σ H _ I h) λus s1 ⟨vs,H1,G,r1,M⟩=>?_) (by rw[hs];rfl) rfl));obtain⟨k,a1,xs,e,M,q⟩:=M;subst e;cases r1 with
 | cons r rr=>
  cases rr;cases r;obtain⟨as,ra,pa,_⟩:=G.sq M;refine aCe pa λh' U Z hk=>Hz (s:={ s1 with heap:=h' }) U ?_;refine⟨s1.heap.objs.size+1,_,_,_,H1,rfl,G.kept (t':=s1.toks) hk,aEu (Nat.succ_ne_self _),⟨⟨_,U⟩,Z⟩,λc hc=>?_,q⟩;have L:c=s1.heap.objs.size+1\/c=s1.heap.objs.size:=by simpa using hc
  have B:s1.heap.objs.size<=c:=by rcases L with rfl|rfl <;> omega
  exact G.fpOk B (G.hok.fresh B)
end L2
namespace Hp
open PySem PySem.Spec PyProof.Rows L2
theorem Kp.refl(R:Addr->Prop)(H:Hp):Kp R H H:=λ_ _ h _=>h
theorem Kp.same{R:Addr->Prop}{H H':Hp}(s:aE H H'):Kp R H H':=λa o h _=>s a o h
section
variable {K:Fg} {RT Y J R:Addr->Prop} {σ:Sg} {σV:L2.St} {H H':Hp}
theorem Kp.seqL(k:Kp R H H'){a:Addr}{xs:List V}(n:¬ R a)(h:SqL K H a xs):SqL K H' a xs:=by rcases h with(h|⟨o,h⟩)|h;exact .inl (.inl (k _ _ h n));exact .inl (.inr ⟨o,k _ _ h n⟩);exact .inr h
theorem Kp.seqT(k:Kp R H H')(B:∀a,R a->RtO H a){a:Addr}{xs:List V}(h:SqT K H a xs):SqT K H' a xs:=by
 have no:∀{o:HO},H a=some o->(∀ys,o≠.lst ys)->¬ R a:=λ{o} e G z=>by obtain⟨ys,l⟩:=B a z;rw[e] at l;cases l;exact G _ rfl
 rcases h with(h|⟨o,h⟩)|h;exact .inl (.inl (k _ _ h (no h λ_ z=>by cases z)));exact .inl (.inr ⟨o,k _ _ h (no h λ_ z=>by cases z)⟩);exact .inr h
theorem Reps.kp{ex:Addr->Prop}{ds:List D}{xs:List V}(r:Reps K H ex ds xs)(k:Kp R H H')(B:∀a,R a->RtO H a)(G:∀a,R a->ex a):Reps K H' ex ds xs:=
 r.keep λa o e hl=>k a o e λz=>by obtain⟨ys,l⟩:=B a z;rw[e] at l;cases l;exact hl (.inl ⟨ys,rfl⟩) (G a z)
noncomputable def rtF(RT:Addr->Prop)(σ:Sg)(σV:L2.St)(al:List Nat)(a:Addr):Prop:=RT a/\¬ alR σ σV al a
theorem dM:∀(al:List Nat) (σ:Sg) (i:Nat),(freeze σ al)[i]? = (σ[i]?).map λs=>if i∈al then s.freeze else s
 | [],σ,i=>by cases q:σ[i]? <;> simp[freeze,q]|j::al,σ,i=>by
  rw[freeze,dM al];cases B:σ[j]? with
  | none=>
   simp only;cases q:σ[i]? with
   | none=>rfl|some s=>
    have G:i≠j:=λe=>by subst e;rw[q] at B;cases B
    simp[G]
  | some I=>simp only;by_cases l:i=j;subst l;have hl:i<σ.length:=(Ai.mp B).1;rw[Ar hl,B];simp only[Dc,Ao,true_or,if_true];split;cases I <;> rfl;rfl;rw[Ah (BS l)];simp[l]
theorem mJ:∀(al:List Nat) (σ:Sg),(freeze σ al).length=σ.length
 | [],σ=>rfl|j::al,σ=>by rw[freeze,mJ al];split;rw[Ay];rfl
theorem freeze_sh{al:List Nat}{i:Nat}{pa:Bool}{d:D}(h:(freeze σ al)[i]? = some (.sh pa d)):σ[i]? = some (.sh pa d)\/∃ds,i∈al/\σ[i]? = some (.own pa ds)/\d=.lst ds:=by
 rw[dM] at h;cases q:σ[i]? with
 | none=>rw[q] at h;cases h|some s=>
  rw[q] at h;have h:(if i∈al then s.freeze else s)=.sh pa d:=Au h;split at h;rename_i hi;cases s with
  | dead=>cases h|sh pa' d'=>cases h;exact .inl rfl|own pa' ds'=>cases h;exact .inr ⟨ds',hi,rfl,rfl⟩|own2 _=>cases h
  exact .inl (by rw[h])
theorem cX{al:List Nat}{i:Nat}{pa:Bool}{ds:List D}(h:(freeze σ al)[i]? = some (.own pa ds)):σ[i]? = some (.own pa ds)/\i∉al:=by
 rw[dM] at h;cases q:σ[i]? with
 | none=>rw[q] at h;cases h|some s=>rw[q] at h;have h:(if i∈al then s.freeze else s)=.own pa ds:=Au h;split at h;cases s <;> cases h;rename_i hi;exact⟨by rw[h],hi⟩
theorem aAk{al:List Nat}{i:Nat}{dss:List (List D)}(h:(freeze σ al)[i]? = some (.own2 dss)):σ[i]? = some (.own2 dss):=by
 rw[dM] at h;cases q:σ[i]? with
 | none=>rw[q] at h;cases h|some s=>
  rw[q] at h;have h:(if i∈al then s.freeze else s)=.own2 dss:=Au h;split at h;cases s with
  | own2 d=>exact congrArg some h|_=>cases h
  rw[h]
theorem Sx.frz(S:Sx K RT Y J σ σV H)(al:List Nat):Sx K (rtF RT σ σV al) Y J (freeze σ al) σV H where
 sh:=λi pa d h=>by
  rcases freeze_sh h with h|⟨ds,hi,U,e⟩
  obtain⟨v,l,B⟩:=S.sh i pa d h;exact⟨v,l,B.weak λa z=>z.elim (λz=>.inl z.1) .inr⟩;subst e;obtain⟨a,xs,l,B,I,G,L⟩:=S.own i pa ds U;refine⟨.ref a,l,a,xs,rfl,SqL.of B,?_,L.weak λa z=>z.elim (λz=>.inl z.1) .inr⟩;rintro (z|z|⟨_,z⟩);exact z.2 ⟨i,hi,⟨pa,ds,U⟩,l⟩;exact G (S.yo a z);exact G z
 own:=λi pa ds h=>by obtain⟨h,hi⟩:=cX h;obtain⟨a,xs,l,B,I,G,L⟩:=S.own i pa ds h;refine⟨a,xs,l,B,⟨I,?_⟩,G,L.weak λa z=>z.elim (λz=>.inl z.1) .inr⟩;rintro ⟨j,W,⟨pa',ds',q⟩,M⟩;have:=S.inj i j pa pa' ds ds' a h q l M;subst this;exact hi W
 trk:=λa z=>S.trk a (z.elim (λz=>.inl z.1) .inr)
 yo:=S.yo
 tk:=S.tk
 rt:=λa z=>S.rt a z.1
 inj:=λi j pa pa' ds ds' a l B I G=>S.inj i j pa pa' ds ds' a (cX l).1 (cX B).1 I G
 len:=by rw[mJ];exact S.len
 dx:=S.dx.imp id (λ_ _ r=>r) (λ_ _ e=>⟨aAk e,rfl⟩) (λ_ _ _ _ _ _ e=>e) λp xs e z=>⟨e,⟨z.1,λ⟨j,_,⟨pa,ds,q⟩,M⟩=>z.2.2 j pa ds q M⟩,z.2.1,λk pa ds q=>z.2.2 k pa ds (cX q).1⟩
theorem Tk.new{p:Addr}{o:HO}(t:Tk K H)(h:K.lookup p=none):Tk K (upd H p o):=λb hb=>by by_cases e:b=p;rw[e];exact h;rw[aD e] at hb;exact t b hb
noncomputable def Nw(K:Fg)(H:Hp)(a:Addr):Prop:=H a=none/\K.lookup a=none
theorem aEw{a:Addr}{xs:List V}(q:SqL K H a xs):¬ Nw K H a:=by
 rintro ⟨n,k⟩;rcases q with(q|⟨o,q⟩)|⟨o,its,m,q,_⟩
 rw[n] at q;cases q;rw[n] at q;cases q;rw[k] at q;cases q
theorem Reps.outN{ex:Addr->Prop}{d:List D}{v:List V}(h:Reps K H ex d v):Reps K H (λb=>ex b\/Nw K H b) d v:=
 Reps.imp (λ_ _ q=>q) (λb xs l q=>⟨λz=>z.elim l (aEw q),q⟩) (λ_ _ q=>q) (λb o _ l q=>⟨λz=>z.elim l λz=>(by rw[z.1] at q;cases q),q⟩) d v h
theorem RvN.sub{ex:Addr->Prop}{v:Vl}{d:D}{x:V}(h:Rep K H' (λa=>exV RT Y J σ σV v.pa v.al a\/ex a) d x):Rep K H' (λa=>exV RT Y J σ σV (v.sub d).pa (v.sub d).al a\/ex a) (v.sub d).d x:=by unfold Vl.sub;by_cases l:noL d=true;rw[if_pos l];exact Rep.free d x l h;rw[if_neg l];exact h
structure aAl (K:Fg) (RT Y J:Addr->Prop) (σ:Sg) (σV:L2.St) (H1:Hp) (J'':L2.It) (xs:List Vl) (al:List Nat):Prop where
 sub:∀v∈xs,∀j∈v.al,j∈al
 nofr:∀v∈xs,v.fr=false
 ok:∀(R:Addr->Prop),(∀b,R b->rtF RT σ σV al b)->∀(i:Nat) (H:Hp),Kp R H1 H->(i<xs.length->J''.go i H)/\(xs.length<=i->J''.stop i H)/\∀x H',J''.yld i H x H'->∀v,xs[i]? = some v->aE H H'/\(Tk K H->Tk K H')/\Rep K H' (λa=>exV RT Y J σ σV v.pa v.al a\/Nw K H1 a) v.d x
theorem qO{v:Vl}{d:D}:∀j∈(v.sub d).al,j∈v.al:=by unfold Vl.sub Vl.cl;split;intro j l;cases l;intro j l;exact l
theorem mK{v:Vl}{d:D}:(v.sub d).fr=false:=by unfold Vl.sub Vl.cl;split <;> rfl
theorem fZ{x:Vl}{ds:List D}{i:Nat}{v:Vl}(h:(items x ds)[i]? = some v):∃d,ds[i]? = some d/\v=x.sub d:=by
 unfold items at h;rw[Ak] at h;cases q:ds[i]? with
 | none=>rw[q] at h;cases h|some d=>rw[q] at h;exact⟨d,rfl,(Au h).symm⟩
theorem fH{al:List Nat}{pa:Bool}{b:Addr}(h:rtF RT σ σV al b):exV RT Y J σ σV pa al b:=.inl h
theorem jZ:∀(as bs:List D),(kH as bs).length=min as.length bs.length
 | [],_=>by simp[kH]|_::_,[]=>by simp[kH]|_::as,_::bs=>by rw[kH,lC,jZ as bs,lC,lC];omega
theorem sO:∀{as bs:List D} {i:Nat} {a b:D},as[i]? = some a->bs[i]? = some b->(kH as bs)[i]? = some (.tup [a,b])
 | [],_,_,_,_,h,_=>by simp at h|_::_,[],_,_,_,_,h=>by simp at h|_::_,_::_,0,_,_,h,h'=>by simp at h h';subst h h';rfl|_::as,_::bs,i+1,a,b,h,h'=>by have:=sO (as:=as) (bs:=bs) (i:=i) (a:=a) (b:=b) (by simpa using h) (by simpa using h');simpa[kH] using this
theorem aEx(S:Sx K RT Y J σ σV H){x:Vl}{ds:List D}{a:Addr}{xs:List V}(q:SqL K H a xs)(n:¬ exV RT Y J σ σV x.pa x.al a)(r:Reps K H (exV RT Y J σ σV x.pa x.al) ds xs) :
 aAl K RT Y J σ σV H (Itl K a) (items x ds) x.al where
 sub:=λv l j M=>by obtain⟨d,_,e⟩:=AA.mp l;subst e;exact qO j M
 nofr:=λv l=>by obtain⟨d,_,e⟩:=AA.mp l;subst e;exact mK
 ok:=λR G i H1 k=>by
  have L:SqL K H1 a xs:=k.seqL (λz=>n (fH (G a z))) q;have U:Reps K H1 (λa=>exV RT Y J σ σV x.pa x.al a\/Nw K H a) ds xs:=r.outN.kp k (λb z=>S.rt b (G b z).1) λb z=>.inl (fH (G b z));have hl:(items x ds).length=xs.length:=by unfold items;rw[lM,r.length]
  refine⟨λhi=>⟨xs,xs[i]'(by omega),L,Ac (by omega)⟩,λhi=>⟨xs,L,by omega⟩,λy H' I v l=>?_⟩;obtain⟨e,I⟩:=I;subst e;obtain⟨d,hd,e⟩:=fZ l;subst e;obtain⟨Z,B,W⟩:=U.get hd;rw[I xs L] at B;cases B;exact⟨aE.refl _,id,RvN.sub W⟩
theorem aHf(S:Sx K RT Y J σ σV H){x:Vl}{ds:List D}{a:Addr}{xs:List V}(q:SqT K H a xs)(r:Reps K H (exV RT Y J σ σV x.pa x.al) ds xs) :
 aAl K RT Y J σ σV H (Itt K a) (items x ds) x.al where
 sub:=λv l j M=>by obtain⟨d,_,e⟩:=AA.mp l;subst e;exact qO j M
 nofr:=λv l=>by obtain⟨d,_,e⟩:=AA.mp l;subst e;exact mK
 ok:=λR G i H1 k=>by
  have L:SqT K H1 a xs:=k.seqT (λb z=>S.rt b (G b z).1) q;have U:Reps K H1 (λa=>exV RT Y J σ σV x.pa x.al a\/Nw K H a) ds xs:=r.outN.kp k (λb z=>S.rt b (G b z).1) λb z=>.inl (fH (G b z));have hl:(items x ds).length=xs.length:=by unfold items;rw[lM,r.length]
  refine⟨λhi=>⟨xs,xs[i]'(by omega),L,Ac (by omega)⟩,λhi=>⟨xs,L,by omega⟩,λy H' I v l=>?_⟩;obtain⟨e,I⟩:=I;subst e;obtain⟨d,hd,e⟩:=fZ l;subst e;obtain⟨Z,B,W⟩:=U.get hd;rw[I xs L] at B;cases B;exact⟨aE.refl _,id,RvN.sub W⟩
theorem aCf{lo:Int}{m:Nat}{xs:List Vl}(B:xs=((AD m).map λ(k:Nat)=>Vl.cl (.int (lo+(k:Int))))):aAl K RT Y J σ σV H (Itr lo m) xs [] where
 sub:=λv l j I=>by subst B;obtain⟨d,_,e⟩:=AA.mp l;subst e;exact I
 nofr:=λv l=>by subst B;obtain⟨d,_,e⟩:=AA.mp l;subst e;rfl
 ok:=λR L i H1 k=>by
  have hl:xs.length=m:=by rw[B,lM,Bp]
  refine⟨λhi=>(show i<m by omega),λhi=>(show m<=i by omega),λy H' G v l=>?_⟩;obtain⟨e,G⟩:=G;subst e G;subst B;rw[Ak] at l;have hi:i<m:=by have:=(Ai.mp (show((AD m).map λ(k:Nat)=>Vl.cl (.int (lo+(k:Int))))[i]? = some v by rw[Ak];exact l)).1;simpa using this
  rw[ED hi] at l;cases l;exact⟨aE.refl _,id,rfl⟩
theorem aHg(S:Sx K RT Y J σ σV H){Z kb:Bool}{as bs:List D}{a b:Addr}{xs ys:List V}{pa:Bool}{al:List Nat}(qa:Sq Z K H a xs)(qb:Sq kb K H b ys)(na:Z=true->¬ exV RT Y J σ σV pa al a)(nb:kb=true->¬ exV RT Y J σ σV pa al b)
 (ra:Reps K H (exV RT Y J σ σV pa al) as xs) (rb:Reps K H (exV RT Y J σ σV pa al) bs ys):aAl K RT Y J σ σV H (Itz K Z kb a b) (items ⟨.non,false,pa,al⟩ (kH as bs)) al where
 sub:=λv I j hj=>by obtain⟨d,_,e⟩:=AA.mp I;subst e;exact qO j hj
 nofr:=λv I=>by obtain⟨d,_,e⟩:=AA.mp I;subst e;exact mK
 ok:=λR G i H1 k=>by
  have keep:∀{L:Bool} {c:Addr} {zs:List V},(L=true->¬ exV RT Y J σ σV pa al c)->Sq L K H c zs->Sq L K H1 c zs:=by
   intro L c zs nn q;cases L with
   | true=>exact k.seqL (λz=>nn rfl (fH (G c z))) q|false=>exact k.seqT (λb z=>S.rt b (G b z).1) q
  have l:=keep na qa;have B:=keep nb qb;have q0:Reps K H1 (λa=>exV RT Y J σ σV pa al a\/Nw K H a) as xs:=ra.outN.kp k (λb z=>S.rt b (G b z).1) λb z=>.inl (fH (G b z));have q1:Reps K H1 (λa=>exV RT Y J σ σV pa al a\/Nw K H a) bs ys:=rb.outN.kp k (λb z=>S.rt b (G b z).1) λb z=>.inl (fH (G b z));have hl:(items ⟨.non,false,pa,al⟩ (kH as bs)).length=min xs.length ys.length:=by unfold items;rw[lM,jZ,ra.length,rb.length]
  have ge:∀(h1:i<xs.length) (h2:i<ys.length),True:=λ_ _=>trivial;refine⟨λhi=>?_,λhi=>⟨xs,ys,l,B,by omega⟩,λy H' W v I=>?_⟩;have h1:i<xs.length:=by omega
  have h2:i<ys.length:=by omega
  exact⟨xs,ys,xs[i],ys[i],l,B,Ac h1,Ac h2⟩;obtain⟨p,x,y',rfl,hp,hk,rfl,hh⟩:=W;obtain⟨hx,W⟩:=hh xs ys l B;obtain⟨d,hd,e⟩:=fZ I;subst e;obtain⟨d1,M,q2⟩:=q0.get' hx;obtain⟨d2,U,q3⟩:=q1.get' W;rw[sO M U] at hd;cases hd;have sm:aE H1 (upd H1 p (.tup [x,y'])):=aE.new hp;refine⟨sm,λtk=>tk.new hk,RvN.sub (v:=⟨.non,false,pa,al⟩) ?_⟩;exact⟨p,[x,y'],rfl,SqT.of aK,.cons (q2.grow sm) (.cons (q3.grow sm) .nil)⟩
theorem iR:∀(as:List D) (j:Int),(dA j as).length=as.length
 | [],_=>rfl|_::as,j=>by rw[dA,lC,iR as,lC]
theorem oP:∀{as:List D} {i:Nat} {j:Int} {a:D},as[i]? = some a->(dA j as)[i]? = some (.tup [.int (j+(i:Int)),a])
 | [],_,_,_,h=>by simp at h|_::_,0,j,_,h=>by simp at h;subst h;simp[dA]|_::as,i+1,j,a,h=>by
  have:=oP (as:=as) (i:=i) (j:=j+1) (a:=a) (by simpa using h);rw[dA,gS,this];have e:j+1+(i:Int)=j+((i+1:Nat):Int):=by omega
  rw[e]
theorem aEy(S:Sx K RT Y J σ σV H){k:Bool}{as:List D}{a:Addr}{xs:List V}{x:Vl}(U:Sq k K H a xs)(na:k=true->¬ exV RT Y J σ σV x.pa x.al a)(W:Reps K H (exV RT Y J σ σV x.pa x.al) as xs) :
 aAl K RT Y J σ σV H (Ite K k a) (items x (dA 0 as)) x.al where
 sub:=λv B j hj=>by obtain⟨d,_,e⟩:=AA.mp B;subst e;exact qO j hj
 nofr:=λv B=>by obtain⟨d,_,e⟩:=AA.mp B;subst e;exact mK
 ok:=λR G i H1 kp=>by
  have l:Sq k K H1 a xs:=by
   cases k with
   | true=>exact kp.seqL (λz=>na rfl (fH (G a z))) U|false=>exact kp.seqT (λb z=>S.rt b (G b z).1) U
  have L:Reps K H1 (λa=>exV RT Y J σ σV x.pa x.al a\/Nw K H a) as xs:=W.outN.kp kp (λb z=>S.rt b (G b z).1) λb z=>.inl (fH (G b z));have hl:(items x (dA 0 as)).length=xs.length:=by unfold items;rw[lM,iR,W.length]
  refine⟨λhi=>⟨xs,xs[i]'(by omega),l,Ac (by omega)⟩,λhi=>⟨xs,l,by omega⟩,λy H' hy v B=>?_⟩;obtain⟨p,z,rfl,hp,hk,rfl,hh⟩:=hy;obtain⟨d,hd,e⟩:=fZ B;subst e;obtain⟨d1,I,M⟩:=L.get' (hh xs l);rw[oP I,JC] at hd;cases hd;have Z:aE H1 (upd H1 p (.tup [.int i,z])):=aE.new hp;refine⟨Z,λtk=>tk.new hk,RvN.sub (v:=x) ?_⟩;exact⟨p,[.int i,z],rfl,SqT.of aK,.cons rfl (.cons (M.grow Z) .nil)⟩
end
section
variable {X:Cx} {P:Pg} {Γ:Ct} {n:Nat} {RT Y J:Addr->Prop} {σ:Sg} {tg:Av}
noncomputable def wI(X:Cx)(P:Pg)(n:Nat)(RT Y J:Addr->Prop)(σ:Sg)(it:Hp.It):TI:=λσV H R=>Sx X.K RT Y J σ σV H/\RE (walk P (call P n) σ it) λxs=>∀J'' H1,Tk X.K H1->aE H H1->aAl X.K RT Y J σ σV H1 J'' xs.1 xs.2->R J'' H1
theorem mL{l:Av}{t t':TI}(h:PI X tg l t)(f:∀σV H R,Tk X.K H->t' σV H R->t σV H λJ'' H'=>Tk X.K H'->R J'' H'):PI X tg l t':=λpins s σV H R I M=>thn (h pins s σV H _ I (f σV H R I.tk M)) λv s1 L=>thn L λU s2 ⟨it,fp,tn,J'',H',e,B,T,st,G,q⟩=>⟨it,fp,tn,J'',H',e,B,T,st,G,q B.tk⟩
theorem aJL{c:E}{e:Av}(L:PE X e (WE X P n RT Y J σ c)):PI X tg e (wI X P n RT Y J σ (.seq c)):=by
 refine mL (aHe L) λσV H RR t ⟨S,h⟩=>?_;have h:=RE.bind' (show RE (ev P (call P n) σ c >>= λx=>(match x.d with
  | .lst ds=>R.ok (items x ds,x.al)|.tup ds=>R.ok (items x ds,x.al)|_=>.bad)) _ from h)
 refine wE.one S h λx u H1 l U I G=>?_;have rv:=G.rv S;split at l;rename_i ds B;obtain⟨a,xs,e,q,M,r⟩:=rv.lst B;exact⟨a,e,.inl ⟨⟨xs,q⟩,λt'=>l _ _ t' G.1 (aEx I q M r)⟩⟩;rename_i ds B;obtain⟨a,xs,e,q,r⟩:=rv.tup B;exact⟨a,e,.inr ⟨⟨xs,q⟩,λt'=>l _ _ t' G.1 (aHf I q r)⟩⟩;exact l.elim
theorem mM(i j:Int):(eO i j).map Vl.cl=(AD (j-i).toNat).map λ(k:Nat)=>Vl.cl (.int (i+(k:Int))):=by unfold eO;rw[Bb];rfl
theorem jL{k:Int}(h:aT k=true):-(2 ^ 62)<=k/\k<2 ^ 62:=by unfold aT at h;simp only[bA,Bo] at h;exact h
theorem aHh(M:Mc X P Γ n){b:E}{e:Av}{f:Str}{p pos:CF}(Z:f=("range" : Str))(hg:bD Γ f=true)(W:PE X e (WE X P n RT Y J σ b))(I:aI e=true):PI X tg (.Call (.Name f p) [e] [] pos) (wI X P n RT Y J σ (.rng (.c (.int 0)) b)):=by
 subst Z;refine mL (zI (M.gl hg) (M.md.blt _ (by decide +kernel)) (hG W sJ I) (aB I)) λσV H RR t ⟨S,h⟩=>?_;have h:RE (ev P (call P n) σ b) λy=>RE (match (D.int 0),y.d with|.int i,.int j=>R.iff (aT i&&aT j) (R.ok ((eO i j).map Vl.cl,[]))|_,_=>.bad) _:=
  RE.bind' (show RE (ev P (call P n) σ b >>= λy=>(match (D.int 0),y.d with|.int i,.int j=>R.iff (aT i&&aT j) (R.ok ((eO i j).map Vl.cl,[]))|_,_=>.bad)) _ from h)
 refine⟨S,?_⟩;show RE (ev P (call P n) σ b >>= λx=>evs P (call P n) σ .nil >>= λxs=>R.ok (x::xs)) _;rw[RE.bind];refine h.mono λy l=>?_;split at l;rename_i i j L U;cases L;obtain⟨c,l⟩:=l.iff;rw[bA] at c;have B:=jL c.2;intro us H1 t1 s1 r1;obtain⟨u,r',G,ru,hr⟩:=r1;rw[show r'=[] from hr] at G;subst G;refine⟨j,by rw[ru.int U],B.1,B.2,λt'=>l _ _ t' s1 (aCf ?_)⟩;rw[mM];simp;exact l.elim
theorem aHi(M:Mc X P Γ n){a b:E}{L U:Av}{f:Str}{p pos:CF}(hf:f=("range" : Str))(hg:bD Γ f=true)(ha:PE X L (WE X P n RT Y J σ a))(hb:PE X U (WE X P n RT Y J σ b))(G:aI L=true)(l:aI U=true) :
 PI X tg (.Call (.Name f p) [L,U] [] pos) (wI X P n RT Y J σ (.rng a b)):=by subst hf;refine mL (zJ (M.gl hg) (M.md.blt _ (by decide +kernel)) (hG ha (hG hb sJ l) G) (by rw[aB G,aB l];rfl) (aB l)) λσV H RR t ⟨S,h⟩=>?_;have h:=RE.bind' (show RE (ev P (call P n) σ a >>= λx=>ev P (call P n) σ b >>= λy=>(match x.d,y.d with|.int i,.int j=>R.iff (aT i&&aT j) (R.ok ((eO i j).map Vl.cl,[]))|_,_=>.bad)) _ from h);refine⟨S,?_⟩;show RE (ev P (call P n) σ a >>= λx=>evs P (call P n) σ (.cons b .nil) >>= λxs=>R.ok (x::xs)) _;rw[RE.bind];refine h.mono λx hx=>?_;rw[RE.bind];show RE (ev P (call P n) σ b >>= λx=>evs P (call P n) σ .nil >>= λxs=>R.ok (x::xs)) _;rw[RE.bind];refine(RE.bind' hx).mono λy I=>?_;split at I;rename_i i j e1 e2;obtain⟨c,I⟩:=I.iff;rw[bA] at c;have Z:=jL c.1;have c2:=jL c.2;intro us H1 t1 s1 r1;obtain⟨u,r',eu,ru,u2,r2,B,W,hr⟩:=r1;rw[show r2=[] from hr] at B;subst B;subst eu;refine⟨i,j,by rw[ru.int e1,W.int e2],⟨Z.1,Z.2,c2.1,c2.2⟩,λt'=>I _ _ t' s1 (aCf ?_)⟩;rw[mM];exact I.elim
theorem vG{σV:L2.St}{H:Hp}{x:Vl}{u:V}{ds:List D}(B:Rv X.K RT Y J σ σV H x u)(h:lO x.d=some ds):∃(k:Bool) (a:Addr) (xs:List V),u=.ref a/\Sq k X.K H a xs/\(k=true->¬ exV RT Y J σ σV x.pa x.al a)/\Reps X.K H (exV RT Y J σ σV x.pa x.al) ds xs:=by unfold lO at h;split at h;rename_i ds' l;cases h;obtain⟨a,xs,e,q,G,r⟩:=B.lst l;exact⟨true,a,xs,e,q,λ_=>G,r⟩;rename_i ds' l;cases h;obtain⟨a,xs,e,q,r⟩:=B.tup l;exact⟨false,a,xs,e,q,(λz=>absurd z bN),r⟩;cases h
theorem aJM(M:Mc X P Γ n){a b:E}{L U:Av}{f:Str}{p pos:CF}{B:List Av}{tk:Nat}{tp:CF}(hf:f=("zip" : Str))(hg:bD Γ f=true)(ha:PE X L (WE X P n RT Y J σ a))(hb:PE X U (WE X P n RT Y J σ b))(I:aI L=true)(l:aI U=true) :
 PI X (.Tuple B tk tp) (.Call (.Name f p) [L,U] [] pos) (wI X P n RT Y J σ (.zip a b)):=by
 subst hf;refine mL (aHd (M.gl hg) (M.md.blt _ (by decide +kernel)) (hG ha (hG hb sJ l) I) (by rw[aB I,aB l];rfl) (aB l)) λσV H RR t ⟨S,h⟩=>?_;have h:=RE.bind' (show RE (ev P (call P n) σ a >>= λx=>ev P (call P n) σ b >>= λy=>(match lO x.d,lO y.d with
  | some as,some bs=>R.ok (items ⟨.non,false,x.pa||y.pa,x.al++y.al⟩ (kH as bs),x.al++y.al)|_,_=>.bad)) _ from h)
 refine⟨S,?_⟩;show RE (ev P (call P n) σ a >>= λx=>evs P (call P n) σ (.cons b .nil) >>= λxs=>R.ok (x::xs)) _;rw[RE.bind];refine h.mono λx hx=>?_;rw[RE.bind];show RE (ev P (call P n) σ b >>= λx=>evs P (call P n) σ .nil >>= λxs=>R.ok (x::xs)) _;rw[RE.bind];refine(RE.bind' hx).mono λy hy=>?_;split at hy;rename_i as bs e1 e2;intro us H1 t1 s1 r1;obtain⟨u,r',eu,ru,u2,r2,G,q0,hr⟩:=r1;rw[show r2=[] from hr] at G;subst G;subst eu;obtain⟨ka,a1,xs,rfl,qa,na,ra⟩:=vG ru e1;obtain⟨kb,b1,ys,rfl,qb,nb,rb⟩:=vG q0 e2;have S1:=S.grow s1 t1;have w1:∀c,exV RT Y J σ σV (x.pa||y.pa) (x.al++y.al) c->exV RT Y J σ σV x.pa x.al c:=λc z=>z.mono (λhp=>by rw[hp];rfl) λj W=>AK _ W;have w2:∀c,exV RT Y J σ σV (x.pa||y.pa) (x.al++y.al) c->exV RT Y J σ σV y.pa y.al c:=λc z=>z.mono (λhp=>by rw[hp,FS]) λj W=>AC _ W;exact⟨ka,kb,a1,b1,xs,ys,rfl,qa,qb,λt'=>hy _ _ t' s1 (aHg S1 qa qb (λZ z=>na Z (w1 _ z)) (λZ z=>nb Z (w2 _ z)) (ra.weak w1) (rb.weak w2))⟩;exact hy.elim
theorem aHj(M:Mc X P Γ n){a:E}{G:Av}{f:Str}{p pos:CF}{l:List Av}{tk:Nat}{tp:CF}(hf:f=("enumerate" : Str))(hg:bD Γ f=true)(ha:PE X G (WE X P n RT Y J σ a))(B:aI G=true) :
 PI X (.Tuple l tk tp) (.Call (.Name f p) [G] [] pos) (wI X P n RT Y J σ (.enum a)):=by subst hf;refine mL (aEv (M.gl hg) (M.md.blt _ (by decide +kernel)) (hG ha sJ B) (aB B)) λσV H RR t ⟨S,h⟩=>?_;have h:=RE.bind' (show RE (ev P (call P n) σ a >>= λx=>(match lO x.d with|some as=>R.ok (items x (dA 0 as),x.al)|none=>.bad)) _ from h);refine⟨S,?_⟩;show RE (ev P (call P n) σ a >>= λx=>evs P (call P n) σ .nil >>= λxs=>R.ok (x::xs)) _;rw[RE.bind];refine h.mono λx I=>?_;split at I;rename_i as Z;intro us H1 t1 s1 r1;obtain⟨u,r',L,ru,hr⟩:=r1;rw[show r'=[] from hr] at L;subst L;obtain⟨k,W,xs,rfl,U,na,ra⟩:=vG ru Z;exact⟨k,W,xs,rfl,U,λt'=>I _ _ t' s1 (aEy (S.grow s1 t1) U na ra)⟩;exact I.elim
end
noncomputable def gs:List Nat->TGs
 | []=>aIO|i::is=>aFz (nT i) (gs is)
noncomputable def gT(K:Fg):T->TG
 | .n i=>nT i|.t is=>aIP K is.length (gs is)
section
variable {K:Fg} {RT Y J:Addr->Prop} {σ:Sg} {σV:L2.St} {H H':Hp}
theorem set_some{α:Type}{l:List α}{i j:Nat}{x y:α}(e:(l.set i x)[j]? = some y):(i=j/\x=y/\i<l.length)\/(i≠j/\l[j]? = some y):=by by_cases B:i=j;subst B;have hl:i<(l.set i x).length:=(Ai.mp e).1;rw[Ay] at hl;rw[Ar hl] at e;cases e;exact .inl ⟨rfl,rfl,hl⟩;rw[Ah B] at e;exact .inr ⟨B,e⟩
theorem Sx.setSh(S:Sx K RT Y J σ σV H){i:Nat}{pa:Bool}{d:D}{u:V}(h:Rep K H (λa=>RT a\/exB Y J pa a) d u):Sx K RT Y J (σ.set i (.sh pa d)) (σV.set i (some u)) H where
 sh:=λj pa' d' e=>by
  rcases set_some e with⟨rfl,e,hl⟩|⟨l,e⟩
  cases e;exact⟨u,Ar (by rw[<-S.len];exact hl),h⟩;obtain⟨v,L,M⟩:=S.sh j pa' d' e;exact⟨v,by rw[Ah l];exact L,M⟩
 own:=λj pa' ds e=>by
  rcases set_some e with⟨rfl,e,hl⟩|⟨l,e⟩
  cases e;obtain⟨a,xs,L,M⟩:=S.own j pa' ds e;exact⟨a,xs,by rw[Ah l];exact L,M⟩
 trk:=S.trk
 yo:=S.yo
 tk:=S.tk
 rt:=S.rt
 inj:=λj Z pa' B ds ds' a G I U W=>by
  rcases set_some G with⟨_,e,_⟩|⟨n1,G⟩
  cases e;rcases set_some I with⟨_,e,_⟩|⟨n2,I⟩
  cases e;rw[Ah n1] at U;rw[Ah n2] at W;exact S.inj j Z pa' B ds ds' a G I U W
 len:=by rw[Ay,Ay];exact S.len
 dx:=S.dx.imp id (λ_ _ r=>r) (λj dss e=>by
  rcases set_some e with⟨_,z,_⟩|⟨l,e⟩
  cases z;exact⟨e,Ah l⟩) (λ_ _ _ _ _ _ e=>e) λp xs e z=>⟨e,z.1,z.2.1,λk pa' ds q=>by
  rcases set_some q with⟨_,w,_⟩|⟨l,q⟩
  cases w;rw[Ah l];exact z.2.2 k pa' ds q⟩
theorem Rep.out{ex:Addr->Prop}{d:D}{v:V}{a:Addr}(h:Rep K H ex d v)(n:H a=none)(k:K.lookup a=none):Rep K H (λb=>b=a\/ex b) d v:=
 Rep.imp (λ_ _ q=>q) (λb xs l q=>⟨λz=>z.elim (λz=>by
  subst z;rcases q with(q|⟨o,q⟩)|⟨o,its,m,q,_⟩
  rw[n] at q;cases q;rw[n] at q;cases q;rw[k] at q;cases q) l,q⟩) (λ_ _ q=>q) (λb o _ l q=>⟨λz=>z.elim (λz=>by rw[z,n] at q;cases q) l,q⟩) d v h
theorem Reps.out{ex:Addr->Prop}{d:List D}{v:List V}{a:Addr}(h:Reps K H ex d v)(n:H a=none)(k:K.lookup a=none):Reps K H (λb=>b=a\/ex b) d v:=
 Reps.imp (λ_ _ q=>q) (λb xs l q=>⟨λz=>z.elim (λz=>by
  subst z;rcases q with(q|⟨o,q⟩)|⟨o,its,m,q,_⟩
  rw[n] at q;cases q;rw[n] at q;cases q;rw[k] at q;cases q) l,q⟩) (λ_ _ q=>q) (λb o _ l q=>⟨λz=>z.elim (λz=>by rw[z,n] at q;cases q) l,q⟩) d v h
theorem Sx.storeOwn(S:Sx K RT Y J σ σV H){i:Nat}{a:Addr}{xs:List V}{ds:List D}{pa:Bool}(s:aE H H')(t:Tk K H')(W:H a=none)(U:H' a=some (.lst xs))(r:Reps K H' (λb=>(RT b\/b=a)\/exB Y J pa b) ds xs) :
 Sx K (λb=>RT b\/b=a) Y J (σ.set i (.own pa ds)) (σV.set i (some (.ref a))) H' where
 sh:=λj pa' d' e=>by
  rcases set_some e with⟨rfl,e,hl⟩|⟨l,e⟩
  cases e;obtain⟨v,I,L⟩:=S.sh j pa' d' e;refine⟨v,by rw[Ah l];exact I,((L.out W (t a (by rw[U];simp))).grow s).weak λb z=>?_⟩;rcases z with(z|z)|z;exact .inr (.inl z);exact .inl z;exact .inr (.inr z)
 own:=λj pa' ds' e=>by
  rcases set_some e with⟨rfl,e,hl⟩|⟨l,e⟩
  cases e;exact⟨a,xs,Ar (by rw[<-S.len];exact hl),U,.inr rfl,λz=>S.trk a (.inr (.inr z)) W,r⟩;obtain⟨a',q0,I,L,h3,h4,h5⟩:=S.own j pa' ds' e;refine⟨a',q0,by rw[Ah l];exact I,s _ _ L,.inl h3,h4,((h5.out W (t a (by rw[U];simp))).grow s).weak λb z=>?_⟩;rcases z with(z|z)|z;exact .inr (.inl z);exact .inl z;exact .inr (.inr z)
 trk:=λb z q=>by rcases z with(z|z)|z;exact S.trk b (.inl z) (s.free q);rw[z,U] at q;cases q;exact S.trk b (.inr z) (s.free q)
 yo:=S.yo
 tk:=t
 rt:=λb z=>by rcases z with z|z;exact(S.rt b z).grow s;rw[z];exact⟨xs,U⟩
 inj:=λj j' pa' Z q1 q2 c e1 B M G=>by
  have fr:∀{j:Nat} {pa:Bool} {ds:List D},σ[j]? = some (.own pa ds)->σV[j]? = some (some (.ref a))->False:=λ{j pa ds} e q=>by obtain⟨a',q0,I,L,_⟩:=S.own j pa ds e;rw[q] at I;cases I;rw[W] at L;cases L
  rcases set_some e1 with⟨rfl,e,hl⟩|⟨n1,e1⟩
  rcases set_some B with⟨rfl,_,_⟩|⟨n2,B⟩
  rfl;rw[Ar (by rw[<-S.len];exact hl)] at M;cases M;rw[Ah n2] at G;exact(fr B G).elim;rw[Ah n1] at M;rcases set_some B with⟨rfl,e,hl⟩|⟨n2,B⟩
  rw[Ar (by rw[<-S.len];exact hl)] at G;cases G;exact(fr e1 M).elim;rw[Ah n2] at G;exact S.inj j j' pa' Z q1 q2 c e1 B M G
 len:=by rw[Ay,Ay];exact S.len
 dx:=S.dx.imp id (λ_ _ r=>aE.seqT s r) (λj dss e=>by
  rcases set_some e with⟨_,z,_⟩|⟨l,e⟩
  cases z;exact⟨e,Ah l⟩) (λ_ _ _ _ _ _ e=>e) λp ys e z=>⟨s _ _ e,.inl z.1,z.2.1,λk pa' ds q w=>by
  rcases set_some q with⟨rfl,_,hl⟩|⟨l,q⟩
  rw[Ar (by rw[<-S.len];exact hl)] at w;cases w;rw[W] at e;cases e;rw[Ah l] at w;exact z.2.2 k pa' ds q w⟩
theorem gA{v:Vl}(h:v.fr=false):v.slot=.sh v.pa v.d:=by unfold Vl.slot;rw[h]
theorem aEz{v:Vl}{ds:List D}(h:v.fr=true)(hd:v.d=.lst ds):v.slot=.own v.pa ds:=by unfold Vl.slot;rw[h,hd]
theorem Sx.store(S:Sx K RT Y J σ σV H){v:Vl}{u:V}(G:Ro K RT Y J σ σV H H' v u)(t:Tk K H')(i:Nat) :
 ∃l,Sx K l Y J ((freeze σ v.al).set i v.slot) (σV.set i (some u)) H'/\∀b,l b->RT b\/H b=none:=by by_cases B:v.fr=true;obtain⟨s,h⟩:=G;rw[if_pos B] at h;obtain⟨a,xs,ds,L,M,I,U,r⟩:=h;subst L;rw[aEz B M];refine⟨_,(S.frz v.al).storeOwn s t I U (r.weak λb z=>?_),λb z=>z.elim (λz=>.inl z.1) λz=>.inr (by rw[z];exact I)⟩;rcases z with(z|z)|z;exact .inr (.inl z);exact .inl z;exact .inr (.inr z);rw[gA (by simpa using B)];exact⟨_,((S.grow G.1 t).frz v.al).setSh (G.rv S),λb z=>.inl z.1⟩
theorem aFN:∀{is:List Nat} {us:List V} {σV:L2.St} {H:Hp} {Q:L2.St->Hp->Prop},is.length=us.length->Q ((is.zip us).foldl (λs p=>s.set p.1 (some p.2)) σV) H->gs is us σV H Q
 | [],[],_,_,_,_,h=>⟨rfl,h⟩
 | [],_::_,_,_,_,e,_=>by simp at e|_::_,[],_,_,_,e,_=>by simp at e|i::is,u::us,σV,H,Q,e,h=>⟨u,us,rfl,aFN (is:=is) (us:=us) (by simpa using e) h⟩
theorem sP{v:Vl}{d:D}:(v.sub d).slot=.sh (!noL d&&v.pa) d:=by
 rw[gA mK];unfold Vl.sub Vl.cl;split;rename_i h;rw[h];rfl;rename_i h;have:noL d=false:=by simpa using h
 rw[this];rfl
theorem Sx.setAll{v:Vl}:∀{is:List Nat} {ds:List D} {us:List V} {σ:Sg} {σV:L2.St},Sx K RT Y J σ σV H->Reps K H (λa=>RT a\/exB Y J v.pa a) ds us ->
 Sx K RT Y J ((is.zip ds).foldl (λσ p=>σ.set p.1 (v.sub p.2).slot) σ) ((is.zip us).foldl (λs p=>s.set p.1 (some p.2)) σV) H
 | [],_,_,_,_,S,_=>S|_::_,[],us,_,_,S,r=>by rw[show us=[] from r];exact S|i::is,d::ds,us,σ,σV,S,r=>by
  obtain⟨x,I,e,l,B⟩:=r;subst e;refine Sx.setAll (v:=v) (is:=is) (ds:=ds) (us:=I) ?_ B;show Sx K RT Y J (σ.set i (v.sub d).slot) (σV.set i (some x)) H;rw[sP];refine S.setSh ?_;cases G:noL d with
  | true=>exact Rep.free d x G l|false=>exact l
theorem jM{α:Type}{B:Type}(f:B->α):∀{is:List Nat} {bs:List B} {l:List α} {j:Nat},j∉is->((is.zip bs).foldl (λs p=>s.set p.1 (f p.2)) l)[j]? = l[j]?
 | [],_,_,_,_=>rfl|_::_,[],_,_,_=>rfl|i::is,b::bs,l,j,h=>by
  have h':i≠j/\j∉is:=by refine⟨λe=>h (by simp[e]),λz=>h (Ae _ z)⟩
  rw[B9,Ex,jM f (is:=is) (bs:=bs) h'.2,Ah h'.1]
theorem sQ{α:Type}{B:Type}(f:B->α):∀{is:List Nat} {bs:List B} {l:List α},((is.zip bs).foldl (λs p=>s.set p.1 (f p.2)) l).length=l.length
 | [],_,_=>rfl|_::_,[],_=>rfl|i::is,b::bs,l=>by rw[B9,Ex,sQ f (is:=is) (bs:=bs),Ay]
theorem fold_mem{α:Type}{B:Type}(f:B->α):∀{is:List Nat} {bs:List B} {l:List α} {j:Nat} {x:α},((is.zip bs).foldl (λs p=>s.set p.1 (f p.2)) l)[j]? = some x->l[j]? = some x\/∃b,x=f b
 | [],_,_,_,_,h=>.inl h|_::_,[],_,_,_,h=>.inl h|i::is,b::bs,l,j,x,h=>by
  rw[B9,Ex] at h;rcases fold_mem f (is:=is) (bs:=bs) h with q|q;rcases set_some q with⟨_,e,_⟩|⟨_,e⟩
  exact .inr ⟨b,e.symm⟩;exact .inl e;exact .inr q
theorem mO{v:Vl}{is:List Nat}{l:Sg}(e:aV σ v (.t is)=.ok l):∃ds,v.d=.tup ds/\ds.length=is.length/\l=(is.zip ds).foldl (λσ p=>σ.set p.1 (v.sub p.2).slot) σ:=by unfold aV at e;simp only at e;split at e;rename_i ds hd;split at e;rename_i hl;cases e;exact⟨ds,hd,hl,rfl⟩;cases e;cases e
theorem mP{v:Vl}{i:Nat}{l:Sg}(e:aV σ v (.n i)=.ok l):l=σ.set i v.slot:=by cases(show R.ok (σ.set i v.slot)=R.ok l from e);rfl
theorem aCg{v:Vl}{t:T}{l:Sg}{j:Nat}(e:aV σ v t=.ok l)(h:j∉tIx t):l[j]? = σ[j]? := by
 cases t with
 | n i=>rw[mP e];exact Ah λz=>h (by simp[tIx,z])|t is=>obtain⟨ds,_,_,e⟩:=mO e;rw[e];exact jM (λd=>(v.sub d).slot) h
theorem aCh{v:Vl}{t:T}{l:Sg}(e:aV σ v t=.ok l):l.length=σ.length:=by
 cases t with
 | n i=>rw[mP e,Ay]|t is=>obtain⟨ds,_,_,e⟩:=mO e;rw[e];exact sQ (λd=>(v.sub d).slot)
theorem aCi{v:Vl}{t:T}{l:Sg}{j:Nat}{pa:Bool}{ds:List D}(B:v.fr=false)(e:aV σ v t=.ok l)(h:l[j]? = some (.own pa ds)):σ[j]? = some (.own pa ds):=by
 cases t with
 | n i=>
  rw[mP e,gA B] at h;rcases set_some h with⟨_,e,_⟩|⟨_,e⟩
  cases e;exact e
 | t is=>
  obtain⟨ds',_,_,e⟩:=mO e;rw[e] at h;rcases fold_mem (λd=>(v.sub d).slot) h with q|⟨b,q⟩
  exact q;rw[sP] at q;cases q
theorem aCj(S:Sx K RT Y J σ σV H){t:T}{v:Vl}{u:V}{Q:L2.St->Hp->Prop}{B:Sg}(G:v.fr=false)(h:Rep K H (λa=>RT a\/exB Y J v.pa a) v.d u)(e:aV σ v t=.ok B)
 (q:∀l,Sx K RT Y J B l H->(∀j,j∉tIx t->l[j]? = σV[j]?)->Q l H):gT K t u σV H Q:=by
 cases t with
 | n i=>rw[mP e,gA G] at q;exact q _ (S.setSh h) λj I=>Ah λz=>I (by simp[tIx,z])|t is=>obtain⟨ds,hd,hl,e⟩:=mO e;rw[hd] at h;obtain⟨a,xs,rfl,L,r⟩:=h;have M:=r.length;refine⟨a,xs,rfl,L,by omega,aFN (by omega) (q _ ?_ λj I=>?_)⟩;rw[e];exact S.setAll r;exact jM (λd=>some d) I
end
section
variable {X:Cx} {P:Pg} {Γ:Ct} {n:Nat} {RT Y J:Addr->Prop} {σ:Sg} {tg:Av} {pos:CF}
theorem sR(M:Mc X P Γ n):∀{is:List Nat} {es:List Av},is.length=es.length->((is.zip es).all λp=>match p.2 with|.Name x _=>aR Γ p.1 x|_=>false)=true ->
 PGs X es (gs is)/\(CY es X.env).length=is.length/\(CY es X.env).findIdx? (·.1)=none
 | [],[],_,_=>⟨aDK,rfl,rfl⟩
 | [],_::_,e,_=>by simp at e|_::_,[],e,_=>by simp at e|i::is,e::es,hl,h=>by
  rw[B9,Fq,bA] at h;obtain⟨B,G,I⟩:=sR M (is:=is) (es:=es) (by simpa using hl) h.2;cases e with
  | Name x p=>have hs:aR Γ i x=true:=h.1;unfold aR at hs;simp only[bA,beq_iff_eq] at hs;have l:CY (.Name x p::es) X.env=(false,FJ (.Name x p) X.env)::CY es X.env:=rfl;refine⟨aAR (wN M.nd (by rw[M.N];exact hs.1.1) (M.loc hs.1.2) (M.st x hs.1.2)) B (by rw[l];rfl),?_,?_⟩;rw[l,lC,lC,G];rw[l,List.findIdx?_cons];simp[I]|_=>cases h.1
theorem aAm(M:Mc X P Γ n){t:T}(h:lS Γ t tg=true):PG X tg (gT X.K t):=by
 cases t with
 | n i=>
  cases tg with
  | Name x p=>have hs:aR Γ i x=true:=h;unfold aR at hs;simp only[bA,beq_iff_eq] at hs;exact wN M.nd (by rw[M.N];exact hs.1.1) (M.loc hs.1.2) (M.st x hs.1.2)|_=>cases h
 | t is=>
  cases tg with
  | Tuple es k p=>have h:(is.length==es.length&&(is.zip es).all λp=>match p.2 with|.Name x _=>aR Γ p.1 x|_=>false)=true:=h;rw[bA,beq_iff_eq] at h;obtain⟨l,B,G⟩:=sR M h.1 h.2;exact aGt M.calm l B G|_=>cases h
noncomputable def ch0(k:Nat)(caps:List Nat)(σ:Sg):Sg:=Ag k .dead++caps.map λi=>(σ[i]?).getD .dead
theorem ch0_get{k:Nat}{caps:List Nat}{σ:Sg}{j:Nat}{s:Sl}(h:(ch0 k caps σ)[j]? = some s):s=.dead\/∃B i,j=k+B/\caps[B]? = some i/\σ[i]? = some s:=by
 unfold ch0 at h;by_cases l:j<k;rw[Aw (by simpa using l),A7,if_pos l] at h;cases h;exact .inl rfl;rw[Ax (by simpa using l),A4,Ak] at h;cases e:caps[j-k]? with
 | none=>rw[e] at h;cases h|some i=>
  rw[e] at h;have h':(σ[i]?).getD .dead=s:=Au h;cases q:σ[i]? with
  | none=>rw[q] at h';exact .inl h'.symm|some z=>rw[q] at h';exact .inr ⟨j-k,i,by omega,e,by rw[q];exact congrArg some h'⟩
theorem aCk{k:Nat}{caps:List Nat}{σ:Sg}{j:Nat}{s:Sl}(l:j<k)(h:(ch0 k caps σ)[j]? = some s):s=.dead:=by unfold ch0 at h;rw[Aw (by simpa using l),A7,if_pos l] at h;cases h;rfl
theorem qP{k:Nat}{caps:List Nat}{σV:L2.St}{j i:Nat}{v:V}(e:caps[j]? = some i)(h:σV[i]? = some (some v)):(gX k caps σV)[k+j]? = some (some v):=by unfold gX;rw[Ax (by simp),A4,Ak,Bu,e];show some ((σV[i]?).getD none)=_;rw[h];rfl
theorem kP{k:Nat}{caps:List Nat}{σV:L2.St}{j i:Nat}{v:V}(e:caps[j]? = some i)(h:(gX k caps σV)[k+j]? = some (some v)):σV[i]? = some (some v):=by
 unfold gX at h;rw[Ax (by simp),A4,Ak,Bu,e] at h;have h':(σV[i]?).getD none=some v:=Au h;cases q:σV[i]? with
 | none=>rw[q] at h';cases h'|some z=>rw[q] at h';exact congrArg some h'
theorem jN{α:Type}:∀{l:List α},l.Nodup->∀{i j:Nat} {x:α},l[i]? = some x->l[j]? = some x->i=j
 | [],_,_,_,_,h,_=>by simp at h|a::l,hn,0,0,_,_,_=>rfl|a::l,hn,0,j+1,x,h1,h2=>by
  have e:a=x:=by simpa using h1
  have:x∈l:=mG (by simpa using h2);subst e;exact absurd this (AG.mp hn).1
 | a::l,hn,i+1,0,x,h1,h2=>by
  have e:a=x:=by simpa using h2
  have:x∈l:=mG (by simpa using h1);subst e;exact absurd this (AG.mp hn).1
 | a::l,hn,i+1,j+1,x,h1,h2=>congrArg (·+1) (jN (AG.mp hn).2 (i:=i) (j:=j) (x:=x) (by simpa using h1) (by simpa using h2))
theorem Sx.child{K:Fg}{σV:L2.St}{H:Hp}(S:Sx K RT Y J σ σV H){k:Nat}{caps:List Nat}(nd:caps.Nodup):Sx K RT Y J (ch0 k caps σ) (gX k caps σV) H where
 sh:=λj pa d e=>by
  rcases ch0_get e with z|⟨j',i,rfl,G,hs⟩
  cases z;obtain⟨v,I,U⟩:=S.sh i pa d hs;exact⟨v,qP G I,U⟩
 own:=λj pa ds e=>by
  rcases ch0_get e with z|⟨j',i,rfl,G,hs⟩
  cases z;obtain⟨a,xs,I,U⟩:=S.own i pa ds hs;exact⟨a,xs,qP G I,U⟩
 trk:=S.trk
 yo:=S.yo
 tk:=S.tk
 rt:=S.rt
 inj:=λj1 j2 pa pa' ds ds' a L M e3 e4=>by
  rcases ch0_get L with z|⟨q0,i1,rfl,l,W⟩
  cases z;rcases ch0_get M with z|⟨q1,i2,rfl,B,Z⟩
  cases z;have:=S.inj i1 i2 pa pa' ds ds' a W Z (kP l e3) (kP B e4);subst this;rw[jN nd l B]
 len:=by unfold ch0 gX;rw[lA,lA,lM,lM,A4,A4]
 dx:=S.dx.imp (λj=>(caps[j-k]?).getD 0) (λ_ _ r=>r) (λj dss e=>by
  rcases ch0_get e with z|⟨j',i,rfl,G,hs⟩
  cases z;rw[Bu,G];refine⟨hs,?_⟩;obtain⟨a,_,I,_⟩:=S.dx.at2 i dss hs;rw[qP G I];exact I.symm) (λj1 j2 ds ds' L M q=>by
  rcases ch0_get L with z|⟨q0,i1,rfl,l,_⟩
  cases z;rcases ch0_get M with z|⟨q1,i2,rfl,B,_⟩
  cases z;rw[Bu,Bu,l,B] at q;have q:i1=i2:=q;subst q;rw[jN nd l B]) λp xs e z=>⟨e,z.1,z.2.1,λj pa ds q w=>by
  rcases ch0_get q with v|⟨j',i,rfl,G,hs⟩
  cases v;exact z.2.2 i pa ds hs (kP G w)⟩
theorem Sx.forget{K:Fg}{σ':Sg}{σV:L2.St}{H:Hp}(S:Sx K RT Y J σ σV H)(hl:σ'.length=σ.length)(h:∀(j:Nat) (s:Sl),σ'[j]? = some s->s=.dead\/σ[j]? = some s):Sx K RT Y J σ' σV H where
 sh:=λj pa d e=>by rcases h j _ e with z|z;cases z;exact S.sh j pa d z
 own:=λj pa d e=>by rcases h j _ e with z|z;cases z;exact S.own j pa d z
 trk:=S.trk
 yo:=S.yo
 tk:=S.tk
 rt:=S.rt
 inj:=λl B pa pa' ds ds' a G I L M=>by rcases h l _ G with z|U;cases z;rcases h B _ I with z|W;cases z;exact S.inj l B pa pa' ds ds' a U W L M
 len:=by rw[hl];exact S.len
 dx:=S.dx.imp id (λ_ _ r=>r) (λj ds e=>(h j _ e).elim (λz=>by cases z) λz=>⟨z,rfl⟩) (λ_ _ _ _ _ _ e=>e) λp xs e z=>⟨e,z.1,z.2.1,λk pa ds q=>(h k _ q).elim (λw=>by cases w) λw=>z.2.2 k pa ds w⟩
noncomputable def wTs(X:Cx)(P:Pg)(n:Nat)(RT Y J:Addr->Prop)(σ:Sg)(cs:Es):TT:=λσV H Q=>Sx X.K RT Y J σ σV H/\RE (tsts P (call P n) σ cs) λk=>∀H',Tk X.K H'->aE H H'->Q k H'
theorem aHk:PTs X [] (wTs X P n RT Y J σ .nil):=λpins s σV H Q I ⟨S,h⟩=>aEi pins s σV H Q I ((show ∀H',Tk X.K H'->aE H H'->Q true H' from h) H I.tk (aE.refl H))
theorem aHl{c:E}{e:Av}(h:PT X e (WT X P n RT Y J σ c)):PTs X [e] (wTs X P n RT Y J σ (.cons c .nil)):=λpins s σV H Q I ⟨S,l⟩=>aEj h pins s σV H Q I ⟨S,by
 have l:=RE.bind' (show RE (tst P (call P n) σ c >>= λx=>if x=true then tsts P (call P n) σ .nil else R.ok false) _ from l);refine l.mono λk B=>?_;cases k with
 | true=>exact B|false=>exact B⟩
theorem Rvs.append{K:Fg}{σV:L2.St}{H:Hp}:∀{vs ws:List Vl} {us l:List V},Rvs K RT Y J σ σV H vs us->Rvs K RT Y J σ σV H ws l->Rvs K RT Y J σ σV H (vs++ws) (us++l)
 | [],_,_,_,h,q=>by rw[show _=[] from h];exact q|v::vs,_,_,_,h,q=>by obtain⟨u,r,e,B,G⟩:=h;subst e;exact⟨u,_,rfl,B,Rvs.append G q⟩
noncomputable def lv(k:Nat)(caps al:List Nat)(v:Vl):Vl:=⟨v.d,false,v.pa,al++v.al.filterMap λj=>caps[j-k]?⟩
theorem sU{f:Vl->R (Option Vl)}{x:Vl}{xs l:List Vl}(h:cD f (x::xs)=.ok l):∃y ys,f x=.ok y/\cD f xs=.ok ys/\l=(match y with|some y=>y::ys|none=>ys):=by
 have h:(f x >>= λy=>cD f xs >>= λys=>(match y with|some y=>R.ok (y::ys)|none=>R.ok ys))=R.ok l:=h;cases B:f x with
 | ok y=>
  rw[B] at h;have h:(cD f xs >>= λys=>(match y with|some y=>R.ok (y::ys)|none=>R.ok ys))=R.ok l:=h;cases G:cD f xs with
  | ok ys=>
   rw[G] at h;refine⟨y,ys,rfl,rfl,?_⟩;cases y with
   | none=>cases(show R.ok ys=R.ok l from h);rfl|some y=>cases(show R.ok (y::ys)=R.ok l from h);rfl
  | exc z=>rw[G] at h;cases h|bad=>rw[G] at h;cases h
 | exc z=>rw[B] at h;cases h|bad=>rw[B] at h;cases h
theorem R.bind_ok{α l:Type}{x:R α}{f:α->R l}{b:l}(h:(x >>= f)=.ok b):∃a,x=.ok a/\f a=.ok b:=by
 cases x with
 | ok a=>exact⟨a,rfl,h⟩|exc z=>cases h|bad=>cases h
theorem aCl{k:Nat}{caps:List Nat}{t:T}{it:Hp.It}{cond:Es}{elt:E}(z0:caps.Nodup)(hk:∀i∈tIx t,i<k){σV:L2.St}{H:Hp}{Q:VK}(hw:WE X P n RT Y J σ (.comp k caps t it cond elt) σV H Q) :
 aBC k caps (wI X P n RT Y J σ it) (gT X.K t) (λσV H Q=>∃RT Y J l,wTs X P n RT Y J l cond σV H Q) (λσV H Q=>∃RT Y J l,WE X P n RT Y J l elt σV H Q) σV H λv H'=>Tk X.K H'->Q v H':=by
 obtain⟨S,h⟩:=hw
 let f:List Nat->Vl->R (Option Vl):=λal x=>aV (ch0 k caps (freeze σ al)) x t >>= λl=>tsts P (call P n) l cond >>= λb=>if b=true then (ev P (call P n) l elt >>= λy=>R.ok (some y)) else R.ok none
 have h:=RE.bind' (show RE (walk P (call P n) σ it >>= λxs=>cD (f xs.2) xs.1 >>= λvs=>R.iff (decide (vs.length<=lim)) (R.ok (fD k caps xs.2 vs))) (Wn X RT Y J σ σV H Q) from h);refine⟨S,h.mono λxs hx J'' H1 t1 s1 ok=>?_⟩;obtain⟨vs,evs,hv⟩:=(RE.bind' hx).eq;obtain⟨hl,hq⟩:=hv.iff;have hl:=of_decide_eq_true hl;have hq:Wn X RT Y J σ σV H Q (fD k caps xs.2 vs):=hq;have S1:=S.grow s1 t1;have Sf:=S1.frz xs.2;refine⟨λi m ys W Hc=>m=xs.1.length-i/\i<=xs.1.length/\aE H1 Hc/\Tk X.K Hc/\Sx X.K (rtF RT σ σV xs.2) Y J (ch0 k caps (freeze σ xs.2)) W Hc/\(∀j,k<=j->W[j]? = (gX k caps σV)[j]?) /\
  ∃ws rs,vs=ws++rs/\cD (f xs.2) (xs.1.drop i)=.ok rs/\Rvs X.K RT Y J σ σV Hc (ws.map (lv k caps xs.2)) ys,⟨_,rfl,AW _,aE.refl _,t1,Sf.child z0,λ_ _=>rfl,[],vs,rfl,evs,rfl⟩,?_⟩
 rintro i m ys W Hc ⟨hm,hi,sc,tc,Sc,w5,ws,rs,B,q0,q2⟩;have q8:=ok.ok (λ_=>False) (λ_ z=>z.elim) i Hc (Kp.same sc);have q7:=q2.length;rw[lM] at q7;have z6:ws.length<=vs.length:=by rw[B,lA];omega
 by_cases L:i<xs.1.length;refine .inr ⟨q8.1 L,by rw[<-q7,AS];have:lim=1000000:=rfl;omega,λx H' hy=>?_⟩;have z3:xs.1[i]? = some xs.1[i]:=Ac L;obtain⟨sm,z5,rv⟩:=q8.2.2 x H' hy xs.1[i] z3;have rv:Rep X.K H' (exV RT Y J σ σV xs.1[i].pa xs.1[i].al) xs.1[i].d x:=Rep.weak rv λa z=>.inl z;rw[Fd L] at q0;obtain⟨yo,q9,Z,q4,I⟩:=sU q0;obtain⟨l,q1,Z⟩:=R.bind_ok Z;obtain⟨b,eb,Z⟩:=R.bind_ok Z;have q5:xs.1[i]∈xs.1:=Bt L;have w6:=ok.nofr _ q5;have rep:Rep X.K H' (λa=>rtF RT σ σV xs.2 a\/exB Y J xs.1[i].pa a) xs.1[i].d x:=Rep.weak rv λa z=>by rcases z with z|z;exact .inl ⟨z.1,λq=>z.2 (q.mono (ok.sub _ q5))⟩;exact .inr z
 refine aCj (Sc.grow sm (z5 tc)) w6 rep q1 λG S2 q6=>⟨_,_,_,l,S2,?_⟩
 rw[eb];intro H3 t3 s3;have M:∀j,k<=j->G[j]? = (gX k caps σV)[j]? := λj U=>by rw[q6 j λz=>absurd (hk j z) (Dp.mpr U),w5 j U]
 have q3:∀{H5:Hp},Sx X.K (rtF RT σ σV xs.2) Y J l G H5->Sx X.K (rtF RT σ σV xs.2) Y J (ch0 k caps (freeze σ xs.2)) G H5:=λ{H5} S5=>S5.forget (aCh q1).symm λj s hs=>by by_cases U:j∈tIx t;exact .inl (aCk (hk j U) hs);exact .inr (by rw[aCg q1 U];exact hs)
 cases b with
 | false=>rw[if_neg bN] at Z ⊢;cases(show R.ok none=R.ok yo from Z);have I:rs=q9:=I;subst I;exact⟨_,by omega,rfl,L,sc.trans (sm.trans s3),t3,q3 (S2.grow s3 t3),M,ws,rs,B,q4,q2.grow (sm.trans s3)⟩|true=>
  rw[if_pos rfl] at Z ⊢;obtain⟨y,ey,Z⟩:=R.bind_ok Z;cases(show R.ok (some y)=R.ok yo from Z);have I:rs=y::q9:=I;subst I;refine⟨_,_,_,l,S2.grow s3 t3,?_⟩;rw[ey];intro u H4 t4 w7;have s4:=w7.1;have z4:Rep X.K H4 (exV (rtF RT σ σV xs.2) Y J l G y.pa y.al) y.d u:=w7.rv (S2.grow s3 t3);refine⟨_,by omega,rfl,L,sc.trans (sm.trans (s3.trans s4)),t4,q3 ((S2.grow s3 t3).grow s4 t4),M,ws++[y],q9,by rw[B];simp,q4,?_⟩;rw[Cp];refine(q2.grow (sm.trans (s3.trans s4))).append ⟨u,[],rfl,?_,rfl⟩;show Rep X.K H4 (exV RT Y J σ σV y.pa (xs.2++y.al.filterMap λj=>caps[j-k]?)) y.d u;refine z4.weak λc z=>?_;rcases z with⟨z1,z2⟩|z;refine .inl ⟨⟨z1,λq=>z2 (q.mono λj U=>AK _ U)⟩,λq=>z2 ?_⟩;obtain⟨j,U,⟨pa,ds,ho⟩,hV⟩:=q;have ho:=aCi w6 q1 ho;rcases ch0_get ho with z|⟨j',i',rfl,hc,hs⟩
  cases z;rw[M _ (CQ _ _)] at hV;refine⟨i',AC _ (BK.mpr ⟨k+j',U,by rw[Bu];exact hc⟩),⟨pa,ds,(cX hs).1⟩,kP hc hV⟩;exact .inr z
 have w8:i=xs.1.length:=by omega
 subst w8;rw[Eb] at q0;cases(show R.ok []=R.ok rs from q0);rw[BB] at B;subst B;refine .inl ⟨q8.2.1 (As _),by rw[<-q7];exact lU hl,λp hp t'=>hq _ _ t' ?_⟩;have w3:=S.grow (s1.trans sc) tc;have w4:(vs.map (lv k caps xs.2)).map (·.d)=vs.map (·.d):=by rw[Bb];rfl
 have rr:Reps X.K Hc (exV RT Y J σ σV (dW vs) (xs.2++(bI vs).filterMap λj=>caps[j-k]?)) (vs.map (·.d)) ys:=by rw[<-w4];refine q2.reps λv hv=>?_;obtain⟨w,hw,e⟩:=AA.mp hv;subst e;refine⟨λz=>sA hw z,λj U=>?_⟩;rcases Bx.mp U with z|z;exact AK _ z;obtain⟨j',w9,e⟩:=BK.mp z;exact AC _ (BK.mpr ⟨j',jY hw j' w9,e⟩)
 unfold fD;split;rename_i hn;exact(Ro.fresh hp t' rfl rfl w3 (Reps.free _ _ hn rr)).from (s1.trans sc)
 exact(Ro.fresh hp t' rfl rfl w3 rr).from (s1.trans sc)
theorem aHm(M:Mc X P Γ n){k:Nat}{caps:List Nat}{t:T}{it:Hp.It}{cond:Es}{elt:E}{e B:Av}{L:List Av}{scope:Da}{N':List Str}(Z:bT X scope k caps N')(W:caps.Nodup)(hk:∀i∈tIx t,i<k)
 (hi:PI X tg B (wI X P n RT Y J σ it))
 (U:∀C s₀ H₀ ex,PG (bX X scope N' C s₀ H₀ ex) tg (gT X.K t)/\(∀RT Y J l,PTs (bX X scope N' C s₀ H₀ ex) L (wTs X P n RT Y J l cond))/\∀RT Y J l,PE (bX X scope N' C s₀ H₀ ex) e (WE X P n RT Y J l elt))
 (hs:∀x,BV B X.env x=pure x):PE X (.ListComp e [⟨tg,B,L,0⟩] scope pos) (WE X P n RT Y J σ (.comp k caps t it cond elt)):=by refine(xL (g:=gT X.K t) (tt:=λσV H Q=>∃RT Y J l,wTs X P n RT Y J l cond σV H Q) (te:=λσV H Q=>∃RT Y J l,WE X P n RT Y J l elt σV H Q) Z M.calm hi (λC s₀ H₀ ex=>?_) hs).imp λσV H Q t0 G=>aCl W hk G;obtain⟨h1,h2,h3⟩:=U C s₀ H₀ ex;exact⟨h1,λpins s σV H Q I ⟨RT,Y,J,l,G⟩=>h2 RT Y J l pins s σV H Q I G,λpins s σV H Q I ⟨RT,Y,J,l,G⟩=>h3 RT Y J l pins s σV H Q I G⟩
end
end Hp
namespace L2
open PySem PySem.Spec PyProof.Rows SetTable
set_option maxRecDepth 100000
noncomputable def tm(m:Nat)(ps:List Nat)(mv:Nat)(led:Bool):SetTable:={ mask:=m,place:=ps.toArray,dummies:=#[],finger:=0,led:=led,moves:=mv,plain:=true }
abbrev iS(ps:List Nat):Prop:=ps.Pairwise (· < ·)
theorem iS.lt{ps:List Nat}(h:iS ps){i k v u:Nat}(l:i<k)(hi:ps[i]? = some v)(B:ps[k]? = some u):v<u:=by obtain⟨a,rfl⟩:=Ai.mp hi;obtain⟨b,rfl⟩:=Ai.mp B;exact Fe.mp h i k a b l
theorem mQ{ps:List Nat}{j:Nat}(I:iS ps):∀(l lo hi:Nat),lo<=hi->hi<=ps.length->hi-lo<=l->(∀i v,i<lo->ps[i]? = some v->v<j)->(∀i v,hi<=i->ps[i]? = some v->j<=v) ->
 ∃r,below.go ps.toArray j l lo hi=r/\r<=ps.length/\(∀i v,i<r->ps[i]? = some v->v<j)/\(∀i v,r<=i->ps[i]? = some v->j<=v)
 | 0,lo,hi,h1,h2,h3,a,b=>⟨lo,rfl,by omega,a,λi v q=>b i v (by omega)⟩
 | f+1,lo,hi,h1,h2,h3,a,b=>by
  rw[below.go];by_cases c:lo<hi;rw[if_pos c];have hm:(lo+hi) / 2<ps.length:=by omega
  have e:ps.toArray.getD ((lo+hi) / 2) j=ps[(lo+hi) / 2]:=by simp[Array.getD,hm]
  have G:ps[(lo+hi) / 2]? = some ps[(lo+hi) / 2]:=Ac hm;dsimp only;rw[e];by_cases d:ps[(lo+hi) / 2]<j;rw[if_pos d];refine mQ I f _ _ (by omega) h2 (by omega) (λi v L B=>?_) b;rcases Bh i ((lo+hi) / 2) with q|q;exact EJ (I.lt q B G) d;obtain rfl:i=(lo+hi) / 2:=by omega
  rw[G] at B;cases B;exact d;rw[if_neg d];refine mQ I f _ _ (by omega) (by omega) (by omega) a λi v L B=>?_;rcases Bh ((lo+hi) / 2) i with q|q;exact DG (GY (by omega) (I.lt q G B));obtain rfl:i=(lo+hi) / 2:=by omega
  rw[G] at B;cases B;omega;rw[if_neg c];exact⟨lo,rfl,by omega,a,λi v q=>b i v (by omega)⟩
theorem bel{ps:List Nat}(l:iS ps)(j:Nat):below ps.toArray j<=ps.length/\(∀i v,i<below ps.toArray j->ps[i]? = some v->v<j)/\(∀i v,below ps.toArray j<=i->ps[i]? = some v->j<=v):=by obtain⟨r,e,h⟩:=mQ (j:=j) l ps.length 0 ps.length (AW _) (As _) (by omega) (λi v h=>absurd h (Ca _)) (λi v h q=>by rw[Ce h] at q;cases q);rw[show below ps.toArray j=r from by unfold below;rw[Al];exact e];exact h
theorem vH{ps:List Nat}(l:iS ps){i j:Nat}(h:ps[i]? = some j):below ps.toArray j=i:=by obtain⟨I,B,G⟩:=bel l j;rcases Fo (below ps.toArray j) i with q|q|q;have hl:=(Ai.mp h).1;have:=G _ _ (As _) (Ac (by omega));have:=l.lt q (Ac (by omega)) h;omega;exact q;exact absurd (B i j q h) (AN _)
section
variable {m mv:Nat} {ps:List Nat} {led:Bool} {h:Int}
theorem eG(l:iS ps){i j:Nat}(h:ps[i]? = some j):(tm m ps mv led).slot j=.live i:=by unfold Jq;show(if ((ps.toArray)[below ps.toArray j]?==some j)=true then Slot.live (below ps.toArray j) else _)=_;rw[vH l h,C6,h,if_pos (by simp)]
theorem vI{j:Nat}(h:j∉ps):(tm m ps mv led).slot j=.empty:=by unfold Jq;show(if ((ps.toArray)[below ps.toArray j]?==some j)=true then Slot.live (below ps.toArray j) else if has #[] j=true then Slot.dummy else Slot.empty)=_;rw[if_neg (λq=>h (mG (by rw[C6] at q;exact of_decide_eq_true (by simpa using q)))),if_neg (by simp[has])]
noncomputable def stp(m:Nat)(p:Probe):Probe:=(tm m [] 0 true).advance p
noncomputable def pth(m:Nat)(h:Int):Nat->Probe
 | 0=>(tm m [] 0 true).probeStart h|n+1=>stp m (pth m h n)
theorem aAn(p:Probe):(stp m p).dummy=p.dummy:=by unfold stp Ec;split <;> rfl
theorem oQ:∀n,(pth m h n).dummy=none
 | 0=>rfl|n+1=>(aAn _).trans (oQ n)
theorem probe_go(W:iS ps)(g:Nat->Int){N:Nat}(hN:(pth m h N).j∉ps)(hl:∀n,n<N->(pth m h n).j∈ps):∀G n,n<=N->N-n<G ->
 ((∀B,(∀i,i<ps.length->B i=g i)->probe.go (tm m ps mv led) B h G (pth m h n)=some (.empty (pth m h N).j none))/\∀n' i,n<=n'->n'<N->ps[i]? = some (pth m h n').j->g i≠h) \/
 ∃n' i,n<=n'/\n'<N/\ps[i]? = some (pth m h n').j/\g i=h/\(∀B,(∀i,i<ps.length->B i=g i)->probe.go (tm m ps mv led) B h G (pth m h n)=some (.candidate (pth m h n').j i (pth m h (n'+1))))/\∀l i,n<=l->l<n'->ps[i]? = some (pth m h l).j->g i≠h
 | 0,n,_,h2=>absurd h2 (Ca _)|f+1,n,h1,h2=>by
  rcases Bh n N with q|q;obtain⟨i,hi⟩:=B3.mp (hl n q);have U:=(Ai.mp hi).1;by_cases c:g i=h;refine .inr ⟨n,i,As _,q,hi,c,λB L=>?_,λl i a b=>absurd a (by omega)⟩;rw[probe.go,eG W hi];dsimp only;rw[if_pos (by rw[L i U,c];simp)];rfl;have Z:∀M,ps[M]? = some (pth m h n).j->g M≠h:=λM I=>by have:=eG (m:=m) (mv:=mv) (led:=led) W I;rw[eG W hi] at this;cases this;exact c
  have one:∀B,(∀i,i<ps.length->B i=g i)->probe.go (tm m ps mv led) B h (f+1) (pth m h n)=probe.go (tm m ps mv led) B h f (pth m h (n+1)):=λB L=>by rw[probe.go,eG W hi];dsimp only;rw[if_neg (by rw[L i U];simpa using c)];rfl
  have step:∀{n' l:Nat} {M:Nat},(∀l i,n+1<=l->l<n'->ps[i]? = some (pth m h l).j->g i≠h)->n<=l->l<n'->ps[M]? = some (pth m h l).j->g M≠h:=λH a b I=>by rcases Bh n _ with z|z;exact H _ _ z b I;have:_=n:=Nat.le_antisymm z a;rw[this] at I;exact Z _ I
  rcases probe_go W g hN hl f (n+1) (by omega) (by omega) with⟨e,H⟩|⟨n',M,a1,a2,a3,a4,a5,a6⟩
  exact .inl ⟨λB L=>(one B L).trans (e B L),λn' M a b c=>step H a b c⟩;exact .inr ⟨n',M,by omega,a2,a3,a4,λB L=>(one B L).trans (a5 B L),λl q0 a b c=>step a6 a b c⟩;obtain rfl:n=N:=by omega
  refine .inl ⟨λB L=>?_,λn' i a b=>absurd a (by omega)⟩;rw[probe.go,vI hN];dsimp only;rw[oQ]
noncomputable def lps(m:Nat)(h:Int):Nat->Nat×Nat
 | 0=>(bits h % (m+1),bits h)
 | c+1=>leap m (lps m h c).1 (lps m h c).2
noncomputable def rn(m:Nat)(x:Nat×Nat)(k:Nat):Probe:={ j:=x.1+k,more:=runEnd m x.1-x.1-k,i:=x.1,perturb:=x.2,dummy:=none }
noncomputable def off(m:Nat)(h:Int):Nat->Nat
 | 0=>0|c+1=>off m h c+(runEnd m (lps m h c).1-(lps m h c).1)+1
theorem aCm(i:Nat):i<=runEnd m i/\runEnd m i<=i+9:=by unfold runEnd;split <;> omega
theorem kQ:∀c,(∀k,k<=runEnd m (lps m h c).1-(lps m h c).1->pth m h (off m h c+k)=rn m (lps m h c) k):=by
 have more:∀{c},pth m h (off m h c)=rn m (lps m h c) 0->∀k,k<=runEnd m (lps m h c).1-(lps m h c).1->pth m h (off m h c+k)=rn m (lps m h c) k:=by
  intro c e k
  induction k with
  | zero=>intro _;exact e|succ k l=>intro B;show stp m (pth m h (off m h c+k))=_;rw[l (by omega)];unfold stp Ec;rw[if_pos (show(rn m (lps m h c) k).more>0 by show runEnd m (lps m h c).1-(lps m h c).1-k>0;omega)];rfl
 intro c
 induction c with
 | zero=>exact more rfl|succ c l=>refine more ?_;show stp m (pth m h (off m h c+(runEnd m (lps m h c).1-(lps m h c).1)))=_;rw[l _ (As _)];unfold stp Ec;rw[if_neg (show ¬ (rn m (lps m h c) _).more>0 by show ¬ (runEnd m (lps m h c).1-(lps m h c).1-(runEnd m (lps m h c).1-(lps m h c).1)>0);omega)];rfl
theorem vJ:∀c,off m h c<=10*c
 | 0=>As _|c+1=>by have:=vJ c;have:=aCm (m:=m) (lps m h c).1;show off m h c+(runEnd m (lps m h c).1-(lps m h c).1)+1<=_;omega
theorem xO:∀c,(lps m h c).2=bits h / 32 ^ c
 | 0=>by rw[Nat.pow_zero,Nat.div_one];rfl|c+1=>by show(lps m h c).2 / 32=_;rw[xO c,Nat.div_div_eq_div_mul,Nat.pow_succ]
theorem aEA:∀c,(lps m h c).1<m+1
 | 0=>Ee _ (Cj _)|c+1=>Ee _ (Cj _)
theorem aHn(n:Nat):(pth m h n).j<m+1:=by
 have run:∀i,i<m+1->i+(runEnd m i-i)<m+1:=λi hi=>by unfold runEnd;split <;> omega
 have:∀n,(pth m h n).j+(pth m h n).more<m+1:=by
  intro n
  induction n with
  | zero=>exact run _ (Ee _ (Cj _))|succ n l=>show(stp m (pth m h n)).j+(stp m (pth m h n)).more<m+1;unfold stp Ec;split;rename_i q;show(pth m h n).j+1+((pth m h n).more-1)<m+1;omega;exact run _ (Ee _ (Cj _))
 exact GY (CQ _ _) (this n)
noncomputable def itr(m:Nat):Nat->Nat->Nat
 | 0,i=>i|d+1,i=>(itr m d i*5+1) % (m+1)
theorem aEB:∀d,lps m h (13+d)=(itr m d (lps m h 13).1,0):=by
 have z:(lps m h 13).2=0:=by
  rw[xO];refine Nat.div_eq_of_lt ?_;have:bits h<2 ^ 64:=by unfold bits;have:=BM h (b:=2 ^ 64) (by decide);have:=Cb h (b:=2 ^ 64) (by decide);omega
  exact A8 this (by decide)
 intro d
 induction d with
 | zero=>exact JV rfl z|succ d l=>show leap m (lps m h (13+d)).1 (lps m h (13+d)).2=_;rw[l];unfold leap;simp[itr]
theorem aMu:∀i,i<8->∀j,j<8->∃d,d<8/\itr 7 d i=j:=by
 have:∀i∈AD 8,∀j∈AD 8,∃d∈AD 8,itr 7 d i=j:=by decide +kernel
 intro i hi j l;obtain⟨d,a,b⟩:=this i (AQ.mpr hi) j (AQ.mpr l);exact⟨d,AQ.mp a,b⟩
theorem aJN:∀i,i<32->∀j,j<32->∃d,d<32/\itr 31 d i=j:=by
 have:∀i∈AD 32,∀j∈AD 32,∃d∈AD 32,itr 31 d i=j:=by decide +kernel
 intro i hi j l;obtain⟨d,a,b⟩:=this i (AQ.mpr hi) j (AQ.mpr l);exact⟨d,AQ.mp a,b⟩
abbrev M2(m:Nat):Prop:=m=7\/m=31
theorem aFO(hm:M2 m){j:Nat}(l:j<m+1):∃c,c<m+14/\(lps m h c).1=j:=by
 have hl:=aEA (m:=m) (h:=h) 13;have:∃d,d<m+1/\itr m d (lps m h 13).1=j:=by rcases hm with rfl|rfl;exact aMu _ hl _ l;exact aJN _ hl _ l
 obtain⟨d,a,b⟩:=this;exact⟨13+d,by omega,by rw[aEB];exact b⟩
theorem oR(hl:ps.length<=m):∃j,j<m+1/\j∉ps:=by refine C8 λq=>?_;have:=F7.length_le_of_subset (l₁:=AD (m+1)) (l₂:=ps) λj l=>C8 λz=>q ⟨j,AQ.mp l,z⟩;rw[Bp] at this;omega
theorem aHo{P:Nat->Prop}:∀n,P n->∃k,k<=n/\P k/\∀i,i<k->¬ P i:=by
 intro n
 induction n using Nat.strongRecOn with
 | _ n l=>intro h;by_cases q:∃i,i<n/\P i;obtain⟨i,a,b⟩:=q;obtain⟨k,c,d⟩:=l i a b;exact⟨k,by omega,d⟩;exact⟨n,As _,h,λi hi z=>q ⟨i,hi,z⟩⟩
theorem vK(hm:M2 m)(hl:ps.length<=m)(h:Int):∃N,N<10*(m+15)/\(pth m h N).j∉ps/\∀n,n<N->(pth m h n).j∈ps:=by
 obtain⟨j,a,b⟩:=oR hl;obtain⟨c,d,e⟩:=aFO (h:=h) hm a;have z:(pth m h (off m h c)).j=j:=by have:=kQ (m:=m) (h:=h) c 0 (AW _);rw[Nat.add_zero] at this;rw[this];exact e
 obtain⟨N,I,l,B⟩:=aHo (P:=λn=>(pth m h n).j∉ps) (off m h c) (by rw[z];exact b);have:=vJ (m:=m) (h:=h) c;exact⟨N,by omega,l,λn G=>C8 λq=>B n G q⟩
end
noncomputable def Rod(m:Nat)(P:Nat->Prop)(h:Int)(j:Nat):Prop:=∃n,n<10*(m+15)/\(pth m h n).j=j/\∀n',n'<n->P (pth m h n').j
theorem Rod.mono{m:Nat}{P l:Nat->Prop}{h:Int}{j:Nat}(G:∀x,P x->l x):Rod m P h j->Rod m l h j:=λ⟨n,a,b,c⟩=>⟨n,a,b,λn' B=>G _ (c n' B)⟩
theorem xP{m:Nat}{h:Int}(ow:Array (Option Nat)):∀B c,(∃G,c<=G/\G<c+B/\ow.getD (lps m h G).1 (some 0)=none) ->
 ∃n j,layClean.free m ow B (lps m h c).1 (lps m h c).2=some j/\n<10*(c+B)/\(pth m h n).j=j/\ow.getD j (some 0)=none/\∀n',off m h c<=n'->n'<n->ow.getD (pth m h n').j (some 0)≠none
 | 0,c,⟨G,a,b,_⟩=>absurd b (by omega)|f+1,c,⟨G,a,b,e⟩=>by
  rw[layClean.free];have hr:=aCm (m:=m) (lps m h c).1;have ho:=vJ (m:=m) (h:=h) c;cases q:(AD (runEnd m (lps m h c).1+1-(lps m h c).1)).find? λk=>(ow.getD ((lps m h c).1+k) (some 0)).isNone with
  | some k=>
   obtain⟨k1,k2,k3⟩:=List.find?_range_eq_some.mp q;have W:=AQ.mp k2;have at_:∀l,l<=k->(pth m h (off m h c+l)).j=(lps m h c).1+l:=λl L=>by rw[kQ c l (by omega)];rfl
   refine⟨off m h c+k,(lps m h c).1+k,rfl,by omega,at_ k (As _),by simpa using k1,λn' M I=>?_⟩;have:=at_ (n'-off m h c) (by omega);rw[show off m h c+(n'-off m h c)=n' by omega] at this;rw[this];have:=k3 (n'-off m h c) (by omega);intro z;rw[z] at this;simp at this
  | none=>
   have k3:=List.find?_range_eq_none.mp q;have at_:∀l,l<=runEnd m (lps m h c).1-(lps m h c).1->ow.getD (pth m h (off m h c+l)).j (some 0)≠none:=λl L=>by rw[kQ c l L];intro z;have:=k3 l (by omega);rw[show ow.getD ((lps m h c).1+l) (some 0)=none from z] at this;simp at this
   have U:c≠G:=λz=>by subst z;have:=at_ 0 (AW _);rw[kQ c 0 (AW _)] at this;exact this e
   obtain⟨n,j,Z,r2,r3,r4,r5⟩:=xP ow f (c+1) ⟨G,by omega,by omega,e⟩;refine⟨n,j,Z,by omega,r3,r4,λn' M I=>?_⟩;rcases Bh n' (off m h (c+1)) with z|z;have z':n'<off m h c+(runEnd m (lps m h c).1-(lps m h c).1)+1:=z;have:=at_ (n'-off m h c) (by omega);rw[show off m h c+(n'-off m h c)=n' by omega] at this;exact this;exact r5 n' z I
structure Ow (hs:List Int) (ow:Array (Option Nat)) (ps:List Nat):Prop where
 sz:ow.size=32
 len:ps.length=hs.length
 at_:∀j x:Nat,ow[j]? = some (some x)↔ps[x]? = some j
 rod:∀(x:Nat) h j,hs[x]? = some h->ps[x]? = some j->Rod 31 (·∈ps) h j
theorem Ow.step{hs:List Int}{ow:Array (Option Nat)}{ps:List Nat}(o:Ow hs ow ps)(hl:hs.length<=31)(h:Int):∃j,layClean.free 31 ow (turns 31) (bits h % 32) (bits h)=some j/\Ow (hs++[h]) (ow.setIfInBounds j (some hs.length)) (ps++[j]):=by
 have l:∀j,ow.getD j (some 0)≠none->j<32->j∈ps:=λj B W=>by
  cases q:ow[j]? with
  | none=>rw[EY,o.sz] at q;omega|some y=>
   cases y with
   | none=>exact absurd (by simp[AF,q]) B|some x=>exact mG ((o.at_ j x).mp q)
 obtain⟨j0,a,b⟩:=oR (m:=31) (ps:=ps) (by rw[o.len];exact hl);obtain⟨c,d,e⟩:=aFO (h:=h) (.inr rfl) a;obtain⟨n,j,r1,r2,r3,I,r5⟩:=xP (m:=31) (h:=h) ow (31+15) 0 ⟨c,AW _,by omega,by
  rw[e];exact C8 λq=>b (l j0 q a)⟩
 have B:ow[j]? = some none:=by
  rw[AF] at I;cases q:ow[j]? with
  | none=>rw[q] at I;cases I|some y=>rw[q] at I;exact congrArg some I
 have G:j<32:=by rw[<-o.sz];exact(AL.mp B).1
 refine⟨j,r1,by rw[Array.size_setIfInBounds];exact o.sz,by rw[lA,lA,o.len];rfl,λU x=>?_,λx h' U L M=>?_⟩;rw[Array.getElem?_setIfInBounds];by_cases q:j=U;subst q;rw[if_pos rfl,if_pos (by rw[o.sz];exact G)];constructor;intro z;cases z;rw[<-o.len];simp;intro z;rcases Bh x ps.length with k|k;rw[Aw k] at z;rw[(o.at_ j x).mpr z] at B;cases B;rw[Ax k] at z;have:x-ps.length=0:=by have:=(Ai.mp z).1;simp at this;omega
 rw[show x=hs.length by have:=o.len;omega];rw[if_neg q,o.at_ U x];constructor;intro z;rw[Aw (Ai.mp z).1];exact z;intro z;rcases Bh x ps.length with k|k;rw[Aw k] at z;exact z;rw[Ax k] at z;have:=mG z;exact absurd (A3.mp this).symm q;rcases Bh x hs.length with k|k;rw[Aw k] at L;rw[Aw (by rw[o.len];exact k)] at M;exact(o.rod x h' U L M).mono λy hy=>AK _ hy;rw[Ax k] at L;rw[Ax (by rw[o.len];exact k)] at M;obtain rfl:=(A3.mp (mG L))
 obtain rfl:=(A3.mp (mG M))
 exact⟨n,by omega,r3,λn' Z=>AK _ (l _ (r5 n' (AW _) Z) (aHn n'))⟩
set_option maxRecDepth 100000
theorem Ow.nil:Ow [] (Ey 32 none) [] where
 sz:=by simp
 len:=rfl
 at_:=λj x=>by rw[Array.getElem?_replicate];constructor;intro z;split at z <;> cases z;intro z;simp at z
 rod:=λx h j l=>by simp at l
noncomputable def aHp(acc:Option (Array (Option Nat)×Nat))(h:Int):Option (Array (Option Nat)×Nat):=do
 let (owner,k)<-acc
 let j<-layClean.free 31 owner (turns 31) (bits h % (31+1)) (bits h)
 pure (owner.setIfInBounds j (some k),k+1)
theorem sV:∀(rest hs:List Int) (ow:Array (Option Nat)) (ps:List Nat),Ow hs ow ps->hs.length+rest.length<=31->∃l B,rest.foldl aHp (some (ow,hs.length))=some (l,(hs++rest).length)/\Ow (hs++rest) l B
 | [],hs,ow,ps,o,_=>⟨ow,ps,by rw[BB];rfl,by rw[BB];exact o⟩
 | h::rest,hs,ow,ps,o,hl=>by
  rw[lC] at hl;obtain⟨j,e,o'⟩:=o.step (by omega) h;have:=sV rest (hs++[h]) _ _ o' (by rw[lA];show hs.length+1+rest.length<=31;omega);rw[H0,lA] at this;have G:aHp (some (ow,hs.length)) h=some (ow.setIfInBounds j (some hs.length),hs.length+1):=by show(do let j<-layClean.free 31 ow (turns 31) (bits h % (31+1)) (bits h);pure (ow.setIfInBounds j (some hs.length),hs.length+1))=_;rw[e];rfl
  rw[Ex,G];exact this
theorem aEC(hs:List Int)(hl:hs.length<=31)(f mv:Nat)(led pl:Bool):∃l:List (Nat×Nat),
 laid 31 f mv led pl hs.toArray=some ({ mask:=31,place:=(l.map (·.1)).toArray,dummies:=#[],finger:=f,led:=led,moves:=mv,plain:=pl },(l.map (·.2)).toArray) /\
 iS (l.map (·.1))/\(l.map (·.2)).Perm (AD hs.length)/\∀p∈l,∀h,hs[p.2]? = some h->Rod 31 (·∈l.map (·.1)) h p.1:=by
 obtain⟨ow,ps,e,o⟩:=sV hs [] _ _ Ow.nil (by simpa using hl);rw[Ge] at e o;refine⟨(AD 32).filterMap λj=>(ow.getD j none).map (j,·),?_,?_,?_,?_⟩
 . unfold laid;have:layClean 31 hs.toArray=some ow:=by unfold layClean;rw[<-Array.foldl_toList];show(hs.foldl aHp (some (Ey 32 none,0))).map (·.1)=some ow;rw[show(some (Ey 32 none,0):Option (Array (Option Nat)×Nat))=some (Ey 32 none,([]:List Int).length) from rfl,e];rfl
   rw[this];rfl
 all_goals
  have mem:∀j x,(ow.getD j none).map (j,·)=some x->x.1=j/\ps[x.2]? = some j:=λj x B=>by
   rw[AF] at B;cases q:ow[j]? with
   | none=>rw[q] at B;cases B|some y=>
    rw[q] at B;cases y with
    | none=>cases B|some z=>cases B;exact⟨rfl,(o.at_ j z).mp q⟩
 . rw[iS,Di];exact F8 _ (λa W h b hb Z I=>by rw[(mem _ _ hb).1,(mem _ _ I).1];exact h) FV
 all_goals
  have G:∀x j,ps[x]? = some j->(j,x)∈(AD 32).filterMap λj=>(ow.getD j none).map (j,·):=λx j B=>by have q:=(o.at_ j x).mpr B;refine BK.mpr ⟨j,AQ.mpr (by rw[<-o.sz];exact(AL.mp q).1),?_⟩;rw[AF,q];rfl
 refine(List.perm_ext_iff_of_nodup ?_ F7).mpr λx=>?_;rw[Kx,Di];exact F8 _ (λa W h b hb Z I z=>by
  have U:=(mem _ _ hb).2;have h2:=(mem _ _ I).2;rw[z,h2] at U;cases U;exact AN _ h) FV
 rw[AQ,<-o.len];constructor;intro q;obtain⟨p,M,rfl⟩:=AA.mp q;obtain⟨j,_,L⟩:=BK.mp M;exact(Ai.mp (mem _ _ L).2).1;intro q;exact AA.mpr ⟨(ps[x],x),G _ _ (Ac q),rfl⟩;intro p M h hh;obtain⟨j,_,L⟩:=BK.mp M;obtain⟨e1,e2⟩:=mem _ _ L;rw[e1];refine(o.rod p.2 h j hh e2).mono λy hy=>?_;obtain⟨x,B⟩:=B3.mp hy;exact AA.mpr ⟨(y,x),G _ _ B,rfl⟩
end L2
namespace L2
open PySem PySem.Spec PyProof.Rows SetTable
open Hp (tupHs)
set_option maxRecDepth 100000
abbrev KA:=List Int×Addr
noncomputable def bE(xs:List KA):Array (Int×Value):=(xs.map λx=>(tupHs x.1,A5 x.2)).toArray
theorem aY(xs:List KA):(bE xs).size=xs.length:=by unfold bE;rw[Al,lM]
theorem iT(xs:List KA)(i:Nat):(bE xs)[i]? = (xs[i]?).map λx=>(tupHs x.1,A5 x.2):=by unfold bE;rw[C6,Ak]
structure Tb (xs:List KA) (m:Nat) (ps:List Nat):Prop where
 m2:M2 m
 rise:iS ps
 len:ps.length=xs.length
 nd:(xs.map (·.1)).Nodup
 few:xs.length<=18
 few7:m=7->xs.length<=4
 rod:∀(i:Nat) x j,xs[i]? = some x->ps[i]? = some j->Rod m (·∈ps) (tupHs x.1) j
theorem Tb.lt{xs:List KA}{m:Nat}{ps:List Nat}(T:Tb xs m ps):ps.length<m:=by have B:=T.len;have G:=T.few;have l:=T.few7;rcases T.m2 with rfl|rfl;have:=l rfl;omega;omega
noncomputable def cI(w:AH):Bool:=w.params.followText "set-order"
noncomputable def aV(w:AH)(xs:List KA)(ep m:Nat)(ps:List Nat)(mv:Nat):Obj:={ cls:=.type "set",dict:=none,data:=.set (bE xs) ep (tm m ps mv (!cI w)),slots:=#[] }
theorem Tb.fits{xs:List KA}{m:Nat}{ps:List Nat}(T:Tb xs m ps){mv:Nat}{led:Bool}:(tm m ps mv led).fits (bE xs).size=true:=by have l:=T.len;have B:=T.lt;unfold Jr GL tm;rw[aY];simp;omega
section
variable {prog:A0} {w:AH} {A:AV} {E:Value->Ad->Prop} {s:Ad} {S a:Addr} {k:List Int} {xs:List KA} {m mv ep:Nat} {ps:List Nat}
abbrev IsK(prog:A0)(w:AH)(h:Heap)(x:KA):Prop:=IsTupleKey (Eg prog w) h x.1 x.2
theorem aCn(n:Nat){v:Value}(h:DQ v=true):Dj n v=pure false:=by
 cases v with
 | ref a=>simp[DQ] at h|_=>first|rfl|simp[Dj]|(unfold Dj;rfl)
theorem xQ{Q:Bool->Ad->Prop}(L:IsK prog w s.heap (k,a))(h:Q false s):Ap (A2 prog w) A (Dj 8 (.ref a)) Q E s:=by have M:=L.typeIs;obtain⟨o,items,n,U,_,hd,hi⟩:=L;unfold Dj;refine Aa (EI M ?_);dsimp only;rw[if_pos (by decide +kernel)];refine Aa (Af ?_);rw[if_neg (by decide)];refine Aa (BI U hd ?_);dsimp only;rw[<-GZ];refine Aa (F9 _ (λrest r I=>r.1=none/\I=s/\∀v∈rest,DQ v=true) _ ?_ ?_ _ _ ⟨rfl,rfl,hi.byValue⟩);rintro v rest r I ⟨B,rfl,l⟩;rw[aCn _ (l v Aj)];refine Aa (Af ?_);rw[if_neg (by decide)];exact Af ⟨rfl,rfl,λu G=>l u (Ae _ G)⟩;rintro ⟨W,Z⟩ I ⟨B,rfl,_⟩;simp only at B;subst B;exact Af h
theorem xR{k:Int}{v:Value}(h:(Eg prog w).is k v=true):∃t,v=.int k t:=by change Ia k v=true at h;cases v <;> simp[Ia] at h;exact⟨_,by rw[h]⟩
theorem aJO{Q:Bool->Ad->Prop}(I:IsK prog w s.heap (k,a))(h:Q true s):Ap (A2 prog w) A (G0 8 (.ref a)) Q E s:=by
 have U:=I.typeIs;obtain⟨o,items,n,W,_,hd,hi⟩:=I;unfold G0;refine Aa (Ez U PySem.F.slot_tuple_hash.lookup ?_);dsimp only;refine Aa (BI W hd ?_);dsimp only[HS];rw[<-GZ];refine Aa (F9 _ (λrest r G=>r.1=none/\G=s/\∃ks,ItemsAre (Eg prog w) ks rest) _ ?_ ?_ _ _ ⟨rfl,rfl,_,hi⟩);rintro v rest r G ⟨B,rfl,ks,l⟩;cases l with
 | cons L M=>obtain⟨tk,rfl⟩:=xR L;rw[show G0 7 (.int _ tk)=pure true by unfold G0;rfl];refine Aa (Af ?_);rw[if_neg (by decide)];exact Af ⟨rfl,rfl,_,M⟩
 rintro ⟨Z,r2⟩ G ⟨B,rfl,_⟩;simp only at B;subst B;exact Af h
theorem aHq{Q:Bool->Ad->Prop}(M:IsK prog w s.heap (k,a)):∀(ys:List KA),(∀y∈ys,IsK prog w s.heap y)->Q false s->Ap (A2 prog w) A (H9 (.ref a) (ys.map λy=>A5 y.2)) Q E s:=by
 intro ys L h;unfold H9;refine Aa (F9 _ (λrest r G=>r.1=none/\G=s/\∃B:List KA,rest=B.map (λy=>A5 y.2)/\∀y∈B,IsK prog w s.heap y) _ ?_ ?_ _ _ ⟨rfl,rfl,ys,rfl,L⟩);rintro v rest r G ⟨I,rfl,B,hz,l⟩;cases B with
 | nil=>cases hz|cons z B=>cases hz;dsimp only;have U:∀y∈B,IsK prog w G.heap y:=λy L=>l y (Ae _ L);by_cases c:((a==z.2)||(DQ (.ref a)&&DQ (.ref z.2)))=true;rw[if_pos c];exact Af ⟨rfl,rfl,B,rfl,U⟩;rw[if_neg c];refine Aa (Gk M ?_);rw[if_neg (by decide)];refine Aa (Gk (l z Aj) ?_);rw[if_neg (by decide)];refine Aa (xQ M ?_);rw[if_neg (by decide)];refine Aa (xQ (k:=z.1) (l z Aj) ?_);rw[if_neg (by decide)];exact Af ⟨rfl,rfl,B,rfl,U⟩
 rintro ⟨W,Z⟩ G ⟨I,rfl,_⟩;simp only at I;subst I;exact Af h
theorem aMv(T:Tb xs m ps){led:Bool}:(tm m ps mv led).gaveWay=false:=by rcases T.m2 with rfl|rfl <;> simp[KQ,tm]
theorem prb{led:Bool}{h:Int}{p:Probe}{met:Met}(e:∀l,(∀i,i<ps.length->l i=((xs[i]?).map λx=>tupHs x.1).getD 0)->probe.go (tm m ps mv led) l h (10*turns m) p=some met)(l:Nat->Int)(B:∀i,l i=(((bE xs)[i]?).map (·.1)).getD 0):(tm m ps mv led).probe l h p=some met:=
 e l λi _=>by rw[B,iT,Option.map_map];rfl
theorem aAo(k:List Int):((bE xs).filter λx=>x.1==tupHs k).toList.map (·.2)=(xs.filter λx=>tupHs x.1==tupHs k).map λy=>A5 y.2:=by unfold bE;rw[Array.toList_filter,List.filter_map,Bb];rfl
theorem oU(hu:A.units<cLine)(T:Tb xs m ps)(ho:s.heap.get? S=some (aV w xs ep m ps mv))(hk:∀x∈xs,IsK prog w s.heap x)(ha:IsK prog w s.heap (k,a)){N:Nat}(Z:(pth m (tupHs k) N).j∉ps)(hl:∀n,n<N->(pth m (tupHs k) n).j∈ps)(hb:N<10*(m+15)){Q:SetFound->Ad->Prop}
 (h1:k∈xs.map (·.1)->Q (.there none) s) (h2:k∉xs.map (·.1)->Q (.free (pth m (tupHs k) N).j false) s):∀G n l,n<=N->N-n<G->(∀n' (i:Nat) x,n'<n->ps[i]? = some (pth m (tupHs k) n').j->xs[i]? = some x->x.1≠k)->l.getD (pth m (tupHs k) 0)=pth m (tupHs k) n ->
 Ap (A2 prog w) A (GM S (.ref a) (tupHs k) true G l) Q E s
 | 0,n,_,_,hf,_,_=>absurd hf (Ca _)|f+1,n,l,hn,hf,hno,hst=>by
  rw[GM];refine Aa (BX ho rfl T.fits ?_);dsimp only;rw[if_neg (by rw[aMv T];decide)];rw[show(tm m ps mv (!cI w)).probeStart (tupHs k)=pth m (tupHs k) 0 from rfl,hst];have q6:=T.len;rcases probe_go (mv:=mv) (led:=!cI w) T.rise (λi=>((xs[i]?).map λx=>tupHs x.1).getD 0) Z hl (10*turns m) n hn (by unfold turns;omega) with⟨e,H⟩|⟨n',i,a1,a2,a3,a4,e,H⟩
  all_goals (rw[prb e];rotate_left;exact λ_=>rfl)
  dsimp only;refine Af (h2 λhm=>?_);obtain⟨x,I,rfl⟩:=AA.mp hm;obtain⟨i,hi⟩:=B3.mp I;have q0:=(Ai.mp hi).1;obtain⟨L,b1,b2,b3⟩:=T.rod i x _ hi (Ac (by omega));have b4:ps[i]? = some (pth m (tupHs x.1) L).j:=by rw[b2];exact Ac _
  have q4:L<N:=by rcases Fo L N with z|z|z;exact z;exact absurd (mG b4) (by rw[z];exact Z);exact absurd (b3 N z) Z
  rcases Bh L n with z|z;exact hno L i x z b4 hi rfl;exact H L i z q4 b4 (by rw[hi];rfl)
  . have q0:=(Ai.mp a3).1;obtain⟨x,I⟩:∃x,xs[i]? = some x:=⟨_,Ac (by omega)⟩
    have M:=mG I;have W:x.1≠k->Ap (A2 prog w) A (GM S (.ref a) (tupHs k) true f (some (pth m (tupHs k) (n'+1)))) Q E s:=λc=>
     oU hu T ho hk ha Z hl hb h1 h2 f (n'+1) _ (by omega) (by omega) (λB U q5 q1 q2 q3=>by
      rcases Bh B n with z|z;exact hno B U q5 z q2 q3;rcases Bh B n' with z'|z';intro z3;exact H B U z z' q2 (by rw[q3];exact congrArg tupHs z3);obtain rfl:B=n':=by omega
      have:=(vH T.rise a3).symm.trans (vH T.rise q2);subst this;rw[I] at q3;cases q3;exact c) rfl
    dsimp only;split
    case' isTrue=>refine Aa ?_;rw[aAo];refine aHq ha _ (λy hy=>hk y (D7.mp hy).1) ?_;rw[if_neg (by decide)]
    all_goals
     rw[iT,I];dsimp only[Dc];refine Aa (BA (wpAny_eqBool_tuple hu (hk x M) ha ?_));refine Aa (BX ho rfl T.fits ?_);dsimp only;by_cases c:x.1=k;rw[if_pos (by simp[c])];exact Af (h1 (AA.mpr ⟨x,M,c⟩));rw[if_neg (by simp[c]),show(tm m ps mv (!cI w)).sameMemory (tm m ps mv (!cI w)).moves (tm m ps mv (!cI w)).mask=some true by unfold Kl;rw[if_pos (beq_self_eq_true _)]];dsimp only;rw[if_pos rfl,eG T.rise a3];dsimp only;rw[iT,I];dsimp only[Dc];refine Aa ?_;unfold isSame;dsimp only;rw[if_pos (beq_self_eq_true _)];refine Af (Aa (Af ?_));rw[if_pos rfl];dsimp only;rw[if_neg (by simp[c])];exact W c
end
set_option maxRecDepth 100000
noncomputable def cY{α:Type}(l:List α)(p:Nat)(x:α):List α:=l.take p++x::l.drop p
theorem iU{α:Type}(l:List α)(p:Nat)(x:α):HA l.toArray p x=(cY l p x).toArray:=by unfold HA cY;apply Array.ext';simp[List.extract_eq_drop_take];rw[CZ (by rw[BO];omega)]
theorem fI{α:Type}{l:List α}{p:Nat}{x:α}:(cY l p x).length=l.length+1:=by unfold cY;rw[lA,lC,AI,BO];omega
theorem jO{α:Type}{l:List α}{p:Nat}{x:α}:(cY l p x).Perm (x::l):=by unfold cY;refine List.perm_middle.trans ?_;rw[List.take_append_drop]
theorem xS{α:Type}{l:List α}{p:Nat}{x:α}(G:p<=l.length)(i:Nat):(cY l p x)[i]? = if i<p then l[i]? else if i=p then some x else l[i-1]? := by unfold cY;by_cases h:i<p;rw[if_pos h,Aw (by rw[AI];omega),C0,if_pos h];rw[if_neg h,Ax (by rw[AI];omega),AI,Ip G];by_cases B:i=p;rw[if_pos B,B,Nat.sub_self];rfl;rw[if_neg B,show i-p=(i-1-p)+1 by omega,gS,DD,show p+(i-1-p)=i-1 by omega]
theorem sW{α B:Type}(f:α->B)(l:List α)(p:Nat)(x:α):(cY l p x).map f=cY (l.map f) p (f x):=by unfold cY;rw[Cp,mC,Js,Jt]
theorem aCo{ps:List Nat}(G:iS ps){j:Nat}(Z:j∉ps):iS (cY ps (below ps.toArray j) j):=by
 obtain⟨h1,U,W⟩:=bel G j;have M:∀i v,below ps.toArray j<=i->ps[i]? = some v->j<v:=λi v a b=>by have:=W i v a b;have:j≠v:=λz=>Z (z▸mG b);omega
 unfold cY iS;rw[List.pairwise_append];refine⟨G.sublist (Ho _ _),C3.mpr ⟨λv L=>?_,G.sublist (List.drop_sublist _ _)⟩,λv L u I=>?_⟩;obtain⟨i,hi⟩:=B3.mp L;rw[DD] at hi;exact M _ _ (CQ _ _) hi;obtain⟨i,hi⟩:=B3.mp L;rw[C0] at hi;split at hi;have B:=U i v ‹_› hi;rcases Ao.mp I with rfl|I;exact B;obtain⟨i',l⟩:=B3.mp I;rw[DD] at l;exact EJ B (M _ _ (CQ _ _) l);cases hi
theorem aHr{xs:List KA}{m:Nat}{ps:List Nat}(T:Tb xs m ps){k:List Int}{a:Addr}(I:k∉xs.map (·.1)){N:Nat}(hb:N<10*(m+15))(U:(pth m (tupHs k) N).j∉ps)(hl:∀n,n<N->(pth m (tupHs k) n).j∈ps) :
 let p:=below ps.toArray (pth m (tupHs k) N).j
 (∀(i:Nat) x j,(cY xs p (k,a))[i]? = some x->(cY ps p (pth m (tupHs k) N).j)[i]? = some j->Rod m (·∈cY ps p (pth m (tupHs k) N).j) (tupHs x.1) j)/\((cY xs p (k,a)).map (·.1)).Nodup:=by intro p;have G:p<=ps.length:=(bel T.rise _).1;have sub:∀y,y∈ps->y∈cY ps p (pth m (tupHs k) N).j:=λy M=>jO.mem_iff.mpr (Ae _ M);refine⟨λi x j B l=>?_,?_⟩;rw[xS (by rw[<-T.len];exact G)] at B;rw[xS G] at l;split at B;rw[if_pos ‹_›] at l;exact(T.rod i x j B l).mono sub;rw[if_neg ‹_›] at l;split at B;rw[if_pos ‹_›] at l;cases B;cases l;exact⟨N,hb,rfl,λn L=>sub _ (hl n L)⟩;rw[if_neg ‹_›] at l;exact(T.rod _ x j B l).mono sub;rw[sW];exact(jO.nodup_iff).mpr (AG.mpr ⟨I,T.nd⟩)
theorem xT{α:Type}{xs:List α}:∀(l:List Nat),(∀x∈l,x<xs.length)->(l.filterMap λi=>xs[i]?).length=l.length/\∀i:Nat,(l.filterMap λi=>xs[i]?)[i]? = (l[i]?).bind λi=>xs[i]?
 | [],_=>⟨rfl,λi=>by simp⟩
 | y::l,h=>by
  obtain⟨G,I⟩:=xT (xs:=xs) l λx L=>h x (Ae _ L);have B:=h y Aj;rw[BY,Ac B];dsimp only;refine⟨by rw[lC,lC,G],λi=>?_⟩;cases i with
  | zero=>simp[B]|succ i=>rw[gS,gS,I]
section
variable {prog:A0} {w:AH} {A:AV} {E:Value->Ad->Prop} {s:Ad} {S a:Addr} {k:List Int} {xs:List KA} {m mv ep:Nat} {ps:List Nat}
theorem sX{h:Heap}(L:h.get? S=some (aV w xs ep m ps mv))(G:List KA)(I:Nat)(B:List Nat)(l:Nat):(h.update S (Ky (bE G) (tm I B l (!cI w)))).get? S=some (aV w G (ep+1) I B l):=by have:=Bg (Ky (bE G) (tm I B l (!cI w))) L rfl;exact this
theorem aJP{led:Bool}{j:Nat}:(tm m ps mv led).put j=(tm m (cY ps (below ps.toArray j) j) mv led,below ps.toArray j):=by unfold SetTable.put tm;dsimp only;rw[iU,if_neg (by simp[has])]
theorem aCp(p:Nat):insertAt (bE xs) p (tupHs k,A5 a)=bE (cY xs p (k,a)):=by unfold bE;rw[iU,sW]
theorem aED(ho:s.heap.get? S=some (aV w xs ep 7 ps mv))(hf:(tm 7 ps mv (!cI w)).fits (bE xs).size=true)(hl:xs.length=5)(q5:(xs.map (·.1)).Nodup){Q:Unit->Ad->Prop}
 (h:∀h' I Z G q0,Bq S s.heap h'->Tb I 31 Z->h'.get? S=some (aV w I q0 31 Z G)->I.Perm xs->Q () { s with heap:=h' }):Ap (A2 prog w) A (setRelay S 20) Q E s:=by
 unfold setRelay;refine Aa (BX ho rfl hf ?_);dsimp only;rw[if_neg (by decide +kernel)];obtain⟨l,e,h1,L,h3⟩:=aEC (xs.map λx=>tupHs x.1) (by rw[lM];omega) 0 ((tm 7 ps mv (!cI w)).movedTo 31) (!cI w) true;have U:(tm 7 ps mv (!cI w)).relaid ((bE xs).map (·.1)) 20=some (tm 31 (l.map (·.1)) ((tm 7 ps mv (!cI w)).movedTo 31) (!cI w),(l.map (·.2)).toArray):=by
  have:(bE xs).map (·.1)=(xs.map λx=>tupHs x.1).toArray:=by unfold bE;rw[List.map_toArray,Bb];rfl
  rw[this];exact e
 rw[U];generalize (tm 7 ps mv (!cI w)).movedTo 31=G;rw[lM] at L;have q4:∀x∈l.map (·.2),x<xs.length:=λx W=>AQ.mp (L.mem_iff.mp W);obtain⟨q1,q2⟩:=xT (xs:=xs) (l.map (·.2)) q4;have B:(l.map (·.2)).length=xs.length:=by rw[L.length_eq,Bp]
 have q3:((l.map (·.2)).toArray.filterMap λi=>(bE xs)[i]?)=bE ((l.map (·.2)).filterMap λi=>xs[i]?):=by
  apply FA.mp;rw[Array.toList_filterMap];unfold bE;show(l.map (·.2)).filterMap (λi=>(xs.map λx=>(tupHs x.1,A5 x.2)).toArray[i]?)=((l.map (·.2)).filterMap λi=>xs[i]?).map λx=>(tupHs x.1,A5 x.2)
  rw[List.map_filterMap];refine congrArg (λf=>List.filterMap f _) (funext λi=>?_);rw[C6,Ak]
 refine Aa ?_;show Ap _ _ (if (((l.map (·.2)).toArray.filterMap λi=>(bE xs)[i]?).size != (bE xs).size)=true then _ else _) _ _ _;rw[q3,if_neg (by rw[aY,aY,q1,B];simp)];refine Af ?_;refine HB ho rfl ?_ (by rw[aY,q1,B,hl];decide);refine h _ ((l.map (·.2)).filterMap λi=>xs[i]?) (l.map (·.1)) G (ep+1) (BE s.heap S _) ?_ ?_ ?_;have pm:((l.map (·.2)).filterMap λi=>xs[i]?).Perm xs:=by have:=L.filterMap λi=>xs[i]?;rw[Dz] at this;exact this
 refine⟨.inr rfl,h1,by rw[q1,lM,lM],((pm.map _).nodup_iff).mpr q5,by rw[q1,B];omega,λz=>absurd z (by decide),λi x j W M=>?_⟩;rw[q2,Ak] at W;rw[Ak] at M;cases hp:l[i]? with
 | none=>rw[hp] at M;cases M|some p=>rw[hp] at W M;cases M;refine h3 p (mG hp) _ ?_;rw[Ak,show xs[p.2]? = some x from W];rfl
 exact sX ho _ _ _ _;have:=L.filterMap λi=>xs[i]?;rw[Dz] at this;exact this
theorem aJQ(hu:A.units<cLine)(T:Tb xs m ps)(U:s.heap.get? S=some (aV w xs ep m ps mv))(hk:∀x∈xs,IsK prog w s.heap x)(ha:IsK prog w s.heap (k,a))(W:k∉xs.map (·.1)->xs.length<=17){Q:Bool->Ad->Prop}
 (h:∀h' b l m' G M I,Bq S s.heap h'->Tb l m' G->h'.get? S=some (aV w l I m' G M)->(if k∈xs.map (·.1) then l=xs else l.Perm ((k,a)::xs))->Q b { s with heap:=h' }):Ap (A2 prog w) A (JD S (.ref a) (tupHs k)) Q E s:=by
 obtain⟨N,hb,hN,hl⟩:=vK T.m2 (DG T.lt) (tupHs k);unfold JD setAddHashedIn;refine BA (Aa (BX U rfl T.fits ?_));dsimp only;rw[if_neg (by unfold byScan;simp[Value.scannable])];unfold setSearch;have q1:m<=31:=by rcases T.m2 with rfl|rfl <;> omega
 refine Aa (oU hu T U hk ha hN hl hb (λhm=>?_) (λhm=>?_) 100000 0 none (AW _) (by omega) (λn' i x z=>absurd z (Ca _)) rfl);dsimp only;refine Af ?_;exact h s.heap false xs m ps mv ep (KB S s.heap) T U (by rw[if_pos hm]);dsimp only;refine Aa (BX U rfl T.fits ?_);dsimp only;rw[aJP];dsimp only;rw[if_pos (show(tm m _ mv (!cI w)).plain=true from rfl)];refine Aa (aJO ha ?_);rw[if_pos rfl,aCp];obtain⟨g1,g2⟩:=aHr (a:=a) T hm hb hN hl;have g3:=aCo T.rise hN;generalize below ps.toArray (pth m (tupHs k) N).j=p at g1 g2 g3 ⊢;generalize hj:(pth m (tupHs k) N).j=j at g1 g3 ⊢;have Z:(cY ps p j).length=(cY xs p (k,a)).length:=by rw[fI,fI,T.len]
 have B:(cY xs p (k,a)).length=xs.length+1:=fI;have q2:=W hm;refine Aa (HB U rfl ?_ (by rw[aY,B];exact AX (show xs.length+1<=18 by omega) (by decide)));have q0:=sX U (cY xs p (k,a)) m (cY ps p j) mv;have L:(tm m (cY ps p j) mv (!cI w)).tooFull=decide ((xs.length+1)*5 ≥ m*3):=by unfold KR GL tm;simp[fI,T.len]
 have pm:(cY xs p (k,a)).Perm ((k,a)::xs):=jO;rw[L,aY];by_cases c:(xs.length+1)*5 ≥ m*3;have h7:m=7/\xs.length=4:=by rcases T.m2 with rfl|rfl;have:=T.few7 rfl;omega;omega
 obtain⟨rfl,h4⟩:=h7;rw[if_pos (by simpa using c),h4,show grown (4+1)=20 by decide];refine Aa (aED (s:={ s with heap:=_ }) q0 ?_ (by rw[B,h4]) g2 λh' l G M I b1 b2 b3 b4=>?_);unfold Jr GL tm;rw[aY,B,h4];simp[fI,T.len,h4];exact Af (h h' true l 31 G M I ((BE s.heap S _).trans b1) b2 b3 (by rw[if_neg hm];exact b4.trans pm));rw[if_neg (by simpa using c)];refine Af (h _ true _ m _ mv (ep+1) (BE s.heap S _) ⟨T.m2,g3,Z,g2,by rw[B];omega,λz=>?_,g1⟩ q0 (by rw[if_neg hm];exact pm));subst z;rw[B];omega
end
set_option maxRecDepth 100000
noncomputable def gH(w:AH)(h:Heap)(S:Addr)(us:List KA):Prop:=∃xs m ps mv ep,Tb xs m ps/\h.get? S=some (aV w xs ep m ps mv)/\(∀x∈xs,x∈us)/\∀y∈us,y.1∈xs.map (·.1)
section
variable {prog:A0} {w:AH} {A:AV} {R:GS->Ad->Prop} {I:Addr} {fp wr:List Addr} {G:Array EN->Array EN->Prop} {n:Nat} {P:Nat->Value->Prop} {St:Nat->Ad->Prop}
theorem gH.keep{h h':Heap}{S:Addr}{us:List KA}(x:gH w h S us)(e:∀o,h.get? S=some o->h'.get? S=some o):gH w h' S us:=by obtain⟨xs,m,ps,mv,ep,T,l,r⟩:=x;exact⟨xs,m,ps,mv,ep,T,e _ l,r⟩
theorem IsK.keep{h h':Heap}{x:KA}(q:IsK prog w h x)(e:∀o,h.get? x.2=some o->h'.get? x.2=some o):IsK prog w h' x:=by obtain⟨o,its,n,l,r⟩:=q;exact⟨o,its,n,e _ l,r⟩
theorem aAp(W0:WalksS prog w A.in1 I fp wr G n P St)(hu:A.units+10<cLine)(S:Addr)(q1:S∉fp)(us:List KA)(q8:∀i v,P i v->∃x,us[i]? = some x/\v=A5 x.2)(hn:us.length=n)(q6:∀x∈us,x.2∉S::wr)(ks:List (List Int))(z3:ks.length<=18)(q2:∀x∈us,x.1∈ks) :
 ∀(m i:Nat) (s:Ad),n-i=m->i<=n->St i s->gH w s.heap S (us.take i)->(∀x∈us,IsK prog w s.heap x) ->
  (∀l,Moved (S::wr) G s l->gH w l.heap S us->R (.ok (.ret .none)) l) ->
  Dh (A2 prog w) A (.builtin "set.update.loop" ⟨[.ref S,.ref I],[]⟩) R s:=by
 have nw:S∉wr:=λh=>q1 (W0.sub _ h);have sb:∀b∈wr,b∈S::wr:=λb hb=>Ae _ hb;intro m
 induction m with
 | zero=>
  intro i s hk hi U hS hK hR;obtain rfl:i=n:=by omega
  refine Cr D1 ?_;rw[BP Cu _];show Ap _ A.in1 (Dd (.ref I) >>= _) _ _ s;refine Aa (W0.done s _ _ U λl hm=>?_);show Ap _ A.in1 (ret AZ) _ _ l;rw[CZ (by omega)] at hS;exact Af (hR l (hm.mono sb) (hS.keep λo e=>hm.heap S o nw e))
 | succ m ih=>
  intro i s hk hi U hS hK hR;have q4:i<n:=by omega
  refine Cr D1 ?_;rw[BP Cu _];show Ap _ A.in1 (Dd (.ref I) >>= _) _ _ s;refine Aa (W0.item i s _ _ q4 U λv l hP q7 hm=>?_);obtain⟨x,q3,rfl⟩:=q8 i v hP;have W:=mG q3;obtain⟨xs,m',ps,mv,ep,T,ho,r1,r2⟩:gH w l.heap S (us.take i):=hS.keep λo e=>hm.heap S o nw e;have L:∀x∈us,IsK prog w l.heap x:=λx hx=>(hK x hx).keep λo e=>hm.heap _ o (λz=>q6 x hx (Ae _ z)) e;have w7:us.take (i+1)=us.take i++[x]:=by rw[IU,q3];rfl
  show Ap _ A.in1 (FK [A5 x.2] (setAdd S (A5 x.2)) >>= _) _ _ l;refine Aa (BA ?_);unfold setAdd;refine BA ?_;refine Aa (wpAny_pyHash_tuple (ks:=x.1) (by show A.units+1<cLine;omega) (L x W) ?_);refine aJQ (k:=x.1) (s:={ l with toks:=l.toks+(x.1.length+1) }) (by show A.units+1<cLine;omega) T ho (λy B=>L y (Em (r1 y B))) (L x W) (λw5=>?_) λh' b z2 w8 z0 w9 q9 M T' w6 Z=>?_;have:=(AG.mpr ⟨w5,T.nd⟩).length_le_of_subset (l₂:=ks) λy B=>by rcases Ao.mp B with rfl|B;exact q2 x W;obtain⟨z,hz,rfl⟩:=AA.mp B;exact q2 z (Em (r1 z hz))
  rw[lC,lM] at this;omega;have w4:gH w h' S (us.take (i+1)):=by rw[w7];refine⟨z2,w8,z0,w9,q9,T',w6,?_,?_⟩;intro y B;split at Z;rw[Z] at B;exact AK _ (r1 y B);rcases Ao.mp (Z.mem_iff.mp B) with rfl|q;exact AC _ (A3.mpr rfl);exact AK _ (r1 y q);intro y B;split at Z;rw[Z];rcases Bx.mp B with q|q;exact r2 y q;rw[A3.mp q];assumption;refine(Z.map _).mem_iff.mpr ?_;rcases Bx.mp B with q|q;exact Ae _ (r2 y q);rw[A3.mp q];exact Aj
  have w3:∀y∈us,IsK prog w h' y:=λy B=>(L y B).keep λo e=>by rw[M.2 y.2 λz=>q6 y B (by rw[z];exact Aj)];exact e
  refine Af ⟨D6 Cu _,ih (i+1) _ (by omega) q4 (W0.frame _ l _ _ q7 (by show l.toks<=l.toks+_;omega) λb hb o e=>?_) w4 w3 λz1 q5 q0=>?_⟩;rw[M.2 b λh:b=S=>q1 (by rw[<-h];exact hb)];exact e;refine hR z1 (Moved.trans W0.gtrans ((hm.mono sb).then_heap (by show l.toks<=l.toks+_;omega) λb o hb e=>?_) q5) q0;rw[M.2 b λh:b=S=>hb (by rw[h];exact Aj)];exact e
end
section
variable {prog:A0} {w:AH} {A:AV} {E:Value->Ad->Prop} {s:Ad}
theorem aCq(a:Value){Q₁:Value->Ad->Prop}(h:Q₁ (.ref s.heap.objs.size) { s with heap:=s.heap.push { cls:=.type "set",dict:=none,data:=.set #[] 0 (.fresh 0 0 (!cI w)) } }) :
 Dh (A2 prog w) A (.call (.builtin "set.__new__") ⟨[.type "set",a],[]⟩) (wants Q₁ E) s:=by
 refine Iq ?_;show Ap _ A.in1 (do F5 "set.__new__" ⟨[.type "set",a],[]⟩;again (.builtin "set.__new__" ⟨[.type "set",a],[]⟩)) _ _ s;refine Aa (Ii (F.newCall_set_1 a) (Af ⟨D6 Ir _,Cr F.entry_set_new ?_⟩));rw[BP Ir _];unfold C4.«set.__new__» IV;have l:=sub_set_self;obtain⟨B,g,d,tk,os⟩:=s;dsimp only
 wp_walk
 refine Du (Af ?_);dsimp only;simp only[newObj];refine Aa (wpAny_alloc (Af ?_));exact Af h
set_option maxHeartbeats 3200000 in
theorem aAq{l:Addr}{items:Array Value}{us:List KA}{Q:Value->Ad->Prop}(hh:A.handled=none)(hu:A.units+20<cLine)(hl:s.heap.IsList l items)(hi:items.toList=us.map λx=>A5 x.2)(hK:∀x∈us,IsK prog w s.heap x)(ks:List (List Int))(w6:ks.length<=18)(w4:∀x∈us,x.1∈ks)
 (h:∀(h':Heap) (tk:Nat),gH w h' s.heap.objs.size us->(∀b o,b<s.heap.objs.size->s.heap.get? b=some o->h'.get? b=some o)->Q (.ref s.heap.objs.size) { s with heap:=h',toks:=tk }) :
 Ap (A2 prog w) A (call (.type "set") [.ref l]) Q E s:=by
 have hn:us.length=items.size:=by rw[<-AM,hi,lM]
 obtain⟨c,tl,z1⟩:=BN.mro;have w7:=BN.made;have z4:=BN.sub;refine GU (Iq ?_);show Ap _ _ (callAny (.type "set") _) _ _ _;refine Af ⟨Code.quiet_builtin _ (by decide +kernel),Cr F.entry_type_call ?_⟩;rw[Around.under_plain (weight_type_call_type "set" [.ref l] []) rfl];have h1:=BN.notType;have h2:=BN.canCreate;have z7:=PySem.F.typeCall_set_1 (.ref l)
 repeat (any_goals (first|assumption|wp_step))
 refine Ds (aCq (.ref l) (E:=E) (Q₁:=λobj M=>obj=.ref s.heap.objs.size/\M={ s with heap:=s.heap.push { cls:=.type "set",dict:=none,data:=.set #[] 0 (.fresh 0 0 (!cI w)) } }) ⟨rfl,rfl⟩) λr M hr=>?_;cases r with
 | error e=>exact hr|ok fl=>
  cases fl with
  | ret obj=>
   obtain⟨rfl,rfl⟩:=hr;generalize q5:(!cI w)=led at *;have hS:(s.heap.push { cls:=.type "set",dict:=none,data:=.set #[] 0 (.fresh 0 0 led) }).get? s.heap.objs.size=some { cls:=.type "set",dict:=none,data:=.set #[] 0 (.fresh 0 0 led) }:=Aq _ rfl;have hT:GN { s with heap:=s.heap.push { cls:=.type "set",dict:=none,data:=.set #[] 0 (.fresh 0 0 led) } } (.ref s.heap.objs.size) "set" := ⟨_,hS,rfl⟩
   have z8:=BN.init.lookup;have z6:=BN.init.bind (.ref s.heap.objs.size)
   repeat (any_goals (first|assumption|wp_step))
   refine Ds (Gu (R:=wants (λr U=>r=.none/\∃h' tk,U={ s with heap:=h',toks:=tk }/\gH w h' s.heap.objs.size us /\
    (∀b o,b<s.heap.objs.size->s.heap.get? b=some o->h'.get? b=some o)) E) BN.init.plain F.entry_set_init (check_set_init_1 hT ?_)) λq8 U B=>?_
   . obtain⟨ol,q6,q1,nl,q2⟩:=hl;obtain⟨z5,q0,w8,L⟩:=ol;simp only at q1 q2;subst q1;subst q2;have q7:(s.heap.push { cls:=.type "set",dict:=none,data:=.set #[] 0 (.fresh 0 0 led) }).get? l=some { cls:=.type "list",dict:=q0,data:=.seq items nl,slots:=L }:=Ab _ q6;have z3:=PySem.F.sub_list_set;have z2:=PySem.F.sub_list_frozenset;have z9:(CG "list" == CG "dict")=false:=by decide
     have q3:(s.heap.push { cls:=.type "set",dict:=none,data:=.set #[] 0 (.fresh 0 0 led) }).IsList l items:=⟨_,q7,rfl,nl,rfl⟩
     unfold C4.«set.__init__» noKeywords Iu;generalize q9:IC=PI
     wp_walk
     subst q9;refine Dg q3 ?_;refine Aa (IW ?_);have q4:l<s.heap.objs.size:=Am q6;have w3:A.in1.in1.in1.handled=none:=by simp[hh]
     have I:(s.heap.push { cls:=.type "set",dict:=none,data:=.set #[] 0 (.fresh 0 0 led) }).objs.size=s.heap.objs.size+1:=Bf _ _;refine aAp ((Kv w3 _ l (by rw[I];exact Az (BH q4)) items).toS) (by show A.units+1+1+10<cLine;omega) s.heap.objs.size
      (by
       rw[I];intro z;rcases Ao.mp z with q|q;exact absurd q (Az (Bz _));exact absurd (A3.mp q) (BC q4)) us
      (λi v hv=>by
       have G:items.toList[i]? = some v:=by rw[B2];exact hv
       rw[hi,Ak] at G;cases q:us[i]? with
       | none=>rw[q] at G;cases G|some x=>rw[q] at G;cases G;exact⟨x,rfl,rfl⟩) hn
      (λx hx z=>by
       obtain⟨o,_,_,ho,_⟩:=hK x hx;have:=Am ho;rw[I] at z;rcases Ao.mp z with q|q;exact absurd q (Az this);exact absurd (A3.mp q) (Az (BH this))) ks w6 w4 (items.size-0) 0 _ (by omega) (AW _)
      ⟨⟨_,Aq _ rfl,rfl,rfl⟩,(q3.push _)⟩ ?hS0 ?hK0 ?hR
     case hS0=>refine⟨[],7,[],0,0,⟨.inl rfl,Hu,rfl,EU,by decide,λ_=>by decide,λi x j hx=>by simp at hx⟩,?_,λx hx=>by simp at hx,λy hy=>by simp at hy⟩;unfold aV;rw[q5];exact Ab _ hS
     case hK0=>exact λx hx=>(hK x hx).keep λo e=>Ab _ (Ab _ e)
     case hR=>intro s' hm Z;obtain⟨h',g',d',z0,w9⟩:=s';have eg:g'=s.gens:=hm.gens;have ed:d'=s.drawn:=hm.drawn;have eo:w9=s.os:=hm.os;subst eg;subst ed;subst eo;show Ap _ _ _ _ _ _;refine Af ?_;show Ap _ _ (ret AZ) _ _ _;refine Af ⟨rfl,h',z0,rfl,Z,λb o hb e=>?_⟩;refine hm.heap b o ?_ (Ab _ (Ab _ e));rw[I];intro z;rcases Ao.mp z with q|q;exact absurd q (Az hb);exact absurd (A3.mp q) (Az (BH hb))
   . cases q8 with
     | error e=>exact B|ok W=>
      cases W with
      | ret r=>
       obtain⟨rfl,h',tk,rfl,Z,w5⟩:=B
       repeat (any_goals (first|assumption|wp_step))
       exact h _ _ Z w5
      | _=>exact B.elim
  | _=>exact hr.elim
end
end L2
namespace L2
open PySem PySem.Spec PyProof.Rows
open Hp (tupHs)
set_option maxRecDepth 100000
theorem bJ:Slot "set_iterator" "__next__" "set_iterator.__next__" :=
 .of (owner:= "set_iterator") (n:= "__next__") (by rw[EA,Df];kernel_rfl) (by decide +kernel) (by decide +kernel) (by decide +kernel)
  (by first|exact .inl (by decide +kernel)|exact .inr (by decide +kernel)) (by rw[G1];kernel_rfl)
theorem eY:Kf table "set_iterator.__next__" = some C4.«set_iterator.__next__»:=entryFor_of_tree (by kernel_rfl)
theorem fJ(a:Value):Kz "set_iterator.__next__" ⟨[a],[]⟩:=by unfold Kz;kernel_rfl
theorem mR:Kf table "set.__iter__" = some C4.«frozenset.__iter__»:=
 IX (id':= "frozenset.__iter__") (by kernel_rfl) rfl (by decide +kernel) (by kernel_rfl)
theorem fK:Slot "set_iterator" "__iter__" "set_iterator.__iter__" :=
 .of (owner:= "set_iterator") (n:= "__iter__") (by rw[EA,Df];kernel_rfl) (by decide +kernel) (by decide +kernel) (by decide +kernel)
  (by first|exact .inl (by decide +kernel)|exact .inr (by decide +kernel)) (by rw[G1];kernel_rfl)
theorem kK:Kf table "set_iterator.__iter__" = some C4.«dict_keyiterator.__iter__»:=
 IX (id':= "dict_keyiterator.__iter__") (by kernel_rfl) rfl (by decide +kernel) (by kernel_rfl)
theorem mS(a:Value):Kz "set_iterator.__iter__" ⟨[a],[]⟩:=by unfold Kz;kernel_rfl
theorem mT{α:Type}:∀(l:List α) (j:Nat) (h:j<l.length),(l[j]::l.eraseIdx j).Perm l
 | [],_,h=>absurd h (Ca _)|a::l,0,_=>DR _|a::l,j+1,h=>(KW a (l[j]'(by simpa using h)) _).trans ((mT l j (by simpa using h)).cons a)
theorem oV{α:Type}(next:Nat->Nat):∀(B k:Nat) (l:List α) (out:Array α),l.length=B->(HC next B k l out).toList.Perm (out.toList++l)
 | 0,_,l,out,h=>by have:l=[]:=List.eq_nil_of_length_eq_zero h;subst this;rw[HC,BB]|B+1,k,l,out,h=>by
  have G:next k % l.length<l.length:=Ee _ (by omega)
  rw[HC,Ac G];dsimp only;refine(oV next B (k+1) _ _ (by rw[List.length_eraseIdx_of_lt G];omega)).trans ?_;rw[Array.toList_push,H0];exact JM _ (mT _ _ G)
noncomputable def mU(w:AH)(S:Addr)(ep:Nat)(es:Array (Int×Value)):Array (Int×Value):=if cI w then pickOrder (w.params.setOrder S ep) es else es
theorem sY(w:AH)(S:Addr)(ep:Nat)(es:Array (Int×Value)):(mU w S ep es).toList.Perm es.toList:=by unfold mU;split;unfold pickOrder;refine(oV _ _ _ _ _ (by rw[AM])).trans ?_;simp;exact DR _
theorem iV(w:AH)(S:Addr)(ep:Nat)(es:Array (Int×Value)):(mU w S ep es).size=es.size:=by rw[<-AM,(sY w S ep es).length_eq,AM]
noncomputable def vL(ps:List Nat):Nat->Nat
 | 0=>0|i+1=>ps.getD i 0+1
noncomputable def slotV(w:AH)(ps:List Nat)(i:Nat):Nat:=if cI w then 0 else vL ps i
theorem aAr{ps:List Nat}(G:iS ps):∀i,i<=ps.length->Dq ps.toArray (vL ps i)=i
 | 0,_=>by obtain⟨M,B,I⟩:=bel G 0;rcases Nat.eq_zero_or_pos (Dq ps.toArray 0) with z|z;exact z;exact absurd (B 0 _ z (Ac (by omega))) (Ca _)
 | i+1,hi=>by
  show Dq ps.toArray (ps.getD i 0+1)=i+1;obtain⟨M,B,I⟩:=bel G (ps.getD i 0+1);have L:ps[i]? = some (ps.getD i 0):=by rw[AJ,Ac (by omega)];rfl
  rcases Fo (Dq ps.toArray (ps.getD i 0+1)) (i+1) with z|z|z;have:=I i _ (by omega) L;omega;exact z;have q:=Ac (l:=ps) (i:=i+1) (by omega);have:=B (i+1) _ z q;have:=G.lt (Bz i) L q;omega
section
variable {prog:A0} {w:AH} {A:AV} {E:Value->Ad->Prop} {s:Ad}
noncomputable def jP(w:AH)(S:Addr)(ep:Nat)(ps:List Nat)(i:Nat):Obj:={ cls:=.type "set_iterator",dict:=none,data:=.fields #[BD (slotV w ps i),BD i,.ref S,BD ps.length,BD ep],slots:=#[] }
variable {S I:Addr} {ep i m mv:Nat} {ps:List Nat} {xs:List KA}
theorem aFP{Q:Option (Value×Nat)->Ad->Prop}(T:Tb xs m ps)(M:s.heap.get? S=some (aV w xs ep m ps mv))(hi:i<=ps.length)
 (h:Q (((mU w S ep (bE xs))[i]?).map λe=>(e.2,slotV w ps (i+1))) s):Ap (A2 prog w) A (JE S (slotV w ps i) i ep) Q E s:=by
 have L:(tm m ps mv (!cI w)).fits (bE xs).size=true:=T.fits;unfold JE;refine Aa (BX M rfl L ?_);dsimp only;unfold IY;refine Aa (Aa (Du (Af ?_)));show Ap _ _ (if cI w=true then _ else _) _ _ s;unfold mU slotV at h;unfold slotV;cases hb:cI w with
 | true=>rw[hb,if_pos rfl,if_pos rfl] at h;rw[if_pos rfl,if_pos rfl];rw[if_neg (by simp)];unfold setWalk;refine Aa (Aa (BX M rfl L ?_));dsimp only;unfold IY;refine Aa (Aa (Du (Af ?_)));show Ap _ _ (if cI w=true then _ else _) _ _ s;rw[hb,if_pos rfl];refine Aa (Du (Af ?_));exact Af h|false=>
  rw[hb,if_neg bN,if_neg bN] at h;rw[if_neg bN,if_neg bN];show Ap _ _ (if (!true&&decide ((bE xs).size>1))=true then _ else _) _ _ s;rw[if_neg (by simp)];refine Aa ?_;show Ap _ _ (if (!(!false)&&!(bE xs).isEmpty)=true then _ else _) _ _ s;rw[if_neg (by simp)];refine Af ?_;have B:=aAr T.rise i hi;show Ap _ _ (pure (match (bE xs)[Dq ps.toArray (vL ps i)]?,ps.toArray[Dq ps.toArray (vL ps i)]? with
   | some (_,x),some j=>some (x,j+1)|_,_=>none)) _ _ s
  rw[B];refine Af ?_;have e:(match (bE xs)[i]?,ps.toArray[i]? with|some (_,x),some j=>some (x,j+1)|_,_=>none)=((bE xs)[i]?).map λe=>(e.2,vL ps (i+1)):=by
   by_cases l:i<ps.length;have G:i<xs.length:=by have:=T.len;omega
   rw[iT,Ac G,C6,Ac l];simp[vL,l];have G:xs.length<=i:=by have:=T.len;omega
   rw[iT,Ce G];rfl
  rw[e];exact h
theorem aJR{e:Int×Value}{Q:Option Value->Ad->Prop}(T:Tb xs m ps)(L:s.heap.get? S=some (aV w xs ep m ps mv))(l:s.heap.get? I=some (jP w S ep ps i))(q1:S≠I)(G:(mU w S ep (bE xs))[i]? = some e)
 (hQ:∀h',h'.get? I=some (jP w S ep ps (i+1))->Bq I s.heap h'->Q (some e.2) { s with heap:=h' }):Ap (A2 prog w) A (Dd (.ref I)) Q E s:=by
 have hf:(tm m ps mv (!cI w)).fits (bE xs).size=true:=T.fits;have B:s.TypeIs (.ref I) "set_iterator" := ⟨_,l,rfl⟩
 have q0:i<ps.length:=by have:=(AL.mp G).1;rw[iV,aY] at this;have:=T.len;omega
 unfold Dd;refine Aa (D5 (Bj (name:=Cv "__next__") B bJ (Bs bJ B eY ?_ (fJ _))));unfold C4.«set_iterator.__next__» Kg;simp only[Ef,Fv,bF,↓reduceIte,bind_assoc,lN,bne_self_eq_false];refine Aa (Af ?_)
 try dsimp only
 refine Aa (IZ l rfl ?_);show Ap _ _ (setEntries S >>= _) _ _ s;refine Aa (EE L rfl hf ?_);rw[if_neg (by rw[aY,T.len];simp)];show Ap _ _ (JE S ((slotV w ps i:Int).toNat) ((i:Int).toNat) ((ep:Int).toNat) >>= _) _ _ s;rw[BW,BW,BW];refine Aa (aFP T L (by omega) ?_);rw[G];dsimp only[Dc];refine Aa (AU l (by simp) λW g1 M=>?_);refine Aa (AU (s:={ s with heap:=W }) g1 (by simp) λZ g2 U=>?_);refine Af ⟨e.2,rfl,Af (hQ Z ?_ (M.trans U))⟩;rw[g2];simp[jP,BD]
theorem aMw{Q:Option Value->Ad->Prop}(G:A.handled=none)(T:Tb xs m ps)(L:s.heap.get? S=some (aV w xs ep m ps mv))(l:s.heap.get? I=some (jP w S ep ps ps.length))
 (U:∀h',Gw I s.heap h'->Q none { s with heap:=h' }):Ap (A2 prog w) A (Dd (.ref I)) Q E s:=by
 have Z:(tm m ps mv (!cI w)).fits (bE xs).size=true:=T.fits;have B:s.TypeIs (.ref I) "set_iterator" := ⟨_,l,rfl⟩
 have W:(mU w S ep (bE xs))[ps.length]? = none:=by rw[EY,iV,aY,T.len];exact As _
 unfold Dd;refine Aa (D5 (Bj (name:=Cv "__next__") B bJ (Bs bJ B eY ?_ (fJ _))));unfold C4.«set_iterator.__next__» Kg;simp only[Ef,Fv,bF,↓reduceIte,bind_assoc,lN,bne_self_eq_false];refine Aa (Af ?_)
 try dsimp only
 refine Aa (IZ l rfl ?_);show Ap _ _ (setEntries S >>= _) _ _ s;refine Aa (EE L rfl Z ?_);rw[if_neg (by rw[aY,T.len];simp)];show Ap _ _ (JE S ((slotV w ps ps.length:Int).toNat) ((ps.length:Int).toNat) ((ep:Int).toNat) >>= _) _ _ s;rw[BW,BW,BW];refine Aa (aFP T L (As _) ?_);rw[W];dsimp only[Option.map_none];refine Aa (AU l (by simp) λh1 g1 M=>?_);show Ap _ _ (Kw (.type "StopIteration") [] >>= _) _ _ _;refine Aa ?_;simp only[Kw,Kd];refine Aa (Bm ?_ (by size_fits));refine Aa (m:=EW _ _) (Ii (a:=AZ) (by first|rfl|(simp only[EW];rfl)) ?_);refine Bm ?_ (by size_fits);simp only[raiseNew];refine Aa (Jp ?_)
 first|rw[show A.in1.handled=none from G]|rw[G]
 refine Aa (Af (Ke ?_));refine Aa (Dt (T:= "StopIteration") (b:=true) ⟨_,Aq _ rfl,rfl⟩ Gz ?_);exact Af (U _ ((M.extBut.push _).push _))
theorem aHs(U:A.handled=none)(T:Tb xs m ps)(G:S≠I):Walks prog w A I [I,S] [I] ps.length (λi v=>∃e,(mU w S ep (bE xs))[i]? = some e/\v=e.2) (λi h=>h.get? I=some (jP w S ep ps i)/\h.get? S=some (aV w xs ep m ps mv)) where
 sub:=λb hb=>by rw[A3.mp hb];exact Aj
 frame:=λi h h' st k=>⟨k I Aj _ st.1,k S (Ae _ (A3.mpr rfl)) _ st.2⟩
 item:=λi s Q E hi st l=>by
  have B:i<(mU w S ep (bE xs)).size:=by rw[iV,aY,<-T.len];exact hi
  refine aJR T st.2 st.1 G (Bk B) λh' g b=>l _ h' s.toks ⟨_,Bk B,rfl⟩ ⟨g,?_⟩ λc o M e=>?_;rw[b.2 S G];exact st.2;rw[b.2 c λz=>M (by rw[z];exact A3.mpr rfl)];exact e
 done:=λs Q E st l=>aMw U T st.2 st.1 λh' b=>l h' s.toks λc o M e=>b c o (λz=>M (by rw[z];exact A3.mpr rfl)) e
 self:=λi s Q E st l=>by
  have L:s.TypeIs (.ref I) "set_iterator" := ⟨_,st.1,rfl⟩
  refine HD L fK (Bs fK L kK ?_ (mS _));show Ap _ _ (ret (.ref I)) _ _ s;exact Af ⟨_,rfl, "set_iterator",_,L,bJ.lookup,l⟩
theorem aJS{Q:Value->Ad->Prop}(T:Tb xs m ps)(l:s.heap.get? S=some (aV w xs ep m ps mv))(h:Q (.ref s.heap.objs.size) { s with heap:=s.heap.push (jP w S ep ps 0) }):Ap (A2 prog w) A (IC (.ref S)) Q E s:=by
 have B:(tm m ps mv (!cI w)).fits (bE xs).size=true:=T.fits;have G:s.TypeIs (.ref S) "set" := ⟨_,l,rfl⟩
 refine HD G Gm (Bs Gm G mR ?_ (PySem.F.args_set_iter_1 _));unfold C4.«frozenset.__iter__» J5 Kg;simp only[Ef,Fv,bF,↓reduceIte,bind_assoc,lN,bne_self_eq_false];unfold Ju Jv;refine Aa (Af ?_)
 try dsimp only
 refine Aa (Af ?_);refine Aa (Aa (EE l rfl B (Af ?_)));unfold setDrawn IY;refine Aa (Aa (BX l rfl B ?_));dsimp only;refine Aa (Aa (Du (Af ?_)));refine Af ?_;show Ap _ _ (if (!cI w&&(!true&&decide ((bE xs).size>1)))=true then _ else _) _ _ s;rw[if_neg (by simp)];refine Aa (Af ?_);refine Aa (wpAny_setEpoch_of l rfl B ?_);refine Aa (Bm ?_);have e:(#[BD 0,BD 0,A5 S,BD ((bE xs).size:Int),BD (ep:Int)]:Array Value)=#[BD (slotV w ps 0),BD ((0:Nat):Int),.ref S,BD ps.length,BD ep]:=by
  rw[aY,T.len];have:slotV w ps 0=0:=by unfold slotV vL;split <;> rfl
  rw[this];rfl
 refine Af ⟨_,rfl, "set_iterator",_,⟨_,Aq _ rfl,rfl⟩,bJ.lookup,?_⟩;show Q (.ref s.heap.objs.size) { s with heap:=s.heap.push { cls:=.type "set_iterator",data:=.fields #[BD 0,BD 0,A5 S,BD ((bE xs).size:Int),BD (ep:Int)] } };rw[e];exact h
theorem aAs{P:Nat->Value->Prop}{acc:Array Value}{m:Nat}{od:List (Int×Value)}(B:∀i v,P i v->∃e,od[i]? = some e/\v=e.2)(h:ItemsOf P acc m)(hm:od.length=m):acc.toList=od.map (·.2):=by refine HE λj=>?_;rw[B2,Ak];by_cases l:j<acc.size;obtain⟨e,G,L⟩:=B j acc[j] (h.2 j _ (Bk l));rw[Bk l,G,L];rfl;have M:=h.1;rw[Array.getElem?_eq_none (by omega),Ce (by omega)];rfl
theorem aCr{Q:List Value->Ad->Prop}(hh:A.handled=none)(T:Tb xs m ps)(ho:s.heap.get? S=some (aV w xs ep m ps mv))
 (hQ:∀G acc,(∀b o,s.heap.get? b=some o->G.heap.get? b=some o)->(s.heap.objs.size<G.heap.objs.size/\∃tk h',G={ s with heap:=h',toks:=tk })->acc=(mU w S ep (bE xs)).toList.map (·.2)->Q acc G):Ap (A2 prog w) A (collect (.ref S)) Q E s:=by
 have hT:s.TypeIs (.ref S) "set" := ⟨_,ho,rfl⟩
 have B:S<s.heap.objs.size:=Am ho;unfold collect;refine Aa (IW (Cr F.entry_proto_collect ?_));rw[BP F.plain_proto_collect _];show Ap _ A.in1 (K6 [] >>= λl=>again (.builtin "list.__iadd__" ⟨[l,.ref S],[]⟩)) _ _ s;refine Aa (Bm ?_);refine Af ⟨D6 HF _,Cr F.entry_list_iadd ?_⟩;rw[BP HF _];have M:(s.heap.push { cls:=.type "list",data:=.seq ([]:List Value).toArray }).get? S=some (aV w xs ep m ps mv):=Ab _ ho;have w3:GN { s with heap:=s.heap.push { cls:=.type "list",data:=.seq ([]:List Value).toArray } } (.ref S) "set" := ⟨_,M,rfl⟩
 have q6:(s.heap.push { cls:=.type "list",data:=.seq ([]:List Value).toArray }).get? s.heap.objs.size=some { cls:=.type "list",data:=.seq ([]:List Value).toArray }:=Aq _ rfl;have h1:CK (.ref s.heap.objs.size) (.ref S)=false:=by simp only[CK,beq_eq_false_iff_ne];exact BC B
 show Ap _ A.in1 (B5 (.ref s.heap.objs.size) (.ref S) (.ref s.heap.objs.size)) _ _ _;unfold B5;refine Aa (EI w3 ?_);rw[if_neg (by rw[h1];decide)];refine Aa (aJS T M ?_);refine Aa (BA ?_);have q5:((s.heap.push { cls:=.type "list",data:=.seq ([]:List Value).toArray }).push (jP w S ep ps 0)).get? S=some (aV w xs ep m ps mv):=Ab _ M;have L:GN { s with heap:=(s.heap.push { cls:=.type "list",data:=.seq ([]:List Value).toArray }).push (jP w S ep ps 0) } (.ref S) "set" := ⟨_,q5,rfl⟩
 unfold Dk;refine Aa (Ez L PySem.F.slot_set_len.lookup ?_);generalize hid:("set.__len__" : String)=id0
 wp_delta
 rw[show splitId id0=some ("set", "__len__") from by subst hid;decide +kernel];subst hid;refine Aa (Dt (b:=true) L (by rw[G1];kernel_rfl) ?_);rw[if_neg (by decide)];dsimp only;rw[if_pos (by decide +kernel)];refine Aa (EI L ?_);refine Af ?_;rw[if_pos (by decide +kernel)];refine Aa (DW ?_);unfold JF;have q0:((s.heap.push { cls:=.type "list",data:=.seq ([]:List Value).toArray }).push (jP w S ep ps 0)).get? s.heap.objs.size=some { cls:=.type "list",data:=.seq ([]:List Value).toArray }:=Ab _ q6;refine Aa (Aa (Ek (f:=λx=>x.push AZ) q0 rfl ?_));have q1:=Gf (c:= "list") (xs:=#[]) (n:=0) q0 (λx=>x.push AZ);refine Ek (f:=λx=>x.pop) q1 rfl ?_;have q7:=Gf q1 (λx=>x.pop);have Z:(s.heap.push { cls:=.type "list",data:=.seq ([]:List Value).toArray }).objs.size=s.heap.objs.size+1:=size_push' _ _;have W:((s.heap.push { cls:=.type "list",data:=.seq ([]:List Value).toArray }).push (jP w S ep ps 0)).get? (s.heap.push { cls:=.type "list",data:=.seq ([]:List Value).toArray }).objs.size=some (jP w S ep ps 0):=Aq _ rfl;rw[Z] at W ⊢;have keep:∀b o,b≠s.heap.objs.size->((s.heap.push { cls:=.type "list",data:=.seq ([]:List Value).toArray }).push (jP w S ep ps 0)).get? b=some o->((((s.heap.push { cls:=.type "list",data:=.seq ([]:List Value).toArray }).push (jP w S ep ps 0)).update s.heap.objs.size (B1 λx=>x.push AZ)).update s.heap.objs.size (B1 λx=>x.pop)).get? b=some o:=λb o hb e=>by rw[EF _ _ _ _ hb,EF _ _ _ _ hb];exact e
 have q8:S≠s.heap.objs.size+1:=λz=>Dp.mpr (CW _) (z▸B);have q9:s.heap.objs.size∉[s.heap.objs.size+1,S]:=λhm=>by rcases Ao.mp hm with z|z;exact absurd z (by omega);rw[<-A3.mp z] at B;exact AN _ B
 have q4:ps.length<=18:=by rw[T.len];exact T.few
 refine Af ⟨D6 CM _,codeAny_extend_loopS (aHs (A:=A.in1) (ep:=ep) (I:=s.heap.objs.size+1) hh T q8).toS (AX q4 (by decide)) _ q9 _ ps.length 0 _ #[] 2 (JG _) (AW _) ⟨keep _ _ (by omega) W,keep _ _ (Az B) q5⟩ q7 (ItemsOf.nil _) λG U c' hm q2 q3=>?_⟩;show Ap _ A (load s.heap.objs.size >>= _) _ _ G;refine Aa (wpAny_load q2 ?_);refine Af (hQ G U.toList (λb o e=>?_) ?_ ?_);have hb:b<s.heap.objs.size:=Am e;refine hm.heap b o (λz=>?_) (keep b o (Az hb) (Ab _ (Ab _ e)));rcases Ao.mp z with z|z;exact Az hb z;exact Dp.mpr (CW _) (A3.mp z▸hb);obtain⟨h',g',d',w5,w4⟩:=G;have eg:g'=s.gens:=hm.gens;have ed:d'=s.drawn:=hm.drawn;have eo:w4=s.os:=hm.os;subst eg;subst ed;subst eo;exact⟨Am q2,w5,h',rfl⟩;exact aAs (P:=λi v=>∃e,(mU w S ep (bE xs))[i]? = some e/\v=e.2) (λi v ⟨e,he,hv⟩=>⟨e,by rw[B2];exact he,hv⟩) q3 (by rw[AM,iV,aY,T.len])
end
end L2
namespace L2
open PySem PySem.Spec PyProof.Rows PySem.W
set_option maxRecDepth 100000
noncomputable def okT{α:Type}(n:Nat)(o:Nat->Nat->Bool):KasT α->(α->Prop)->Prop
 | .ret a,P=>P a|.ask i j k,P=>i<n/\j<n/\okT n o (k (o i j)) P
section
variable {n:Nat} {o:Nat->Nat->Bool} {α β:Type}
theorem eH{f:α->KasT β}{P:β->Prop}:∀t:KasT α,okT n o t (λa=>okT n o (f a) P)->okT n o (t.bind f) P
 | .ret _,h=>h|.ask i j k,h=>⟨h.1,h.2.1,eH (k (o i j)) h.2.2⟩
theorem dB{P l:α->Prop}(B:∀a,P a->l a):∀t:KasT α,okT n o t P->okT n o t l
 | .ret a,h=>B a h|.ask i j k,h=>⟨h.1,h.2.1,dB B (k (o i j)) h.2.2⟩
theorem aCs{cmp:Nat->Nat->(Bool->Ad->Prop)->Ad->Prop}{Q:α->Ad->Prop}{P:α->Prop}{s:Ad}(l:∀i j C,i<n->j<n->C (o i j) s->cmp i j C s)(B:∀a,P a->Q a s):∀t:KasT α,okT n o t P->t.kasWp cmp Q s
 | .ret a,h=>B a h|.ask i j k,h=>l i j _ h.1 h.2.1 (aCs l B (k (o i j)) h.2.2)
structure Lin (n:Nat) (o:Nat->Nat->Bool):Prop where
 tr:∀i j k,i<n->j<n->k<n->o i j=true->o j k=true->o i k=true
 tot:∀i j,i<n->j<n->i≠j->o i j=false->o j i=true
 as:∀i j,i<n->j<n->o i j=true->o j i=false
abbrev Pmo(n:Nat)(p:Array Nat):Prop:=p.toList.Perm (AD n)
noncomputable def rl(o:Nat->Nat->Bool)(p:Array Nat)(i j:Nat):Bool:=o (p.getD i 0) (p.getD j 0)
variable {p:Array Nat}
theorem Pmo.size(h:Pmo n p):p.size=n:=by rw[<-AM,h.length_eq,Bp]
theorem Pmo.at(h:Pmo n p){i:Nat}(hi:i<n):p[i]? = some (p.getD i 0):=by have:=h.size;rw[AF,Bk (by omega)];rfl
theorem Pmo.lt(h:Pmo n p){i:Nat}(hi:i<n):p.getD i 0<n:=by have e:=h.at hi;rw[<-B2] at e;exact AQ.mp (h.mem_iff.mp (mG e))
theorem Pmo.ne(h:Pmo n p){i j:Nat}(hi:i<n)(I:j<n)(l:i≠j):p.getD i 0≠p.getD j 0:=by have B:=h.at hi;have G:=h.at I;intro z;rw[z,<-G,<-B2,<-B2] at B;have nd:=h.nodup_iff.mpr F7;have:=h.size;exact l ((DS (by rw[AM];omega) nd).mp B)
variable (L:Lin n o)
theorem xU(L:Lin n o)(h:Pmo n p){i j k:Nat}(hi:i<n)(l:j<n)(B:k<n):rl o p i j=true->rl o p j k=true->rl o p i k=true:=L.tr _ _ _ (h.lt hi) (h.lt l) (h.lt B)
theorem aCt(L:Lin n o)(h:Pmo n p){i j:Nat}(hi:i<n)(B:j<n)(l:i≠j):rl o p i j=false->rl o p j i=true:=L.tot _ _ (h.lt hi) (h.lt B) (h.ne hi B l)
noncomputable def Srt(o:Nat->Nat->Bool)(p:Array Nat)(b:Nat):Prop:=∀i j,i<j->j<b->rl o p i j=true
noncomputable def Dsc(o:Nat->Nat->Bool)(p:Array Nat)(b:Nat):Prop:=∀i j,i<j->j<b->rl o p j i=true
theorem Srt.succ(L:Lin n o)(h:Pmo n p){b:Nat}(hb:1<=b)(B:b<n)(s:Srt o p b)(e:rl o p (b-1) b=true):Srt o p (b+1):=λi j l G=>by
 rcases Bh j b with z|z;exact s i j l z;obtain rfl:j=b:=by omega
 rcases Bh i (j-1) with y|y;exact xU L h (by omega) (by omega) B (s i (j-1) y (by omega)) e;obtain rfl:i=j-1:=by omega
 exact e
theorem Dsc.succ(L:Lin n o)(h:Pmo n p){b:Nat}(hb:1<=b)(B:b<n)(s:Dsc o p b)(e:rl o p b (b-1)=true):Dsc o p (b+1):=λi j l G=>by
 rcases Bh j b with z|z;exact s i j l z;obtain rfl:j=b:=by omega
 rcases Bh i (j-1) with y|y;exact xU L h B (by omega) (by omega) e (s i (j-1) y (by omega));obtain rfl:i=j-1:=by omega
 exact e
theorem vM(L:Lin n o)(h:Pmo n p):∀f m,1<=m->m+f<=n->Srt o p m->okT n o (kas_asc p f m) (λr=>m<=r/\r<=m+f/\Srt o p r/\(r<m+f->rl o p r (r-1)=true))
 | 0,m,_,_,s=>⟨As _,As _,s,λz=>absurd z (by omega)⟩
 | f+1,m,h1,h2,s=>by
  refine⟨h.lt (by omega),h.lt (by omega),?_⟩;cases c:o (p.getD m 0) (p.getD (m-1) 0) with
  | true=>exact⟨As _,by omega,s,λ_=>c⟩|false=>refine dB (λr l=>⟨by omega,by omega,l.2.2.1,λz=>l.2.2.2 (by omega)⟩) _ (vM L h f (m+1) (by omega) (by omega) (s.succ L h h1 (by omega) (aCt L h (by omega) (by omega) (by omega) c)))
theorem xV(L:Lin n o)(h:Pmo n p):∀f m,1<=m->m+f<=n->Dsc o p m->okT n o (kas_desc f p m 0) (λr=>r.1=p/\r.2.2=0/\m<=r.2.1/\r.2.1<=m+f/\Dsc o p r.2.1)
 | 0,m,_,_,s=>⟨rfl,rfl,As _,As _,s⟩
 | f+1,m,h1,h2,s=>by
  refine⟨h.lt (by omega),h.lt (by omega),?_⟩;cases c:o (p.getD m 0) (p.getD (m-1) 0) with
  | true=>show okT n o (kas_desc f p (m+1) 0) _;exact dB (λr l=>⟨l.1,l.2.1,by omega,by omega,l.2.2.2.2⟩) _ (xV L h f (m+1) (by omega) (by omega) (s.succ L h h1 (by omega) c))|false=>refine⟨h.lt (by omega),h.lt (by omega),?_⟩;rw[show o (p.getD (m-1) 0) (p.getD m 0)=true from aCt L h (by omega) (by omega) (by omega) c];exact⟨rfl,rfl,As _,CQ _ _,s⟩
theorem aCu(h:Pmo n p)(i j:Nat):Pmo n (JH p i j):=(EZ.mp (mirror_perm p i j _)).trans h
theorem aEE(h:Pmo n p){b:Nat}(hb:b<=n)(s:Dsc o p b):Srt o (JH p 0 b) b:=λi j l B=>by
 have at_:∀k,k<b->(JH p 0 b).getD k 0=p.getD (b-1-k) 0:=λk G=>by rw[AF,AF];unfold JH;rw[getElem?_mirror_all (by rw[h.size];exact hb),if_pos ⟨AW _,G⟩,Nat.zero_add]
 unfold rl;rw[at_ i (by omega),at_ j B];exact s (b-1-j) (b-1-i) (by omega) (by omega)
abbrev Got(n:Nat)(o:Nat->Nat->Bool)(r:Nat×Array Nat):Prop:=1<=r.1/\r.1<=n/\Pmo n r.2/\Srt o r.2 r.1
theorem aEF(L:Lin n o)(h:Pmo n p){m:Nat}(l:1<=m)(hm:m<=n)(s:Dsc o p m):okT n o (kas_tail3 m n p) (Got n o):=
 eH _ (dB (λr B=>⟨by omega,by omega,aCu h _ _,B.2.2.1⟩) _ (vM L (aCu h 0 m) (n-m) m l (by omega) (aEE h hm s)))
theorem aCv(L:Lin n o)(h:Pmo n p)(hn:1<=n):okT n o (kas_count n p) (Got n o):=by
 unfold kas_count;refine eH _ (dB (λr B=>?_) _ (vM L h (n-1) 1 (As _) (by omega) λi j a b=>absurd b (by omega)));obtain⟨G,Z,l,I⟩:=B;by_cases c:(r==n)=true;rw[if_pos c];exact⟨G,by omega,h,l⟩;rw[if_neg c];have M:r≠n:=λz=>c (by simp[z]);have e:=I (by omega);by_cases d:r>1;rw[if_pos d];refine⟨h.lt (by omega),h.lt (by omega),?_⟩;rw[show o (p.getD 0 0) (p.getD (r-1) 0)=true from l 0 (r-1) (by omega) (by omega)];exact⟨G,by omega,h,l⟩;rw[if_neg d];obtain rfl:r=1:=by omega
 refine eH _ (dB (λr B=>?_) _ (xV L h (n-2) 2 (by omega) (by omega) λi j a b=>?_));obtain⟨U,q2,q3,q4,W⟩:=B;rw[if_neg (by omega),U];exact aEF L h (by omega) (by omega) W;obtain⟨rfl,rfl⟩:i=0/\j=1:=by omega
 exact e
theorem mV(L:Lin n o)(h:Pmo n p){k:Nat}(B:k<n)(s:Srt o p k):∀f l r,l<=r->r<=k->r-l<=f->(∀i,i<l->rl o p i k=true)->(∀i,r<=i->i<k->rl o p k i=true) ->
 okT n o (kas_place p k f l r) (λx=>x<=k/\(∀i,i<x->rl o p i k=true)/\∀i,x<=i->i<k->rl o p k i=true)
 | 0,l,r,h1,h2,h3,a,b=>⟨by omega,a,λi hi=>b i (by omega)⟩
 | f+1,l,r,h1,h2,h3,a,b=>by
  unfold kas_place;by_cases c:l ≥ r;rw[if_pos c];exact⟨by omega,a,λi hi=>b i (by omega)⟩;rw[if_neg c];refine⟨h.lt B,h.lt (by omega),?_⟩;cases d:o (p.getD k 0) (p.getD ((l+r) / 2) 0) with
  | true=>
   refine mV L h B s f _ _ (by omega) (by omega) (by omega) a λi hi G=>?_;rcases Bh ((l+r) / 2) i with z|z;exact xU L h B (by omega) (by omega) d (s _ i z G);obtain rfl:i=(l+r) / 2:=by omega
   exact d
  | false=>
   have d':rl o p ((l+r) / 2) k=true:=aCt L h B (by omega) (by omega) d;refine mV L h B s f _ _ (by omega) (by omega) (by omega) (λi hi=>?_) b;rcases Bh i ((l+r) / 2) with z|z;exact xU L h (by omega) (by omega) B (s i _ z (by omega)) d';obtain rfl:i=(l+r) / 2:=by omega
   exact d'
theorem aHt(h:Pmo n p)(k d:Nat):Pmo n (bubble p k d):=(EZ.mp (bubble_perm p k d)).trans h
theorem aEG(h:Pmo n p){k l:Nat}(W:k<n)(hl:l<=k)(s:Srt o p k)(a:∀i,i<l->rl o p i k=true)(b:∀i,l<=i->i<k->rl o p k i=true):Srt o (bubble p k (k-l)) (k+1):=λi j B Z=>by
 have at_:∀x,(bubble p k (k-l)).getD x 0=if x=l then p.getD k 0 else if l<x/\x<=k then p.getD (x-1) 0 else p.getD x 0:=λx=>by rw[AF,getElem?_bubble (by rw[h.size];exact W) _ (by omega),show k-(k-l)=l by omega];split;rw[AF];split <;> rw[AF]
 unfold rl;rw[at_ i,at_ j];by_cases G:i=l;rw[if_pos G,if_neg (by omega),if_pos ⟨by omega,by omega⟩];exact b (j-1) (by omega) (by omega);rw[if_neg G];by_cases I:l<i/\i<=k;rw[if_pos I,if_neg (by omega),if_pos ⟨by omega,by omega⟩];exact s (i-1) (j-1) (by omega) (by omega);rw[if_neg I];by_cases M:j=l;rw[if_pos M];exact a i (by omega);rw[if_neg M];by_cases U:l<j/\j<=k;rw[if_pos U];rcases Bh i (j-1) with z|z;exact s i (j-1) z (by omega);omega;rw[if_neg U];exact s i j B (by omega)
theorem aCw(L:Lin n o):∀f p k,Pmo n p->k+f=n->Srt o p k->okT n o (kas_bin f p k) (λr=>Pmo n r/\Srt o r n)
 | 0,p,k,h,e,s=>⟨h,by rw[<-e];exact s⟩
 | f+1,p,k,h,e,s=>eH _ (dB (λl hl=>aCw L f _ (k+1) (aHt h _ _) (by omega) (aEG h (by omega) hl.1 s hl.2.1 hl.2.2)) _ (mV L h (by omega) s k 0 k (AW _) (As _) (by omega) (λi hi=>absurd hi (Ca _)) λi a b=>absurd a (by omega)))
theorem aEH(L:Lin n o)(I:1<=n):okT n o (kas_sort n) (λr=>Pmo n r/\Srt o r n):=by
 unfold kas_sort;refine eH _ (dB (λr M=>?_) _ (aCv L (p:=(AD n).toArray) (DR _) I));obtain⟨G,U,l,B⟩:=M;by_cases c:r.1<n;rw[if_pos c,Nat.max_eq_left G];exact aCw L _ _ _ l (by omega) B;rw[if_neg c];obtain e:r.1=n:=by omega
 exact⟨l,by rw[<-e];exact B⟩
end
end L2
namespace L2
open PySem PySem.Spec PyProof.Rows PySem.W
open Hp (tupHs lexI)
set_option maxRecDepth 100000
theorem kR:∀{a b c:List Int},lexI a b=true->lexI b c=true->lexI a c=true
 | [],[],_,h,_=>by cases h|[],_::_,[],_,h=>by cases h|[],_::_,_::_,_,_=>rfl|_::_,[],_,h,_=>by cases h|_::_,_::_,[],_,h=>by cases h|a::as,b::bs,c::cs,h1,h2=>by unfold lexI at h1 h2 ⊢;split at h1;split at h2;rw[if_pos (by omega)];exact kR h1 h2;have:=of_decide_eq_true h2;rw[if_neg (by omega)];exact AR (by omega);have:=of_decide_eq_true h1;split at h2;rw[if_neg (by omega)];exact AR (by omega);have:=of_decide_eq_true h2;rw[if_neg (by omega)];exact AR (by omega)
theorem kU:∀a:List Int,lexI a a=false
 | []=>rfl|a::as=>by unfold lexI;rw[if_pos rfl];exact kU as
theorem mW:∀{a b:List Int},a≠b->lexI a b=false->lexI b a=true
 | [],[],h,_=>absurd rfl h|[],_::_,_,h=>by cases h|_::_,[],_,_=>rfl|a::as,b::bs,h,h1=>by unfold lexI at h1 ⊢;split at h1;rename_i e;subst e;rw[if_pos rfl];exact mW (λz=>h (by rw[z])) h1;have:=of_decide_eq_false h1;rw[if_neg (by omega)];exact AR (by omega)
theorem xW{a b:List Int}(h:lexI a b=true):lexI b a=false:=by
 cases q:lexI b a with
 | false=>rfl|true=>rw[<-kU a,<-kR h q]
theorem oW:∀{as bs:List (List Int)},as.Pairwise (lexI · ·=true)->bs.Pairwise (lexI · ·=true)->(∀x,x∈as↔x∈bs)->as=bs
 | [],[],_,_,_=>rfl|[],b::bs,_,_,h=>absurd ((h b).mpr Aj) (by simp)|a::as,[],_,_,h=>absurd ((h a).mp Aj) (by simp)|a::as,b::bs,ha,hb,h=>by
  have B:=C3.mp ha;have G:=C3.mp hb;have e:a=b:=by rcases Ao.mp ((h a).mp Aj) with q|q;exact q;rcases Ao.mp ((h b).mpr Aj) with r|r;exact r.symm;have l:=G.1 a q;rw[xW (B.1 b r)] at l;cases l
  subst e;rw[oW B.2 G.2 λx=>?_];constructor;intro q;rcases Ao.mp ((h x).mp (Ae _ q)) with rfl|r;have l:=B.1 _ q;rw[kU] at l;cases l;exact r;intro q;rcases Ao.mp ((h x).mpr (Ae _ q)) with rfl|r;have l:=G.1 _ q;rw[kU] at l;cases l;exact r
section
variable {prog:A0} {w:AH} {A:AV} {E:Value->Ad->Prop} {s:Ad}
theorem aHu{Q:Bool->Ad->Prop}{ks:List Int}{vs:List Value}(L:Ja (Eg prog w) ks vs):∀{js:List Int} {us:List Value} (G:Ja (Eg prog w) js us) (i:Nat) (l:Bool),l=decide (vs.length<us.length)->Q (lexI ks js) s->KatLex prog w A true l Q (vs.zip us) i s:=by
 induction L with
 | nil=>
  intro js us G i l I B;cases G with
  | nil=>rw[I];exact B|cons _ _=>rw[I];exact B
 | @cons k v ks vs h1 _ ih=>
  intro js us G i l I B;cases G with
  | nil=>rw[I];exact B|@cons j u js us h2 G=>
   obtain⟨M,rfl⟩:=xR h1;obtain⟨U,rfl⟩:=xR h2;rw[B9];refine kat_cons (HJ ?_);unfold lexI at B;by_cases c:k=j;rw[if_pos c] at B;rw[show(k==j)=true by simpa using c];exact kat_yes (ih G (i+1) l (by rw[I,lC,lC];simp) B);rw[if_neg c] at B;rw[show(k==j)=false by simpa using c];refine kat_no ?_;cases(true&&i==0) with
   | true=>exact oneLt_int B|false=>exact kat_one _ _ (lt_int B)
theorem aMx{x y:KA}{Q:Bool->Ad->Prop}(L:IsK prog w s.heap x)(M:IsK prog w s.heap y)(h:Q (lexI x.1 y.1) s):Ap (A2 prog w) A (keyLt' (KC true) (.ref x.2) (.ref y.2)) Q E s:=by obtain⟨o,its,n,I,_,hd,hi⟩:=L;obtain⟨o',its',n',G,_,l,B⟩:=M;exact kat_lt I hd G l (aHu hi B 0 _ (by rw[AM,AM]) h)
theorem xX:∀{us:List KA},(∀x∈us,IsK prog w s.heap x)->(∀x∈us,x.1≠[])->∃fs:List Value,KatTups s.heap (us.map λx=>A5 x.2) fs/\fs.length=us.length/\∀v∈fs,∃i t,v=G2 i t
 | [],_,_=>⟨[],KatTups.nil,rfl,λv Z=>by simp at Z⟩
 | x::us,h,hne=>by
  obtain⟨fs,I,L,M⟩:=xX (us:=us) (λy B=>h y (Ae _ B)) (λy B=>hne y (Ae _ B));obtain⟨o,its,n,W,U,hd,hi⟩:=h x Aj;cases G:x.1 with
  | nil=>exact absurd G (hne x Aj)|cons k ks=>
   rw[G] at hi;cases q:its.toList with
   | nil=>rw[q] at hi;cases hi|cons v vs=>
    rw[q] at hi;cases hi with
    | cons g1 g2=>obtain⟨t,rfl⟩:=xR g1;refine⟨.int k t::fs,KatTups.cons W U hd (by rw[<-B2,q];rfl) I,by rw[lC,lC,L],λu l=>?_⟩;rcases Ao.mp l with rfl|l;exact⟨k,t,rfl⟩;exact M u l
theorem aHv{us:List KA}(h:∀x∈us,IsK prog w s.heap x)(l:∀x∈us,x.1≠[])(hl:0<us.length){Q:SortKind->Ad->Prop}(I:Q (KC true) s):Ap (A2 prog w) A (keyKind' (us.map λx=>A5 x.2).toArray) Q E s:=by obtain⟨fs,B,M,G⟩:=xX h l;refine kat_kind (T:=.type "int") B (by omega) (λv L=>?_) (by decide) I;obtain⟨i,t,rfl⟩:=G v L;exact .now
end
set_option maxRecDepth 100000
abbrev rfs(us:List KA):List Value:=us.map λx=>A5 x.2
theorem vN{α I:Type}{f:α->I}{l ys:List I}(h:l.Perm ys):∀{xs:List α},ys=xs.map f->∃us:List α,us.Perm xs/\l=us.map f:=by
 induction h with
 | nil=>
  intro xs e;cases xs with
  | nil=>exact⟨[],DR _,rfl⟩|cons _ _=>cases e
 | @cons x l1 l2 _ ih=>
  intro xs e;cases xs with
  | nil=>cases e|cons y xs=>cases e;obtain⟨us,a,b⟩:=ih rfl;exact⟨y::us,a.cons y,by rw[b];rfl⟩
 | swap x y l=>
  intro xs e
  match xs,e with
  | a::b::xs,e=>cases e;exact⟨b::a::xs,.swap _ _ _,rfl⟩
 | trans _ _ B G=>intro xs e;obtain⟨us,a,b⟩:=G e;obtain⟨vs,c,d⟩:=B b;exact⟨vs,c.trans a,d⟩
theorem aHw{us:List KA}(nd:(us.map (·.1)).Nodup):Lin us.length λi j=>lexI (us.getD i ([],0)).1 (us.getD j ([],0)).1 where
 tr:=λi j k _ _ _ a b=>kR a b
 as:=λi j _ _ a=>xW a
 tot:=λi j hi B l h=>mW (λz=>l (by
  have e:∀x,x<us.length->(us.map (·.1))[x]? = some (us.getD x ([],0)).1:=λx G=>by rw[Ak,AJ,Ac G];rfl
  exact(DS (by rw[lM];exact hi) nd).mp (by rw[e i hi,e j B,z]))) h
theorem aCx{us:List KA}{p:Array Nat}(G:Pmo us.length p)(hs:Srt (λi j=>lexI (us.getD i ([],0)).1 (us.getD j ([],0)).1) p us.length) :
 (p.toList.map λi=>us.getD i ([],0)).Perm us/\(p.toList.map λi=>us.getD i ([],0)).Pairwise λx y=>lexI x.1 y.1=true:=by refine⟨(G.map _).trans (KS ?_),?_⟩;refine HE λi=>?_;rw[Ak];rcases Bh i us.length with q|q;rw[ED q,Ac q];show some (us.getD i ([],0))=_;rw[AJ,Ac q];rfl;rw[Ce (by rw[Bp];exact q),Ce q];rfl;rw[Di];refine Fe.mpr λi j hi B l=>?_;have I:=G.size;rw[AM] at hi B;have:=hs i j l (by omega);unfold rl at this;rw[AF,AF,Bk hi,Bk B] at this;simpa using this
section
variable {prog:A0} {w:AH} {A:AV} {E:Value->Ad->Prop} {s:Ad}
theorem sZ{a:Addr}{us:List KA}{n:Nat}{P:KP->Ad->Prop}(ho:s.heap.get? a=some (CU "list" (rfs us).toArray n))(hK:∀x∈us,IsK prog w s.heap x)(q4:∀x∈us,x.1≠[])(nd:(us.map (·.1)).Nodup)(q2:us.length<64)
 (h:∀l:List KA,l.Perm us->(l.Pairwise λx y=>lexI x.1 y.1=true)->P (.done (.ret .none)) { s with heap:=sortedHeap s.heap a (rfs us) (rfs l).toArray }) :
 Ap (A2 prog w) A (C4.«list.sort» ⟨[.ref a],[]⟩) P E s:=by
 rw[list_sort_plain];have ha:a<s.heap.objs.size:=Am ho;have B:(rfs us).length=us.length:=by rw[lM]
 refine Aa (listItems_at ho rfl ?_);refine Aa (Ek ho rfl ?_ (by rw[Al,AS];omega) (AW _));obtain⟨e1,q0⟩:∃e1,(s.heap.update a (B1 λ_=>(#[]:Array Value))).get? a=some (CU "list" #[] e1):=⟨_,Gf ho λ_=>#[]⟩
 refine Aa (Ij q0 rfl ?_);refine Aa (Gy ?_ (by show(rfs us).length<=_;rw[AS];omega));refine Aa (Jw ?_ (AW _));refine BA ?_;have keep:∀b o,b≠a->s.heap.get? b=some o->(((s.heap.update a (B1 λ_=>(#[]:Array Value))).push (CU "tuple" (rfs us).toArray 0)).push (CU "list" #[] 0)).get? b=some o:=λb o hb e=>Ab _ (Ab _ (by rw[EF _ _ _ _ hb];exact e));have L:(((s.heap.update a (B1 λ_=>(#[]:Array Value))).push (CU "tuple" (rfs us).toArray 0)).push (CU "list" #[] 0)).get? a=some (CU "list" #[] e1):=Ab _ (Ab _ q0);show Ap (A2 prog w) A _ P E { s with heap:=((s.heap.update a (B1 λ_=>(#[]:Array Value))).push (CU "tuple" (rfs us).toArray 0)).push (CU "list" #[] 0) };dsimp only;have Z:∀l:List KA,l.Perm us->(l.Pairwise λx y=>lexI x.1 y.1=true)->∀out:Array Value,out=(rfs l).toArray->P (.done (.ret .none)) { s with heap:=sortedHeap s.heap a (rfs us) out }:=λl a b out e=>e▸h l a b;by_cases I:(rfs us).toArray.size<2;rw[if_pos I,if_pos I];refine Aa (Af ?_);rw[StateT.run_pure];refine Aa (Af ?_);dsimp only;refine Aa (Ij L rfl ?_);refine Aa (Ek L rfl ?_ (AW _) (by rw[Array.size_map];show(pairsOf (rfs us)).size<=_;rw[pairsOf_size,AS];omega));simp only[bne_self_eq_false,bF,if_false];refine Af (Z us (DR _) ?_ _ ?_)
 . rw[Al,B] at I
   match us,I with
   | [],_=>exact .nil|[x],_=>exact FB _ _|_::_::_,I=>simp at I;omega
 apply FA.mp;show((pairsOf (rfs us)).map (·.2)).toList=_;rw[Array.toList_map,pairsOf_toList];exact List.map_snd_zip (As _);rw[if_neg I,if_neg I];have q1:2<=us.length:=by rw[Al,B] at I;omega
 have U:∀x∈us,IsK prog w (((s.heap.update a (B1 λ_=>(#[]:Array Value))).push (CU "tuple" (rfs us).toArray 0)).push (CU "list" #[] 0)) x:=λx hx=>by have q:=hK x hx;refine q.keep λo e=>keep x.2 o ?_ e;rintro rfl;obtain⟨o',_,_,g1,g2,_⟩:=q;rw[ho] at g1;cases g1;exact absurd (show CG "list" = CG "tuple" from g2) (by decide)
 refine Aa (aHv U q4 (by omega) ?_);refine Aa (Cy (kat_run (vs:=rfs us) (ks:=rfs us) (prog:=prog) (w:=w) (A:=A) (κ:=KC true) (s:={ s with heap:=((s.heap.update a (B1 λ_=>(#[]:Array Value))).push (CU "tuple" (rfs us).toArray 0)).push (CU "list" #[] 0) })
  (G:=λp s'=>s'={ s with heap:=((s.heap.update a (B1 λ_=>(#[]:Array Value))).push (CU "tuple" (rfs us).toArray 0)).push (CU "list" #[] 0) }/\Pmo us.length p/\Srt (λi j=>lexI (us.getD i ([],0)).1 (us.getD j ([],0)).1) p us.length)
  (Q:=λM s'=>s'={ s with heap:=((s.heap.update a (B1 λ_=>(#[]:Array Value))).push (CU "tuple" (rfs us).toArray 0)).push (CU "list" #[] 0) }/\failedOf M=none/\∃l:List KA,l.Perm us/\(l.Pairwise λx y=>lexI x.1 y.1=true)/\(arrOf M).map (·.2)=(rfs l).toArray)
  rfl (by rw[B];exact q1) (by rw[B];exact q2) (λp M s' a1 a2 a3 W=>⟨W.1,a3,_,(aCx W.2.1 W.2.2).1,(aCx W.2.1 W.2.2).2,?_⟩) ?_) ?_ λ_ _ e=>e)
 rw[kat_snds rfl a2];unfold rfs;rw[Bb];refine congrArg List.toArray (CN λi hi=>?_);have q3:i<us.length:=AQ.mp (W.2.1.mem_iff.mp hi);show(us.map λx=>A5 x.2).getD i AZ=A5 (us.getD i ([],0)).2;rw[AJ,AJ,Ak,Ac q3];rfl;rw[B];refine aCs (λi j C hi hj hC=>?_) (λp hp=>⟨rfl,hp⟩) _ (aEH (aHw nd) (by omega));unfold kas_ask;have e:∀x,x<us.length->(rfs us).getD x AZ=A5 (us.getD x ([],0)).2/\us.getD x ([],0)∈us:=λx hx=>by rw[AJ,AJ,Ak,Ac hx];exact⟨rfl,Bt hx⟩
 rw[(e i hi).1,(e j hj).1];exact aMx (U _ (e i hi).2) (U _ (e j hj).2) hC;rintro ⟨⟨⟩,M⟩ s' ⟨rfl,hf,l,g1,g2,g3⟩;dsimp only;refine Aa (Ij L rfl ?_);refine Aa (Ek L rfl ?_ (AW _) (by rw[g3,Al,lM,g1.length_eq,AS];omega));rw[hf];simp only[bne_self_eq_false,bF,if_false];exact Af (Z l g1 g2 _ g3)
theorem tB{S:Addr}{us:List KA}{Q:Value->Ad->Prop}(hh:A.handled=none)(hS:gH w s.heap S us)(hK:∀x∈us,IsK prog w s.heap x)(q1:∀x∈us,x.1≠[])
 (h:∀(h':Heap) (tk:Nat) (L:Addr) (xs:List KA) (n:Nat),s.heap.objs.size<=L->(∀b o,s.heap.get? b=some o->h'.get? b=some o)->h'.get? L=some (CU "list" (rfs xs).toArray n)->(∀x∈xs,x∈us)->(∀y∈us,y.1∈xs.map (·.1))->(xs.Pairwise λx y=>lexI x.1 y.1=true)->Q (.ref L) { s with heap:=h',toks:=tk }) :
 Ap (A2 prog w) A (call (.builtin "sorted") [.ref S]) Q E s:=by
 obtain⟨xs,m,ps,mv,ep,T,ho,r1,r2⟩:=hS;refine Calls.call_function_entry kind_sorted plain_sorted entry_sorted (args_sorted1 _) ?_;unfold C4.«sorted»;refine Aa (m:=checkCount "sorted" 1 1 _) (Af ?_);refine Aa (aCr hh T ho λs' acc Z q2 M=>?_);obtain⟨q0,tk,I,rfl⟩:=q2;obtain⟨ys,U,y2⟩:=vN (f:=λx:KA=>(tupHs x.1,A5 x.2)) (sY w S ep (bE xs)) (xs:=xs) (by unfold bE;rw[GD]);have l:acc=rfs ys:=by rw[M,y2,Bb];rfl
 subst l;have hl:ys.length<=18:=by rw[U.length_eq];exact T.few
 refine Aa (Jw ?_ (by rw[lM,AS];omega));have B:(I.push (CU "list" (rfs ys).toArray 0)).get? I.objs.size=some (CU "list" (rfs ys).toArray 0):=Aq _ rfl;have W:∀x∈ys,x∈us:=λx G=>r1 x (U.mem_iff.mp G);refine Aa (BA (Bs (s:={ s with heap:=I.push (CU "list" (rfs ys).toArray 0),toks:=tk }) slot_list_sort ⟨_,B,rfl⟩ entry_list_sort (sZ B (λx G=>(hK x (W x G)).keep λo e=>Ab _ (Z _ o e)) (λx G=>q1 x (W x G)) ((U.map _).nodup_iff.mpr T.nd) (by omega) λzs z1 z2=>⟨_,rfl,?_⟩) (args_list_sort _)));obtain⟨n,hL⟩:=sortedHeap_at (out:=(rfs zs).toArray) B;refine Af ⟨_,rfl,h _ _ I.objs.size zs n (DG q0) (λb o q=>?_) hL (λx G=>W x (z1.mem_iff.mp G)) (λy hy=>(z1.map _).mem_iff.mpr ((U.map _).mem_iff.mpr (r2 y hy))) z2⟩;have hb:b<I.objs.size:=Am (Z b o q);rw[sortedHeap_old (Az hb) (by rw[size_push'];exact BH hb)];exact Ab _ (Z b o q)
end
end L2
namespace L2
open PySem PySem.Spec PyProof.Rows PySem.W
open Hp (tupHs lexI)
set_option maxHeartbeats 4000000
section
variable {X:Cx} {pins:List (Addr×Obj)} {σ:St} {H:Hp} {s:Ad}
theorem xY(I:Inv X pins σ H s){x:KA}(h:SqT X.K H x.2 (x.1.map V.int)):IsK X.prog X.w s.heap x:=by obtain⟨its,rv,⟨o,B,l,n,hd⟩,_⟩:=I.tuple h;exact⟨o,its.toArray,n,B,l,hd,by simpa using L2.intsT_are rv⟩
end
end L2
namespace Hp
open PySem PySem.Spec PyProof.Rows L2
theorem aMy{a b:Bool}(h:(a&&b)=true):a=true/\b=true:=by simpa using h
section
variable {K:Fg} {H:Hp} {ex:Addr->Prop}
theorem oX:∀{ds:List D} {is:List Int} {xs:List V},aU ds=some is->Reps K H ex ds xs->xs=is.map V.int
 | [],is,xs,e,r=>by cases e;exact r|d::ds,is,xs,e,r=>by
  obtain⟨x,G,rfl,l,B⟩:=r;cases d with
  | int i=>
   unfold aU at e;cases q:aU ds with
   | none=>rw[q] at e;cases e|some ns=>rw[q] at e;cases e;rw[oX q B,show x=.int i from l];rfl
  | _=>cases e
theorem aAt{d:D}{is:List Int}{u:V}(e:xA d=some is)(r:Rep K H ex d u):∃b,u=.ref b/\SqT K H b (is.map V.int):=by
 cases d with
 | tup ds=>obtain⟨b,xs,B,l,G⟩:=r;rw[oX e G] at l;exact⟨b,B,l⟩|_=>cases e
theorem vO{d:D}{ds:List D}{ks:List (List Int)}(h:eV (d::ds)=some ks):∃k js,xA d=some k/\eV ds=some js/\ks=k::js:=by unfold eV at h;split at h;rename_i k js l B;cases h;exact⟨k,js,l,B,rfl⟩;cases h
theorem mX:∀{ds:List D} {ks:List (List Int)} {xs:List V},eV ds=some ks->Reps K H ex ds xs->∃us:List KA,us.map (·.1)=ks/\xs=us.map (λx=>V.ref x.2)/\∀x∈us,SqT K H x.2 (x.1.map V.int)
 | [],ks,xs,e,r=>by cases e;exact⟨[],rfl,r,λx l=>by cases l⟩|d::ds,ks,xs,e,r=>by obtain⟨x,Z,rfl,I,L⟩:=r;obtain⟨k,js,B,G,rfl⟩:=vO e;obtain⟨b,rfl,hb⟩:=aAt B I;obtain⟨us,M,U,W⟩:=mX G L;refine⟨(k,b)::us,by rw[mC,M],by rw[U];rfl,λx l=>?_⟩;rcases Ao.mp l with rfl|l;exact hb;exact W x l
theorem oY:∀{us:List KA},(∀x∈us,SqT K H x.2 (x.1.map V.int))->Reps K H ex ((us.map (·.1)).map tupK) (us.map λx=>V.ref x.2)
 | [],_=>rfl|x::us,h=>⟨.ref x.2,_,rfl,⟨x.2,x.1.map V.int,rfl,h x Aj,(by
     have:∀is:List Int,Reps K H ex (is.map D.int) (is.map V.int):=λis=>by
      induction is with
      | nil=>rfl|cons i is B=>exact⟨.int i,_,rfl,rfl,B⟩
     exact this x.1)⟩,oY λy l=>h y (Ae _ l)⟩
end
theorem insU_mem{k x:List Int}:∀{ks:List (List Int)},x∈rT k ks↔x=k\/x∈ks
 | []=>by simp[rT]|y::ys=>by unfold rT;split;simp;split;rename_i e;subst e;simp;rw[Ao,insU_mem (ks:=ys),Ao];constructor;rintro (z|z|z);exact .inr (.inl z);exact .inl z;exact .inr (.inr z);rintro (z|z|z);exact .inr (.inl z);exact .inl z;exact .inr (.inr z)
theorem oZ{k:List Int}:∀{ks:List (List Int)},ks.Pairwise (lexI · ·=true)->(rT k ks).Pairwise (lexI · ·=true)
 | [],_=>FB _ _|y::ys,h=>by
  obtain⟨l,G⟩:=C3.mp h;unfold rT;split;rename_i c;exact C3.mpr ⟨λz hz=>by
   rcases Ao.mp hz with rfl|hz;exact c;exact kR c (l z hz),h⟩
  rename_i c;split;exact h;rename_i B;refine C3.mpr ⟨λz hz=>?_,oZ G⟩;rcases insU_mem.mp hz with rfl|hz;exact mW B (by simpa using c);exact l z hz
theorem qQ{x:List Int}:∀{ks:List (List Int)},x∈ssT ks↔x∈ks
 | []=>by simp[ssT]|k::ks=>by show x∈rT k (ssT ks)↔_;rw[insU_mem,qQ (ks:=ks),Ao]
theorem tD:∀ks:List (List Int),(ssT ks).Pairwise (lexI · ·=true)
 | []=>.nil|k::ks=>oZ (tD ks)
theorem aHx{ks js:List (List Int)}(l:js.Pairwise (lexI · ·=true))(B:∀x,x∈js↔x∈ks):js=ssT ks:=oW l (tD ks) λx=>by rw[B,qQ]
theorem pA:∀us:List KA,aM (us.map λx=>V.ref x.2) (us.map λx=>A5 x.2)
 | []=>.nil|_::us=>.cons rfl (pA us)
theorem pB:∀{us:List KA} {vs:List Value},aM (us.map λx=>V.ref x.2) vs->vs=us.map λx=>A5 x.2
 | [],vs,h=>by cases h;rfl|x::us,vs,h=>by
  cases h with
  | cons l B=>rw[pB B,show _=A5 x.2 from l];rfl
section
variable {X:Cx} {P:Pg} {Γ:Ct} {n:Nat} {RT Y J:Addr->Prop} {σ:Sg} {pos:CF}
theorem aHy{ks:List (List Int)}(h:neK ks=true):∀k∈ks,k≠[]:=λk l z=>by have:=A9.mp h k l;rw[z] at this;cases this
theorem aHz(M:Mc X P Γ n){a:E}{U:Av}{f g:Str}{pf pg p2:CF}(hf:f=("sorted" : Str))(hg:bD Γ f=true)(q0:g=("set" : Str))(q1:bD Γ g=true)(ha:PE X U (WE X P n RT Y J σ a))(hp:aI U=true) :
 PE X (.Call (.Name f pf) [.Call (.Name g pg) [U] [] p2] [] pos) (WE X P n RT Y J σ (.sset a)):=by
 subst hf q0;have hu:=M.units;intro pins s σV H Q I hw;obtain⟨S,h⟩:=hw;have h:=RE.bind' (show RE (ev P (call P n) σ a >>= λx=>(match x.d with
  | .lst ds=>(match eV ds with|some ks=>R.iff (neK ks&&decide ((ssT ks).length<=18)) (R.ok (⟨.lst ((ssT ks).map tupK),true,false,[]⟩:Vl))|none=>.bad)
  | _=>.bad)) _ from h)
 obtain⟨x,ex,h⟩:=h.eq;cases hd:x.d with
 | lst ds=>
  rw[hd] at h;cases hk:eV ds with
  | none=>simp only[hk] at h;exact h.elim|some ks=>
   simp only[hk] at h;obtain⟨hc,h⟩:=h.iff;obtain⟨q3,l⟩:=aMy hc;have l:=of_decide_eq_true l;refine Bv (cJ I (M.gl hg) (M.md.blt _ (by decide +kernel)) boot_sorted ?_ (by decide +kernel) (by decide +kernel));refine Cf ?_ (aB (e:=.Call (.Name "set" pg) [U] [] p2) (es:=[]) rfl) rfl;rw[aB (e:=.Call (.Name "set" pg) [U] [] p2) (es:=[]) rfl];show Ap _ _ (Fh ((false,Cc (.Call (.Name "set" pg) [U] [] p2) X.env)::BQ pos (A6 [] X.env))) _ _ s;refine BL (Bv (cJ I (M.gl q1) (M.md.blt _ (by decide +kernel)) (show B4 "set" = some (.type "set") by kernel_rfl) ?_ (by decide +kernel) (by decide +kernel)));refine Ba (thn (bV (es:=[]) ha cU (aB hp) p2 pins s σV H (λus H1=>∃u,us=[u]/\Tk X.K H1/\Ro X.K RT Y J σ σV H H1 x u) I ⟨S,?_⟩) λus s1 ⟨vs,H1,I1,r1,u,e1,t1,ro⟩=>?_) (aB hp) rfl;rw[ex];intro u H1 t1 ro;exact⟨u,rfl,t1,ro⟩;subst e1;obtain⟨u',rfl,ru⟩:=r1.one;obtain⟨b,xs,rfl,hS,_,rr⟩:=(ro.rv S).lst hd;cases ru;obtain⟨its,r2,p,_⟩:=I1.list hS;obtain⟨us,u1,rfl,u3⟩:=mX hk rr;have hK:∀x∈us,IsK X.prog X.w s1.heap x:=λx G=>xY I1 (u3 x G);have W:∀x∈us,x.1≠[]:=λx G=>aHy q3 x.1 (by rw[<-u1];exact AA.mpr ⟨x,G,rfl⟩);refine aAq (us:=us) (I1.ok.hd M.calm) (by omega) p.isList (by rw[GD];exact pB r2) hK (ssT ks) l (λx G=>qQ.mpr (by rw[<-u1];exact AA.mpr ⟨x,G,rfl⟩)) λh' tk Z B=>?_;have I2:L2.Inv X pins σV H1 { s1 with heap:=h',toks:=tk }:=I1.kept λb o e=>B b o (Am e) e;refine CA ?_;refine tB (s:={ s1 with heap:=h',toks:=tk }) (I2.ok.hd M.calm) Z (λx G=>xY I2 (u3 x G)) W λh2 q5 L ys m hL q2 q4 y1 y2 y3=>?_;have hn:H1 L=none:=I2.hok.fresh hL;have e4:ys.map (·.1)=ssT ks:=aHx (Di.mpr y3) λz=>by rw[<-u1];constructor;intro hz;obtain⟨y,hy,rfl⟩:=AA.mp hz;exact AA.mpr ⟨y,y1 y hy,rfl⟩;intro hz;obtain⟨y,hy,rfl⟩:=AA.mp hz;exact y2 y hy
   have q6:ys.length<=18:=by rw[<-lM (f:=λx:KA=>x.1),e4];exact l
   have I3:L2.Inv X pins σV (upd H1 L (.lst (ys.map λx=>V.ref x.2))) { s1 with heap:=h2,toks:=q5 }:=I2.laid q2 hL ⟨by rw[lM,AS];omega,rfs ys,m,pA ys,q4⟩;have s3:aE H1 (upd H1 L (.lst (ys.map λx=>V.ref x.2))):=aE.new hn;refine⟨.ref L,_,I3,rfl,?_⟩;rw[<-e4] at h;exact(show Wn X RT Y J σ σV H Q (⟨.lst ((ys.map (·.1)).map tupK),true,false,[]⟩:Vl) from h) _ _ I3.tk ⟨ro.1.trans s3,by rw[if_pos rfl];exact⟨L,_,_,rfl,rfl,ro.1.free hn,aK,oY λy hy=>aE.seqT s3 (u3 y (y1 y hy))⟩⟩
 | _=>rw[hd] at h;exact h.elim
end
end Hp
noncomputable section
set_option maxHeartbeats 4000000
namespace Hp
open PySem PySem.Spec PyProof.Rows L2
section
variable {K:Fg} {H H':Hp}
theorem Rws.get:∀{dss:List (List D)} {bs:List Addr},Rws K H dss bs->dss.length=bs.length/\∀(k:Nat) (ds:List D) (c:Addr),dss[k]? = some ds->bs[k]? = some c->∃xs,H c=some (.lst xs)/\noLs ds=true/\Reps K H (λ_=>False) ds xs
 | [],_,h=>by rw[show _=[] from h];exact⟨rfl,λk ds c e=>by simp at e⟩|ds::dss,_,h=>by
  obtain⟨b,r,xs,rfl,G,I,L,M⟩:=h;obtain⟨g1,g2⟩:=Rws.get M;refine⟨by rw[lC,lC,g1],λk ds' c l B=>?_⟩;cases k with
  | zero=>cases l;cases B;exact⟨xs,G,I,L⟩|succ k=>exact g2 k ds' c l B
theorem Rws.of:∀{dss:List (List D)} {bs:List Addr},dss.length=bs.length->(∀(k:Nat) (ds:List D) (c:Addr),dss[k]? = some ds->bs[k]? = some c->∃xs,H c=some (.lst xs)/\noLs ds=true/\Reps K H (λ_=>False) ds xs)->Rws K H dss bs
 | [],bs,h,_=>by
  cases bs with
  | nil=>rfl|cons _ _=>cases h
 | ds::dss,bs,h,g=>by
  cases bs with
  | nil=>cases h|cons b r=>obtain⟨xs,G,I,L⟩:=g 0 ds b rfl rfl;exact⟨b,r,xs,rfl,G,I,L,Rws.of (by simpa using h) λk ds' c l B=>g (k+1) ds' c l B⟩
theorem Rws.reps{ex:Addr->Prop}:∀{dss:List (List D)} {bs:List Addr},Rws K H dss bs->(∀b∈bs,¬ ex b)->Reps K H ex (dss.map D.lst) (bs.map V.ref)
 | [],_,h,_=>by rw[show _=[] from h];rfl|ds::dss,_,h,f=>by obtain⟨b,r,xs,rfl,l,B,G,I⟩:=h;exact⟨.ref b,r.map V.ref,rfl,⟨b,xs,rfl,SqL.of l,f b Aj,Reps.free _ _ B G⟩,Rws.reps I λc L=>f c (Ae _ L)⟩
theorem aEI{n q:Nat}{k:Int}(h:ixN n k=some q):q<n:=by unfold ixN at h;split at h;split at h;cases h;omega;cases h;split at h;cases h;omega;cases h
end
section
variable {X:Cx} {P:Pg} {Γ:Ct} {n:Nat} {RT Y J:Addr->Prop} {σ:Sg} {pos:CF}
theorem aCy{σV:L2.St}{H:Hp}{j q:Nat}{k:Int}{dss:List (List D)}(S:Sx X.K RT Y J σ σV H)(e:σ[j]? = some (.own2 dss))(G:ixN dss.length k=some q) :
 ∃(a:Addr) (bs:List Addr) (b:Addr) (xs:List V),σV[j]? = some (some (.ref a))/\H a=some (.lst (bs.map V.ref))/\bs[q]? = some b/\L2.atI (bs.map V.ref) k=some (.ref b)/\H b=some (.lst xs)/\noLs (dss.getD q [])=true/\Reps X.K H (λ_=>False) (dss.getD q []) xs:=by
 obtain⟨a,bs,W,Z,h3,h4,h5⟩:=S.dx.at2 j dss e;obtain⟨g1,g2⟩:=h5.get;have B:=aEI G;have l:bs[q]? = some bs[q]:=Ac (by omega);have L:dss[q]? = some (dss.getD q []):=by rw[AJ,Ac B];rfl
 obtain⟨xs,g3,M,U⟩:=g2 q _ _ L l;refine⟨a,bs,bs[q],xs,W,Z,l,?_,g3,M,U⟩;have I:L2.ixN bs.length k=some q:=by rw[<-g1,<-lW];exact G
 unfold L2.atI;rw[lM,I];show(bs.map V.ref)[q]? = _;rw[Ak,l];rfl
end
end Hp
end
namespace L2
open PySem PySem.Spec PyProof.Rows
section
variable {prog:A0} {w:AH} {A:AV} {E:Value->Ad->Prop} {s:Ad} {R:GS->Ad->Prop}
theorem aEJ(hh:A.in1.handled=none){I l S:Addr}{its:Array Value}(hz:its.size<=1000000)(hI:S≠I)(hl:S≠l)(lI:l≠I)(res:Value) :
 ∀(k i:Nat) (s:Ad) (acc:Array Value) (c:Nat),i+k=its.size->s.heap.IsRevIter I l ((its.size:Int)-1-i)->s.heap.IsList l its->s.heap.get? S=some { cls:=.type "list",dict:=none,data:=.seq acc c,slots:=#[] }->acc=(its.toList.reverse.take i).toArray ->
 (∀h' c',(∀b o,b≠I->b≠S->s.heap.get? b=some o->h'.get? b=some o)->h'.get? S=some { cls:=.type "list",dict:=none,data:=.seq its.toList.reverse.toArray c',slots:=#[] }->R (.ok (.ret res)) { s with heap:=h' }) ->
 Dh (A2 prog w) A (.builtin "list.extend.loop" ⟨[.ref S,.ref I,res],[]⟩) R s:=by
 intro k
 induction k with
 | zero=>
  intro i s acc c hk L G hS W hR;have hi:i=its.size:=by omega
  refine Cr GF ?_;rw[BP CM _];show Ap _ A.in1 (Dd (.ref I) >>= _) _ _ s;have L:s.heap.IsRevIter I l (-1):=by rw[hi] at L;rw[show(-1:Int)=(its.size:Int)-1-its.size by omega];exact L
  refine Aa (wpAny_pyNext_rev_end hh L λh' Z=>Af (hR h' c (λb o U b2 e=>Z _ _ U e) ?_));have e:=Z _ _ hI hS;rw[W,hi,CZ (by simp)] at e;exact e
 | succ k ih=>
  intro i s acc c hk L G hS W hR;refine Cr GF ?_;rw[BP CM _];show Ap _ A.in1 (Dd (.ref I) >>= _) _ _ s;have q4:its.size-1-i<its.size:=by omega
  have Z:its[its.size-1-i]? = some its[its.size-1-i]:=Bk q4;have B:acc.size=i:=by rw[W];simp;omega
  have e0:((its.size:Int)-1-i)=((its.size-1-i:Nat):Int):=by omega
  rw[e0] at L;refine Aa (wpAny_pyNext_rev_item L G Z λh' q5 hs=>?_);have M:h'.get? S=some { cls:=.type "list",dict:=none,data:=.seq acc c,slots:=#[] }:=hs.extBut _ _ hI hS;show Ap _ A.in1 (FC (.ref S) (·.push its[its.size-1-i]) >>= λ_=>again (.builtin "list.extend.loop" ⟨[.ref S,.ref I,res],[]⟩)) _ _ _;show Ap _ A.in1 (updateSeq S (·.push its[its.size-1-i]) >>= _) _ _ _;have up:∀b o,b≠S->h'.get? b=some o->(h'.update S (B1 (·.push its[its.size-1-i]))).get? b=some o:=λb o hb e=>(AE _ _ (λq:S=b=>hb q.symm)).trans e;refine Aa (Iv M rfl (Af ⟨D6 CM _,ih (i+1) _ (acc.push its[its.size-1-i]) _ (by omega) ?_ ?_ (Bg _ M rfl) ?_ λh2 c' k2 e2=>?_⟩)
   (by rw[B,AS];omega) (by show(acc.push _).size<=sizeLine+1;rw[Array.size_push,B,AS];omega))
  obtain⟨o,q1,q2,q3⟩:=q5;refine⟨o,up _ _ (BS hI) q1,q2,?_⟩;rw[q3];rw[show((its.size-1-i:Nat):Int)-1=(its.size:Int)-1-(i+1:Nat) by omega];obtain⟨o,q1,q2⟩:=G;exact⟨o,up _ _ (BS hl) (hs.extBut _ _ lI q1),q2⟩;rw[W];have q0:i<its.toList.reverse.length:=by simp;omega
  rw[List.take_succ_eq_append_getElem q0,List.getElem_reverse];simp;exact hR h2 c' (λb o U b2 e=>k2 b o U b2 (up b o b2 (hs.extBut _ _ U e))) e2
theorem vP:IN (.type "list_reverseiterator") "__len__" = pure none:=by rw[EA,Df];kernel_rfl
theorem aCz:IN (.type "list_reverseiterator") "__length_hint__" = pure (some (.builtin "list_reverseiterator.__length_hint__")):=by rw[EA,Df];kernel_rfl
theorem aCA:isSubtype (.type "list_reverseiterator") (.type "list_reverseiterator")=pure true:=by kernel_rfl
theorem aEK{I:Addr}{Q:Bool->Ad->Prop}(l:s.TypeIs (.ref I) "list_reverseiterator")(h:Q false s):Ap (A2 prog w) A (Dk (.ref I)) Q E s:=by unfold Dk;refine Aa (Ez l vP ?_);show Ap _ A (specialOf (A5 I) (Cv "__length_hint__") >>= _) _ _ _;refine Aa (Ez l aCz ?_);show Ap _ A (isInstance (.ref I) (.type "list_reverseiterator") >>= _) _ _ _;refine Aa (Dt (T:= "list_reverseiterator") (b:=true) l aCA ?_);exact Af h
theorem aAu(hh:A.in1.handled=none){I l S:Addr}{its:Array Value}(hz:its.size<=1000000)(Z:S≠I)(hl:S≠l)(lI:l≠I)(res:Value)(B:Nat)
 (W:s.heap.IsRevIter I l ((its.size:Int)-1)) (U:s.heap.IsList l its) (hS:s.heap.get? S=some { cls:=.type "list",data:=.seq #[] B })
 (hR:∀h' G,(∀b o,b≠I->b≠S->s.heap.get? b=some o->h'.get? b=some o)->h'.get? S=some { cls:=.type "list",dict:=none,data:=.seq its.toList.reverse.toArray G,slots:=#[] }->R (.ok (.ret res)) { s with heap:=h' }) :
 Ap (A2 prog w) A.in1 (B5 (.ref S) (.ref I) res)
  (λM L=>match M with|.done f=>R (.ok f) L|.again G=>G.quiet=true/\Dh (A2 prog w) A G R L) (λe L=>R (.error e) L) s:=by
 have hT:s.TypeIs (.ref I) "list_reverseiterator" := W.typeIs;unfold B5;refine Aa (EI hT ?_);have e1:CK (.ref S) (.ref I)=false:=by simp[CK,Z]
 have e2:(CG "list_reverseiterator" == CG "list")=false:=by decide
 have e3:(CG "list_reverseiterator" == CG "tuple")=false:=by decide
 simp only[e1,e2,e3,Jm,bF,if_false];refine Aa (wpAny_pyIter_revIter W ?_);refine Aa (BA ?_);refine aEK hT ?_;exact Af ⟨D6 CM _,aEJ hh hz Z hl lI res its.size 0 s #[] B (by omega) (by simpa using W) U hS rfl hR⟩
theorem aEL{I l:Addr}{its:Array Value}{Q:Value->Ad->Prop}(hh:A.handled=none)(hz:its.size<=1000000)(lI:l≠I)(hr:s.heap.IsRevIter I l ((its.size:Int)-1))(L:s.heap.IsList l its)
 (hQ:∀h' W,(∀b o,b≠I->s.heap.get? b=some o->h'.get? b=some o)->h'.get? s.heap.objs.size=some { cls:=.type "list",dict:=none,data:=.seq its.toList.reverse.toArray W,slots:=#[] }->Q (.ref s.heap.objs.size) { s with heap:=h' }) :
 Ap (A2 prog w) A (call (.type "list") [.ref I]) Q E s:=by
 refine callType_codes (Q₁:=λobj B=>obj=.ref s.heap.objs.size/\B={ s with heap:=s.heap.push { cls:=.type "list",data:=.seq #[] } }) F.called_list (F.typeCall_list_1 _) F.entry_list_init
  (code_list_new _ ⟨rfl,rfl⟩) λobj B M=>?_
 obtain⟨rfl,rfl⟩:=M;have U:(s.heap.push { cls:=.type "list",data:=.seq #[] }).get? s.heap.objs.size=some { cls:=.type "list",data:=.seq #[] }:=Aq _ rfl;refine⟨⟨_,U,rfl⟩,F.args_list_init_2 _ _,?_⟩;have nI:s.heap.objs.size≠I:=λz=>by obtain⟨o,q,_⟩:=hr;rw[<-z] at q;exact absurd (Am q) (AN _)
 have nl:s.heap.objs.size≠l:=λz=>by obtain⟨o,q,_⟩:=L;rw[<-z] at q;exact absurd (Am q) (AN _)
 show Ap _ A.in1.in1 (FW (.ref s.heap.objs.size) >>= λJ=>FC (.ref s.heap.objs.size) (λ_=>#[]) >>= λ_=>letGo J.toList.reverse >>= λ_=>B5 (.ref s.heap.objs.size) (.ref I) .none) _ _ _;refine Aa ?_;unfold FW;refine Aa (BI U rfl (Af ?_));show Ap _ A.in1.in1 (updateSeq s.heap.objs.size (λ_=>#[]) >>= λ_=>letGo (#[]:Array Value).toList.reverse >>= λ_=>B5 (.ref s.heap.objs.size) (.ref I) .none) _ _ _;refine Aa (Iv U rfl ?_);have g2:=Bg (B1 (λ_=>(#[]:Array Value))) U rfl;have G:∀b o,b≠s.heap.objs.size->s.heap.get? b=some o->((s.heap.push { cls:=.type "list",data:=.seq #[] }).update s.heap.objs.size (B1 (λ_=>(#[]:Array Value)))).get? b=some o:=λb o hb e=>(AE _ _ (BS hb)).trans (Ab _ e);refine Aa (Fm ?_);refine aAu (A:=A.in1) hh hz nI nl lI .none _ ?_ ?_ g2 λh' W k e=>⟨rfl,hQ h' W (λb o b1 q=>k b o b1 (Az (Am q)) (G b o (Az (Am q)) q)) e⟩
 obtain⟨o,Z,q2,q3⟩:=hr;exact⟨o,G _ _ (BS nI) Z,q2,q3⟩;obtain⟨o,Z,q2⟩:=L;exact⟨o,G _ _ (BS nl) Z,q2⟩
end
section
variable {X:Cx}
noncomputable def tRv(K:An)(ta:TE):TE:=λσ H Q=>ta σ H λv H1=>∃l xs,v=.ref l/\SqL K H1 l xs/\xs.length<=1000000/\∀a,H1 a=none->Q (.ref a) (upd H1 a (.lst xs.reverse))
theorem vQ:B4 "list" = some (.type "list"):=by kernel_rfl
theorem aAv:B4 "reversed" = some (.type "reversed"):=by kernel_rfl
theorem aHA{a:Av}{ta:TE}{p M pos B:CF}(U:Gl X "list")(W:X.mg "list" = none)(hg:Gl X "reversed")(hm:X.mg "reversed" = none)(hc:X.calm=true)(ha:PE X a ta)(hs:A6 [a] X.env=[(false,Cc a X.env)])
 (L:A6 [.Call (.Name "reversed" M) [a] [] B] X.env=[(false,Cc (.Call (.Name "reversed" M) [a] [] B) X.env)]) :
 PE X (.Call (.Name "list" p) [.Call (.Name "reversed" M) [a] [] B] [] pos) (tRv X.K ta):=by
 intro pins s σ H Q I h;refine JT (cJ I U W vQ (Ba ?_ (by rw[L];rfl) rfl));rw[L];show Ap _ _ (Fh ((false,Cc (.Call (.Name "reversed" M) [a] [] B) X.env)::BQ pos (A6 [] X.env))) _ _ s;refine BL (JT (cJ I hg hm aAv (Ba ?_ (by rw[hs];rfl) rfl)));rw[hs];show Ap _ _ (Fh ((false,Cc a X.env)::BQ B (A6 [] X.env))) _ _ s;refine BL (thn (ha pins s σ H _ I h) λu s1 ⟨v,H1,G,r,l,xs,e,hq,hz,q⟩=>CA ?_);subst e;cases r;obtain⟨its,ra,pa,_⟩:=G.list hq;have la:=ra.length;refine call_reversed_list (items:=its.toArray) pa.isList (CA ?_);have I2:Inv X pins σ H1 { s1 with heap:=s1.heap.push (revObj l ((its.toArray.size:Int)-1)),toks:=s1.toks }:=G.kept λb o e=>Ab _ e;have lt:l<s1.heap.objs.size:=by obtain⟨o,Z,_⟩:=pa.isList;exact Am Z
 refine aEL (s:={ s1 with heap:=s1.heap.push (revObj l ((its.toArray.size:Int)-1)) }) (l:=l) (its:=its.toArray) (G.ok.hd hc) (by rw[Al];omega) (Az lt) ⟨_,Aq _ rfl,rfl,rfl⟩ ?_ λh' c' k e=>?_;obtain⟨o,Z,q2⟩:=pa.isList;exact⟨o,Ab _ Z,q2⟩;refine⟨.ref _,_,G.laid (h':=h') (t':=s1.toks) (a:=(s1.heap.push (revObj l ((its.toArray.size:Int)-1))).objs.size) (λb o q=>k b o (Az (Am q)) (Ab _ q)) (by rw[Bf];exact CW _) (show bQ X.prog X.w _ h' _ (.lst xs.reverse) from⟨by rw[List.length_reverse];rw[AS];omega,its.reverse,c',ra.reverse,e⟩),rfl,q _ (G.hok.fresh (by rw[Bf];exact CW _))⟩
end
end L2
noncomputable section
set_option maxHeartbeats 4000000
namespace Hp
open PySem PySem.Spec PyProof.Rows L2
section
variable {K:Fg} {RT Y J:Addr->Prop} {σ:Sg} {σV:L2.St} {H:Hp}
theorem Sx.hide{σ':Sg}{i:Nat}{dss:List (List D)}{a:Addr}{bs:List Addr}(S:Sx K RT Y J σ σV H)(e:σ[i]? = some (.own2 dss))(U:∀b∈a::bs,Pt RT J σ σV b)(hl:σ'.length=σ.length)
 (h:∀(m:Nat) (s:Sl),σ'[m]? = some s->s=.dead\/(σ[m]? = some s/\m≠i)):Sx K (λc=>RT c/\c∉a::bs) Y J σ' σV H where
 sh:=λj pa d q=>by obtain⟨v,g1,g2⟩:=S.sh j pa d ((h j _ q).resolve_left λz=>by cases z).1;exact⟨v,g1,g2.weak λc z=>z.imp (·.1) id⟩
 own:=λj pa ds q=>by have q:=((h j _ q).resolve_left λz=>by cases z).1;obtain⟨c,xs,g1,g2,g3,L,M⟩:=S.own j pa ds q;exact⟨c,xs,g1,g2,⟨g3,λz=>(U c z).2.2 j pa ds q g1⟩,L,M.weak λc z=>z.imp (·.1) id⟩
 trk:=λc z=>S.trk c (z.imp (·.1) id)
 yo:=S.yo
 tk:=S.tk
 rt:=λc z=>S.rt c z.1
 inj:=λj G pa pa' ds ds' c l B=>S.inj j G pa pa' ds ds' c ((h j _ l).resolve_left λz=>by cases z).1 ((h G _ B).resolve_left λz=>by cases z).1
 len:=by rw[hl];exact S.len
 dx:={
  at2:=λj dd q=>by
   obtain⟨l,B⟩:=(h j _ q).resolve_left λz=>by cases z
   exact absurd (S.dx.one j i dd dss l e) B
  one:=λj G dd I q W=>by
   obtain⟨l,B⟩:=(h j _ q).resolve_left λz=>by cases z
   exact absurd (S.dx.one j i dd dss l e) B }
theorem Sx.putSh{i:Nat}{pa:Bool}{d:D}{v:V}(S:Sx K RT Y J (σ.set i .dead) σV H)(M:σV[i]? = some (some v))(r:Rep K H (λa=>RT a\/exB Y J pa a) d v):Sx K RT Y J (σ.set i (.sh pa d)) σV H:=by
 have o:∀{j:Nat} {s:Sl},(σ.set i (.sh pa d))[j]? = some s->(j=i/\s=.sh pa d)\/(σ.set i .dead)[j]? = some s:=λ{j s} q=>by
  rcases set_some q with⟨rfl,z,_⟩|⟨n,q⟩
  exact .inl ⟨rfl,z.symm⟩;exact .inr (by rw[Ah n];exact q)
 exact {
  sh:=λj l dd q=>by rcases o q with⟨rfl,z⟩|q;cases z;exact⟨v,M,r⟩;exact S.sh j l dd q
  own:=λj l dd q=>by rcases o q with⟨_,z⟩|q;cases z;exact S.own j l dd q
  trk:=S.trk
  yo:=S.yo
  tk:=S.tk
  rt:=S.rt
  inj:=λj G pa pa' ds ds' c W Z=>S.inj j G pa pa' ds ds' c ((o W).resolve_left λz=>by cases z.2) ((o Z).resolve_left λz=>by cases z.2)
  len:=by have:=S.len;rw[Ay] at this ⊢;exact this
  dx:={
   at2:=λj dd q=>by obtain⟨p,xs,g1,g2,g3,I,L⟩:=S.dx.at2 j dd ((o q).resolve_left λz=>by cases z.2);exact⟨p,xs,g1,g2,λb hb=>⟨(g3 b hb).1,(g3 b hb).2.1,λk l ds q=>(g3 b hb).2.2 k l ds ((o q).resolve_left λz=>by cases z.2)⟩,I,L⟩
   one:=λj G dd B q U=>S.dx.one j G dd B ((o q).resolve_left λz=>by cases z.2) ((o U).resolve_left λz=>by cases z.2) } }
theorem Sx.hid(S:Sx K RT Y J σ σV H){i:Nat}{dss:List (List D)}(e:σ[i]? = some (.own2 dss)):∃l,Sx K l Y J (σ.set i (.sh false (o2D dss))) σV H:=by
 obtain⟨a,bs,I,L,B,U,M⟩:=S.dx.at2 i dss e;have G:=S.hide (σ':=σ.set i .dead) e B (by rw[Ay]) λm s q=>by
  rcases set_some q with⟨_,z,_⟩|⟨n,q⟩
  exact .inl z.symm;exact .inr ⟨q,λz=>n z.symm⟩
 have out:∀b∈a::bs,¬ ((RT b/\b∉a::bs)\/exB Y J false b):=λb hb z=>by rcases z with z|z|z;exact z.2 hb;exact(B b hb).2.1 (S.yo b z);exact(B b hb).2.1 z.2
 exact⟨_,G.putSh I ⟨a,_,rfl,SqL.of L,out a Aj,M.reps λb hb=>out b (Ae _ hb)⟩⟩
end
section
variable {X:Cx} {P:Pg} {Γ:Ct} {n:Nat} {RT Y J:Addr->Prop} {σ:Sg} {pos:CF}
theorem aJT{i:Nat}{a:E}{e:Av}(M:∀RT σ,PE X e (WE X P n RT Y J σ a)):PE X e (WE X P n RT Y J σ (.hid i a)):=by intro pins s σV H Q I ⟨S,h⟩;have h:RE (match σ[i]? with|some (.own2 dss)=>(ev P (call P n) (σ.set i (.sh false (o2D dss))) a >>= λx=>R.iff (noL x.d) (R.ok (Vl.cl x.d)))|_=>.bad) _:=h;split at h;rename_i dss L;obtain⟨l,G⟩:=S.hid L;refine M l _ pins s σV H Q I ⟨G,(RE.bind' h).mono λx B u H' t r=>?_⟩;obtain⟨c,B⟩:=B.iff;exact B u H' t (Ro.cl r.1 (Rep.free x.d u c (r.rv G)));exact h.elim
theorem aJU:PE X (.Dict [] [] pos) (WE X P n RT Y J σ .emp):=(wW (pos:=pos)).imp λσV H Q t ⟨S,h⟩ p l t'=>(show Wn X RT Y J σ σV H Q (.cl (.err 0 [.non])) from h) _ _ t' (Ro.plain (aE.new l) rfl ⟨p,[],rfl,aK,λz=>exV.trk S z l,rfl⟩)
theorem aJV(M:Mc X P Γ n){a:E}{G:Av}{f g:Str}{pf pg p2:CF}(hf:f=("list" : Str))(I:bD Γ f=true)(hg:g=("reversed" : Str))(L:bD Γ g=true)(ha:PE X G (WE X P n RT Y J σ a))(U:aI G=true) :
 PE X (.Call (.Name f pf) [.Call (.Name g pg) [G] [] p2] [] pos) (WE X P n RT Y J σ (.lrv a)):=by
 subst hf hg;refine(aHA (M.gl I) (M.md.blt _ (by decide +kernel)) (M.gl L) (M.md.blt _ (by decide +kernel)) M.calm ha (aB U) rfl).imp λσV H Q t ⟨S,h⟩=>?_;have h:=RE.bind' (show RE (ev P (call P n) σ a >>= λx=>(match x.d with|.lst ds=>R.iff (noLs ds&&decide (ds.length<=lim)) (R.ok (⟨.lst ds.reverse,true,false,[]⟩:Vl))|_=>.bad)) _ from h);refine wE.one S h λx u H1 B t1 Z W=>?_;split at B;rename_i ds hd;obtain⟨c,B⟩:=B.iff;obtain⟨c1,c2⟩:=(bA _ _).mp c;have rv:=W.rv S;unfold Rv at rv;rw[hd] at rv;obtain⟨l,xs,e,q,_,r⟩:=rv;refine⟨l,xs,e,q,by rw[<-r.length];exact of_decide_eq_true c2,λp U t'=>?_⟩;have rr:∀{ds:List D} {xs:List V},noLs ds=true->Reps X.K H1 (exV RT Y J σ σV x.pa x.al) ds xs->Reps X.K H1 (exV RT Y J σ σV false []) ds.reverse xs.reverse:=by
  intro ds
  induction ds with
  | nil=>intro xs _ r;rw[show xs=[] from r];rfl|cons d ds ih=>intro xs n r;obtain⟨v,r',rfl,h1,h2⟩:=r;simp only[noLs,bA] at n;rw[DL,DL];exact(ih n.2 h2).append (.cons (Rep.free d v n.1 h1) .nil)
 have ro:=Ro.fresh (RT:=RT) (Y:=Y) (J:=J) (σ:=σ) (σV:=σV) (v:=⟨.lst ds.reverse,true,false,[]⟩) U t' rfl rfl Z (rr c1 r);exact(show Wn X RT Y J σ σV H Q ⟨.lst ds.reverse,true,false,[]⟩ from B) _ _ t' (ro.from W.1);exact B.elim
end
end Hp
end
noncomputable section
set_option maxHeartbeats 8000000
namespace Hp
open PySem PySem.Spec PyProof.Rows L2
section
variable {P:Pg} {n:Nat}
theorem tE{X:Cx}{Γ:Ct}(M:Mc X P Γ n)(scope:Da):(IA scope X.env).names=lQ Γ.sc scope.names:=by
 unfold IA lQ;simp only;refine CN λp G=>?_;obtain⟨m,k⟩:=p;have l:(X.env.scope.kind==K0)=true:=by rw[M.fk];rfl
 have B:X.env.kindOf m=Γ.sc.lookup m:=by unfold Env.kindOf;rw[M.sc]
 simp only[l,B,Ft]
abbrev chN(Γ:Ct)(tg:Av)(caps:List Nat):List Str:=eB tg++caps.filterMap λi=>Γ.N[i]?
abbrev vR(Γ:Ct)(tg:Av)(caps:List Nat)(scope:Da):Ct:={ Γ with N:=chN Γ tg caps,sc:=lQ Γ.sc scope.names,fn:=false }
structure aCB (Γ:Ct) (tg:Av) (caps:List Nat) (scope:Da) (k:Nat) (t:T):Prop where
 len:(eB tg).length=k
 lt:∀i∈caps,i<Γ.N.length
 ndc:caps.Nodup
 kind:scope.kind=.function
 nd:(chN Γ tg caps).Nodup
 cap:∀x∈caps.filterMap (λi=>Γ.N[i]?),scope.names.lookup x=some .free/\Γ.sc.lookup x=some .cell
 all:∀p∈scope.names,p.2≠.cell/\(p.2=.local->scope.names.lookup p.1=some .local)/\(p.2=.free->Γ.sc.lookup p.1=some .cell)
 tk:∀i∈tIx t,i<k
theorem qR{N:List Str}:∀{caps:List Nat},(∀i∈caps,i<N.length)->∀{j i:Nat},caps[j]? = some i->(caps.filterMap λi=>N[i]?)[j]? = N[i]?/\(caps.filterMap λi=>N[i]?).length=caps.length
 | [],_,_,_,h=>by simp at h|c::cs,hl,j,i,h=>by
  have B:N[c]? = some N[c]! := by have:=hl c Aj;simp[this]
  rw[List.filterMap_cons_some B];have l:∀i∈cs,i<N.length:=λi hi=>hl i (Ae _ hi);have len:(cs.filterMap λi=>N[i]?).length=cs.length:=by
   cases cs with
   | nil=>rfl|cons G I=>exact(qR l (j:=0) (i:=G) rfl).2
  refine⟨?_,by rw[lC,lC,len]⟩;cases j with
  | zero=>
   have e:c=i:=by simpa using h
   subst e;rw[gZ,B]
  | succ j=>rw[gS];exact(qR l (j:=j) (i:=i) (by simpa using h)).1
theorem aHB{N:List Str}{caps:List Nat}(h:∀i∈caps,i<N.length):(caps.filterMap λi=>N[i]?).length=caps.length:=by
 cases caps with
 | nil=>rfl|cons c cs=>exact(qR h (j:=0) (i:=c) rfl).2
theorem aCB.scope{X:Cx}{Γ:Ct}{tg:Av}{caps:List Nat}{scope:Da}{k:Nat}{t:T}(O:aCB Γ tg caps scope k t)(M:Mc X P Γ n):bT X scope k caps (chN Γ tg caps) where
 kind:=O.kind
 nocell:=λy B=>(O.all y B).1
 loc:=λy B e=>(O.all y B).2.1 e
 free:=λm hm=>.inl (by
  have:=(O.all _ hm).2.2 rfl;show X.env.scope.names.lookup m=_;rw[M.sc];exact this)
 len:=by rw[lA,O.len,aHB O.lt]
 cap:=λj i e=>by have hi:=O.lt i (mG e);have G:Γ.N[i]? = some Γ.N[i]:=Ac hi;have l:=(qR O.lt e).1;rw[G] at l;obtain⟨I,L⟩:=O.cap _ (mG l);refine⟨Γ.N[i],?_,by rw[M.N];exact G,I,?_⟩;show(eB tg++_)[k+j]? = _;rw[Ax (by rw[O.len];omega),O.len,Bu];exact l;show X.env.scope.names.lookup _=_;rw[M.sc];exact L
 ndp:=M.nd
theorem aCB.mc{X:Cx}{Γ:Ct}{tg:Av}{caps:List Nat}{scope:Da}{k:Nat}{t:T}(O:aCB Γ tg caps scope k t)(M:Mc X P Γ n)(C:Addr)(s₀:Ad)(H₀:Hp)(ex:List Addr) :
 Mc (bX X scope (chN Γ tg caps) C s₀ H₀ ex) P (vR Γ tg caps scope) n where
 md:=⟨M.md.fn,M.md.blt,M.md.cns,M.md.tab,M.md.obj,M.md.mkr,M.md.exc,M.md.rsd,M.md.cls⟩
 N:=rfl
 nd:=O.nd
 sc:=tE M scope
 calm:=M.calm
 room:=M.room
 own:=Iw
 st:=λx h=>.inr (by
  show(IA scope X.env).names.lookup x=_;rw[tE M scope];unfold rW at h;have h:(match (lQ Γ.sc scope.names).lookup x with|some .local=>true|some .cell=>false|_=>false)=true:=h;split at h;rename_i e;exact e;cases h;cases h)
 fk:=O.kind
 stk:=λz=>(by cases z)
theorem tF{Γ:Ct}{tt:Bool}{a b:E}{e:Av}:chkI Γ tt (.rng a b) e=oS (gR e) λp=>(p.1==("range" : Str))&&bD Γ p.1&&(match p.2 with
 | [x]=>vA a&&aL Γ b x|[x,y]=>aL Γ a x&&aL Γ b y|_=>false):=rfl
theorem tG{Γ:Ct}{tt:Bool}{a b:E}{e:Av}:chkI Γ tt (.zip a b) e=oS (gR e) λp=>(match p.2 with
 | [x,y]=>tt&&(p.1==("zip" : Str))&&bD Γ p.1&&aL Γ a x&&aL Γ b y|_=>false):=rfl
theorem pC{Γ:Ct}{tt:Bool}{a:E}{e:Av}:chkI Γ tt (.enum a) e=oS (gR e) λp=>(match p.2 with
 | [x]=>tt&&(p.1==("enumerate" : Str))&&bD Γ p.1&&aL Γ a x|_=>false):=rfl
theorem eP{Γ:Ct}{tt:Bool}{it:Hp.It}{e:Av}(h:chkI Γ tt it e=true):aI e=true:=by
 cases it with
 | seq c=>exact aF (c:=c) (by exact h)|rng a b=>rw[tF] at h;obtain⟨_,⟨_,_,rfl⟩,_⟩:=aC h;rfl|zip a b=>rw[tG] at h;obtain⟨_,⟨_,_,rfl⟩,_⟩:=aC h;rfl|enum a=>rw[pC] at h;obtain⟨_,⟨_,_,rfl⟩,_⟩:=aC h;rfl
theorem aEM{X:Cx}{e:Av}{c:E}{RT Y J:Addr->Prop}{σ:Sg}(h:tst P (call P n) σ c=.bad):PT X e (WT X P n RT Y J σ c):=λpins s σV H Q I ⟨S,l⟩=>by rw[h] at l;exact l.elim
theorem cR{a b c:Bool}(h:(a&&b&&c)=true):a=true/\b=true/\c=true:=by cases a <;> cases b <;> cases c <;> first|exact⟨rfl,rfl,rfl⟩|cases h
theorem bW{a b:Bool}(h:(a&&b)=true):a=true/\b=true:=by cases a <;> cases b <;> first|exact⟨rfl,rfl⟩|cases h
theorem nP{a b c d:Bool}(h:(a&&b&&c&&d)=true):a=true/\b=true/\c=true/\d=true:=by obtain⟨l,B,G⟩:=cR h;obtain⟨l,I⟩:=bW l;exact⟨l,I,B,G⟩
theorem tH{a b c d e:Bool}(h:(a&&b&&c&&d&&e)=true):a=true/\b=true/\c=true/\d=true/\e=true:=by obtain⟨l,B,G,I⟩:=nP h;obtain⟨l,L⟩:=bW l;exact⟨l,L,B,G,I⟩
theorem qS{Γ:Ct}{k:Nat}{caps:List Nat}{t:T}{it:Hp.It}{cond:Es}{elt:E}{e:Av}(h:aL Γ (.comp k caps t it cond elt) e=true) :
 ∃G tg l B scope pos,e=.ListComp G [⟨tg,l,B,0⟩] scope pos/\aCB Γ tg caps scope k t/\B.length<=1/\lS (vR Γ tg caps scope) t tg=true/\chkI Γ (lR tg) it l=true/\chkEs (vR Γ tg caps scope) cond B=true/\aL (vR Γ tg caps scope) elt G=true:=by
 obtain⟨⟨G,gens,scope⟩,I,g⟩:=aC h;clear h;obtain⟨pos,rfl⟩:=I;have h:=g;clear g;rcases gens with _|⟨⟨tg,l,B,as⟩,_|⟨_,_⟩⟩
 cases h;have h:(as==0&&(eB tg).length==k&&(caps.all λi=>decide (i<Γ.N.length))&&decide caps.Nodup&&scope.kind==.function&&decide (eB tg++caps.filterMap λi=>Γ.N[i]?).Nodup &&
  ((caps.filterMap λi=>Γ.N[i]?).all λx=>scope.names.lookup x==some .free&&Γ.sc.lookup x==some .cell) &&
  (scope.names.all λp=>p.2 != .cell&&(p.2 != .local||scope.names.lookup p.1==some .local)&&(p.2 != .free||Γ.sc.lookup p.1==some .cell)) &&
  ((tIx t).all λi=>decide (i<k))&&decide (B.length<=1) &&
  lS (vR Γ tg caps scope) t tg&&chkI Γ (lR tg) it l&&chkEs (vR Γ tg caps scope) cond B&&aL (vR Γ tg caps scope) elt G)=true:=by exact h
 simp only[bA,beq_iff_eq,A9,Bo,BZ,bne_iff_ne,ne_eq] at h;obtain⟨⟨⟨⟨⟨⟨⟨⟨⟨⟨⟨⟨⟨Z,I⟩,h2⟩,h3⟩,h4⟩,h5⟩,h6⟩,h7⟩,h8⟩,h9⟩,L⟩,M⟩,U⟩,W⟩:=h;subst Z;refine⟨G,tg,l,B,scope,pos,rfl,⟨I,h2,h3,h4,h5,h6,λp hp=>?_,h8⟩,h9,L,M,U,W⟩;obtain⟨⟨q1,q2⟩,q3⟩:=h7 p hp;exact⟨q1,λe=>q2.resolve_left λz=>z e,λe=>q3.resolve_left λz=>z e⟩;cases h
abbrev PEc(P:Pg)(n:Nat)(c:E):Prop:=∀{X:Cx} {Γ:Ct},Mc X P Γ n->∀{e:Av},aL Γ c e=true->∀(RT Y J:Addr->Prop) (σ:Sg),PE X e (WE X P n RT Y J σ c)
abbrev PTc(P:Pg)(n:Nat)(c:E):Prop:=∀{X:Cx} {Γ:Ct},Mc X P Γ n->∀{e:Av},aL Γ c e=true->∀(RT Y J:Addr->Prop) (σ:Sg),PT X e (WT X P n RT Y J σ c)
abbrev PWc(P:Pg)(n:Nat)(c:E):Prop:=∀{X:Cx} {Γ:Ct},Mc X P Γ n->∀{o:Ku} {xs:List Av} {pos:CF},aL Γ c (.BoolOp o xs pos)=true->∀(RT Y J:Addr->Prop) (σ:Sg),PW X (.BoolOp o xs pos) (WT X P n RT Y J σ c)
structure Q3 (P:Pg) (n:Nat) (c:E):Prop where
 e:PEc P n c
 t:PTc P n c
 w:PWc P n c
structure QA (P:Pg) (n:Nat) (cs:Es):Prop where
 a:∀{X:Cx} {Γ:Ct},Mc X P Γ n->∀{es:List Av},chkEs Γ cs es=true->∀(RT Y J:Addr->Prop) (σ:Sg),PA X es (WA X P n RT Y J σ cs)
 o:∀{X:Cx} {Γ:Ct},Mc X P Γ n->∀{e:Option Av},chkO Γ cs e=true->∀(RT Y J:Addr->Prop) (σ:Sg),PO X e (wO X P n RT Y J σ cs)
 ts:∀{X:Cx} {Γ:Ct},Mc X P Γ n->∀{es:List Av},es.length<=1->chkEs Γ cs es=true->∀(RT Y J:Addr->Prop) (σ:Sg),PTs X es (wTs X P n RT Y J σ cs)
abbrev QI(P:Pg)(n:Nat)(it:Hp.It):Prop:=∀{X:Cx} {Γ:Ct},Mc X P Γ n->∀{tg e:Av},chkI Γ (lR tg) it e=true->∀(RT Y J:Addr->Prop) (σ:Sg),PI X tg e (wI X P n RT Y J σ it)
theorem Q3.of{c:E}(h:PEc P n c)(hd:∀σ,tst P (call P n) σ c=.bad)(l:∀{Γ:Ct} {o:Ku} {xs:List Av} {pos:CF},aL Γ c (.BoolOp o xs pos)=false):Q3 P n c:=
 ⟨h,λ{X Γ} M {e} z RT Y J σ=>aEM (hd σ),λ{X Γ} M {o xs pos} z RT Y J σ=>absurd (l.symm.trans z) bN⟩
theorem n_c{d:D}:Q3 P n (.c d):=by
 have I:∀{Γ:Ct} {e:Av},aL Γ (.c d) e=true->(∃c k p,e=.Constant c k p/\eqC d c=true)\/∃x p,e=.Name x p/\bD Γ x=true/\aX x=true/\∃d',Γ.cns.lookup x=some d'/\eqK d d'=true:=λ{Γ e} h=>by rcases(BZ _ _).mp (show(oS (asC e) (eqC d)||oS (asN e) λx=>bD Γ x&&aX x&&oB (Γ.cns.lookup x) (eqK d))=true from h) with h|h;obtain⟨c,l,g⟩:=aC h;clear h;obtain⟨k,p,rfl⟩:=l;have h:=g;clear g;exact .inl ⟨c,k,p,rfl,h⟩;obtain⟨x,l,g⟩:=aC h;clear h;obtain⟨p,rfl⟩:=l;have h:=g;clear g;obtain⟨l,B,G⟩:=cR h;obtain⟨d',Z,q2⟩:=sG G;exact .inr ⟨x,p,rfl,l,B,d',Z,q2⟩
 have k:PEc P n (.c d):=λ{X Γ} M {e} h RT Y J σ=>by
  rcases I h with⟨c,j,p,rfl,g⟩|⟨x,p,rfl,l,B,d',q,G⟩
  exact s_c g;have e:=aGZ G;subst e;obtain⟨u,v,m,r,W⟩:=M.md.cns x d q;refine(pU (M.gl l) m r (aJ B)).imp λσV H Q t ⟨S,L⟩ t'=>?_;exact(show Wn _ RT Y J σ σV H Q (Vl.cl d) from L) v H t' (Ro.val (aE.refl H) (W H))
 refine⟨k,λ{X Γ} M {e} h RT Y J σ=>?_,λ{X Γ} M {o xs pos} h RT Y J σ=>absurd h bN⟩;refine mE (k M h RT Y J σ) ?_ λp U=>U;rcases I h with⟨c,j,p,rfl,h⟩|⟨x,p,rfl,_⟩ <;> (intro _;rfl)
theorem n_v{i:Nat}:Q3 P n (.v i):=by
 have k:PEc P n (.v i):=λ{X Γ} M {e} h RT Y J σ=>by obtain⟨x,l,g⟩:=aC h;clear h;obtain⟨p,rfl⟩:=l;have h:=g;clear g;have h:aZ _ i x=true:=h;unfold aZ at h;obtain⟨l,G,B⟩:=cR h;exact s_v (by rw[M.N];exact eq_of_beq l) (M.vis G) (aJ B) (fV B)
 refine⟨k,λ{X Γ} M {e} h RT Y J σ=>?_,λ{X Γ} M {o xs pos} h RT Y J σ=>absurd h bN⟩;refine mE (k M h RT Y J σ) ?_ λp I=>RE.bind' (show RE (bU σ i >>= λx=>cV x) p from I);obtain⟨x,⟨p,rfl⟩,_⟩:=aC h;intro _;rfl
theorem aMz{o:Operator}{a b:E}(L:Q3 P n a)(hb:Q3 P n b):Q3 P n (.op o a b):=Q3.of (λ{X Γ} M {e} h RT Y J σ=>by
 obtain⟨⟨l,o',r⟩,B,g⟩:=aC h;clear h;obtain⟨p,rfl⟩:=B;have h:=g;clear g;obtain⟨B,G,I⟩:=cR h;have e:o=o':=eq_of_beq B;subst e;exact aMq (L.e M G RT Y J σ) (hb.e M I RT Y J σ)) (λ_=>rfl) rfl
theorem aJW{a:E}(G:Q3 P n a):Q3 P n (.neg a):=Q3.of (λ{X Γ} M {e} h RT Y J σ=>by
 obtain⟨⟨o,x⟩,l,g⟩:=aC h;clear h;obtain⟨p,rfl⟩:=l;have h:=g;clear g;obtain⟨l,B⟩:=bW h;have e:o=.USub:=eq_of_beq l;subst e;exact aJv (G.e M B RT Y J σ)) (λ_=>rfl) rfl
theorem aMA{a:E}(G:Q3 P n a):Q3 P n (.nt a):=by
 have B:∀{Γ:Ct} {e:Av},aL Γ (.nt a) e=true->∃x p,e=.UnaryOp .Not x p/\aL Γ a x=true:=λ{Γ e} h=>by obtain⟨⟨o,x⟩,l,g⟩:=aC h;clear h;obtain⟨p,rfl⟩:=l;have h:=g;clear g;obtain⟨l,I⟩:=bW h;have e:o=.Not:=eq_of_beq l;subst e;exact⟨x,p,rfl,I⟩
 refine⟨λ{X Γ} M {e} h RT Y J σ=>?_,λ{X Γ} M {e} h RT Y J σ=>?_,λ{X Γ} M {o xs pos} h RT Y J σ=>absurd h bN⟩;obtain⟨x,p,rfl,g⟩:=B h;exact aJw (G.e M g RT Y J σ);obtain⟨x,p,rfl,g⟩:=B h;exact eC (G.t M g RT Y J σ)
theorem xZ{Γ:Ct}{a b:E}{w:Ku}{xs:List Av}{p:CF}(h:(match xs with
 | [x,y]=>aL Γ a x&&aL Γ b y|x::y::z::r=>aL Γ a x&&aL Γ b (.BoolOp w (y::z::r) p)|_=>false)=true):∃x y r,xs=x::y::r/\aL Γ a x=true/\((r=[]/\aL Γ b y=true)\/aL Γ b (.BoolOp w (y::r) p)=true):=by
 rcases xs with _|⟨x,_|⟨y,_|⟨z,r⟩⟩⟩
 cases h;cases h;obtain⟨l,B⟩:=bW h;exact⟨x,y,[],rfl,l,.inl ⟨rfl,B⟩⟩;obtain⟨l,B⟩:=bW h;exact⟨x,y,z::r,rfl,l,.inr B⟩
theorem aMB{a b:E}(B:Q3 P n a)(hb:Q3 P n b):Q3 P n (.an a b):=by
 have I:PWc P n (.an a b):=λ{X Γ} M {o xs pos} h RT Y J σ=>by obtain⟨l,G⟩:=bW h;have e:o=.And:=eq_of_beq l;subst e;obtain⟨x,y,r,rfl,g1,g2⟩:=xZ G;rcases g2 with⟨rfl,g2⟩|g2;exact aJH (B.t M g1 RT Y J σ) (aDJ (hb.t M g2 RT Y J σ));exact aJH (B.t M g1 RT Y J σ) (hb.w M g2 RT Y J σ)
 refine⟨λ{X Γ} M {e} h RT Y J σ=>?_,λ{X Γ} M {e} h RT Y J σ=>?_,I⟩;obtain⟨⟨o,xs,pos⟩,l,g⟩:=aC h;clear h;obtain rfl:=l;have h:=g;clear g;obtain⟨l,G⟩:=bW h;have e:o=.And:=eq_of_beq l;subst e;obtain⟨x,y,r,e,g1,g2⟩:=xZ G;have e:xs=x::y::r:=e;subst e;rcases g2 with⟨rfl,g2⟩|g2;exact aJx (B.e M g1 RT Y J σ) (aAP (hb.e M g2 RT Y J σ));exact aJx (B.e M g1 RT Y J σ) (hb.e M g2 RT Y J σ);obtain⟨⟨o,xs,pos⟩,rfl,_⟩:=aC h;exact(I M h RT Y J σ).pt
theorem aJX{a b:E}(B:Q3 P n a)(hb:Q3 P n b):Q3 P n (.orr a b):=by
 have I:PWc P n (.orr a b):=λ{X Γ} M {o xs pos} h RT Y J σ=>by obtain⟨l,G⟩:=bW h;have e:o=.Or:=eq_of_beq l;subst e;obtain⟨x,y,r,rfl,g1,g2⟩:=xZ G;rcases g2 with⟨rfl,g2⟩|g2;exact aFM (B.t M g1 RT Y J σ) (aGn (hb.t M g2 RT Y J σ));exact aFM (B.t M g1 RT Y J σ) (hb.w M g2 RT Y J σ)
 refine⟨λ{X Γ} M {e} h RT Y J σ=>?_,λ{X Γ} M {e} h RT Y J σ=>?_,I⟩;obtain⟨⟨o,xs,pos⟩,l,g⟩:=aC h;clear h;obtain rfl:=l;have h:=g;clear g;obtain⟨l,G⟩:=bW h;have e:o=.Or:=eq_of_beq l;subst e;obtain⟨x,y,r,e,g1,g2⟩:=xZ G;have e:xs=x::y::r:=e;subst e;rcases g2 with⟨rfl,g2⟩|g2;exact aFL (B.e M g1 RT Y J σ) (aAP (hb.e M g2 RT Y J σ));exact aFL (B.e M g1 RT Y J σ) (hb.e M g2 RT Y J σ);obtain⟨⟨o,xs,pos⟩,rfl,_⟩:=aC h;exact(I M h RT Y J σ).pt
theorem aJY{t a b:E}(L:Q3 P n t)(I:Q3 P n a)(hb:Q3 P n b):Q3 P n (.ife t a b):=Q3.of (λ{X Γ} M {e} h RT Y J σ=>by
 obtain⟨⟨t',U,W⟩,l,g⟩:=aC h;clear h;obtain⟨p,rfl⟩:=l;have h:=g;clear g;obtain⟨l,B,G⟩:=cR h;exact aJy (L.t M l RT Y J σ) (I.e M B RT Y J σ) (hb.e M G RT Y J σ)) (λ_=>rfl) rfl
theorem aJZ{o:CmpOp}{a b:E}(U:Q3 P n a)(hb:Q3 P n b):Q3 P n (.cmp o a b):=by
 have L:∀{Γ:Ct} {e:Av},aL Γ (.cmp o a b) e=true->∃l r p,e=.Compare l [o] [r] p/\aL Γ a l=true/\aL Γ b r=true:=λ{Γ e} h=>by
  obtain⟨⟨l,os,W⟩,I,g⟩:=aC h;clear h;obtain⟨p,rfl⟩:=I;have h:=g;clear g;rcases os with _|⟨o',_|⟨_,_⟩⟩
  cases h;rcases W with _|⟨r,_|⟨_,_⟩⟩
  cases h;obtain⟨I,G,B⟩:=cR h;have e:o=o':=eq_of_beq I;subst e;exact⟨l,r,p,rfl,G,B⟩;cases h;cases h
 refine⟨λ{X Γ} M {e} h RT Y J σ=>?_,λ{X Γ} M {e} h RT Y J σ=>?_,λ{X Γ} M {o xs pos} h RT Y J σ=>absurd h bN⟩;obtain⟨l,r,p,rfl,G,B⟩:=L h;exact aJz M (U.e M G RT Y J σ) (hb.e M B RT Y J σ) (aF B);obtain⟨l,r,p,rfl,G,B⟩:=L h;exact cK M (U.e M G RT Y J σ) (hb.e M B RT Y J σ) (aF B)
theorem aHC{a:E}(W:Q3 P n a):Q3 P n (.sset a):=Q3.of (λ{X Γ} M {e} h RT Y J σ=>by
 obtain⟨⟨f,xs⟩,G,g⟩:=aC h;clear h;obtain⟨p1,p2,rfl⟩:=G;rcases xs with _|⟨s,_|⟨_,_⟩⟩
 cases g;obtain⟨⟨f2,ys⟩,⟨Z,p4,B⟩,g⟩:=aC g;have B:s=.Call (.Name f2 Z) ys [] p4:=B;subst B;obtain⟨G,I,L,U,l⟩:=tH g;rcases ys with _|⟨x,_|⟨_,_⟩⟩
 cases l;exact aHz M (eq_of_beq G) I (eq_of_beq L) U (W.e M l RT Y J σ) (aF l);cases l;cases g) (λ_=>rfl) rfl
theorem aHD{L U:CmpOp}{a b c:E}(ha:Q3 P n a)(hb:Q3 P n b)(hc:Q3 P n c):Q3 P n (.cmp2 L U a b c):=by
 have h0:∀{Γ:Ct} {e:Av},aL Γ (.cmp2 L U a b c) e=true->∃l m r p,e=.Compare l [L,U] [m,r] p/\aL Γ a l=true/\aL Γ b m=true/\aL Γ c r=true:=λ{Γ e} h=>by
  obtain⟨⟨l,os,rs⟩,W,g⟩:=aC h;clear h;obtain⟨p,rfl⟩:=W;have h:=g;clear g;rcases os with _|⟨Z,_|⟨q0,_|⟨_,_⟩⟩⟩
  cases h;cases h;rcases rs with _|⟨m,_|⟨r,_|⟨_,_⟩⟩⟩
  cases h;cases h;obtain⟨W,h2,G,I,B⟩:=tH h;have e:L=Z:=eq_of_beq W;subst e;have e:U=q0:=eq_of_beq h2;subst e;exact⟨l,m,r,p,rfl,G,I,B⟩;cases h;cases h
 refine⟨λ{X Γ} M {e} h RT Y J σ=>?_,λ{X Γ} M {e} h RT Y J σ=>?_,λ{X Γ} M {o xs pos} h RT Y J σ=>absurd h bN⟩;obtain⟨l,m,r,p,rfl,G,I,B⟩:=h0 h;exact aHb M (ha.e M G RT Y J σ) (hb.e M I RT Y J σ) (hc.e M B RT Y J σ) (aF B);obtain⟨l,m,r,p,rfl,G,I,B⟩:=h0 h;exact aHc M (ha.e M G RT Y J σ) (hb.e M I RT Y J σ) (hc.e M B RT Y J σ) (aF B)
theorem aKa{a b:E}(I:Q3 P n a)(hb:Q3 P n b):Q3 P n (.idx a b):=by
 have k:PEc P n (.idx a b):=λ{X Γ} M {e} h RT Y J σ=>by obtain⟨⟨x,i⟩,l,g⟩:=aC h;clear h;obtain⟨p,rfl⟩:=l;have h:=g;clear g;obtain⟨l,G⟩:=bW h;exact aJA (I.e M l RT Y J σ) (hb.e M G RT Y J σ) (aF G)
 refine⟨k,λ{X Γ} M {e} h RT Y J σ=>?_,λ{X Γ} M {o xs pos} h RT Y J σ=>absurd h bN⟩;refine mE (k M h RT Y J σ) ?_ λp B=>?_;obtain⟨⟨x,i⟩,⟨p,rfl⟩,_⟩:=aC h;intro _;rfl;have B:=RE.bind' (show RE (ev P (call P n) σ a >>= λx=>ev P (call P n) σ b >>= λy=>nO x y >>= λz=>cV z) p from B);show RE (ev P (call P n) σ a >>= λx=>ev P (call P n) σ b >>= λy=>nO x y) _;rw[RE.bind];refine B.mono λx L=>?_;rw[RE.bind];exact(RE.bind' L).mono λy U=>RE.bind' U
theorem aKb{a:E}{lo hi:Es}(U:Q3 P n a)(hl:QA P n lo)(W:QA P n hi):Q3 P n (.sli a lo hi):=Q3.of (λ{X Γ} M {e} h RT Y J σ=>by
 obtain⟨⟨x,i⟩,B,g⟩:=aC h;clear h;obtain⟨p,rfl⟩:=B;have h:=g;clear g;obtain⟨⟨l,u⟩,B,g⟩:=aC h;clear h;obtain⟨Z,G⟩:=B;have h:=g;clear g;have G:i=.Slice l u none Z:=G;subst G;obtain⟨B,I,L⟩:=cR h;exact aJK (U.e M B RT Y J σ) (hl.o M I RT Y J σ) (W.o M L RT Y J σ)) (λ_=>rfl) rfl
theorem aKc{es:Es}(G:QA P n es):Q3 P n (.tup es):=Q3.of (λ{X Γ} M {e} h RT Y J σ=>by
 obtain⟨xs,l,g⟩:=aC h;clear h;obtain⟨k,p,rfl⟩:=l;have h:=g;clear g;obtain⟨l,B⟩:=bW h;exact aJB (G.a M B RT Y J σ) B (of_decide_eq_true l)) (λ_=>rfl) rfl
theorem aKd{es:Es}(G:QA P n es):Q3 P n (.lst es):=Q3.of (λ{X Γ} M {e} h RT Y J σ=>by
 obtain⟨xs,l,g⟩:=aC h;clear h;obtain⟨p,rfl⟩:=l;have h:=g;clear g;obtain⟨l,B⟩:=bW h;exact aJC (G.a M B RT Y J σ) B (of_decide_eq_true l)) (λ_=>rfl) rfl
theorem aKe{j:Nat}{f:Str}:Q3 P n (.fld j f):=Q3.of (λ{X Γ} M {e} h RT Y J σ=>by
 obtain⟨⟨x,g⟩,l,h⟩:=aC h;obtain⟨p,q,rfl⟩:=l;obtain⟨k1,k2⟩:=bW h;have k2:g=f:=eq_of_beq k2;subst k2;exact aJD M (n_v.e M (e:=.Name x p) (show aL Γ (.v j) (.Name x p)=true from k1) RT Y J σ)) (λ_=>rfl) rfl
theorem aKf{j:Nat}{m:Str}{es:Es}(ha:QA P n es):Q3 P n (.mcl j m es):=by
 have k:PEc P n (.mcl j m es):=λ{X Γ} M {e} h RT Y J σ=>by
  obtain⟨⟨o,U,xs,l⟩,Z,g⟩:=aC h;clear h;obtain⟨G,I,B,hl⟩:=Z;have B:e=.Call (.Attribute o U G) xs [] I:=B;have hl:(G.endLine==I.line)=l:=hl;subst B;obtain⟨x,⟨p,W⟩,g⟩:=aC g;have W:o=.Name x p:=W;subst W;obtain⟨g,h6⟩:=bW g;obtain⟨Z,h2,h3,h4,h5⟩:=tH g;have h2:U=m:=eq_of_beq h2;subst h2;rw[show l=true from h3] at hl;have h4:=of_decide_eq_true h4;cases xs with
  | nil=>cases h5|cons y ys=>exact aJE M (n_v.e M (e:=.Name x p) (show aL Γ (.v j) (.Name x p)=true from Z) RT Y J σ) (ha.a M h6 RT Y J σ) (cH h6) h4 hl
 refine⟨k,λ{X Γ} M {e} h RT Y J σ=>?_,λ{X Γ} M {o xs pos} h RT Y J σ=>absurd h bN⟩;refine mE (k M h RT Y J σ) ?_ λp hp=>?_;obtain⟨⟨o,U,xs,l⟩,⟨G,I,B,_⟩,_⟩:=aC h;have B:e=.Call (.Attribute o U G) xs [] I:=B;subst B;intro _;rfl;have hp:=RE.bind' (show RE (bU σ j >>= λx=>evs P (call P n) σ es >>= λvs=>(match kI P m x.d with
  | some f=>call P n f (x.d::vs.map (·.d)) >>= λr=>cV (aW (x::vs) r)|none=>.bad)) p from hp)
 show RE (bU σ j >>= λx=>evs P (call P n) σ es >>= λvs=>(match kI P m x.d with
  | some f=>call P n f (x.d::vs.map (·.d)) >>= λr=>R.ok (aW (x::vs) r)|none=>.bad)) _
 rw[RE.bind];refine hp.mono λx hx=>?_;rw[RE.bind];refine(RE.bind' hx).mono λvs L=>?_;cases q:kI P m x.d with
 | none=>rw[q] at L;exact L.elim|some f=>rw[q] at L;show RE (call P n f (x.d::vs.map (·.d)) >>= λr=>R.ok (aW (x::vs) r)) _;rw[RE.bind];exact(RE.bind' L).mono λy hy=>hy
theorem aMC{j:Nat}{es:Es}(U:QA P n es):Q3 P n (.mk j es):=Q3.of (λ{X Γ} M {e} h RT Y J σ=>by
 obtain⟨⟨x,xs⟩,l,g⟩:=aC h;clear h;obtain⟨W,Z,rfl⟩:=l;obtain⟨l,G,I,L,B⟩:=tH g;cases xs with
 | nil=>cases L|cons y ys=>exact aMs M (eq_of_beq l) G I (U.a M B RT Y J σ) (cH B)) (λ_=>rfl) rfl
theorem aKg{o k:E}(ho:Q3 P n o)(hk:Q3 P n k):Q3 P n (.dgl o k):=Q3.of (λ{X Γ} M {e} h RT Y J σ=>by
 obtain⟨⟨b,m,xs,l⟩,I,g⟩:=aC h;clear h;obtain⟨ap,cp,rfl,hl⟩:=I;obtain⟨I,U,W,Z,B⟩:=tH g;rw[show l=true from U] at hl;rcases xs with _|⟨y,_|⟨z,_|⟨_,_⟩⟩⟩
 cases B;cases B;obtain⟨L,h6⟩:=bW B;obtain⟨c,⟨p3,G⟩,h7⟩:=aC h6;have G:z=.List c p3:=G;cases c with
 | nil=>subst G;exact aJF M (eq_of_beq I) hl W (ho.e M Z RT Y J σ) (hk.e M L RT Y J σ) (aF L)|cons _ _=>cases h7
 cases B) (λ_=>rfl) rfl
theorem aHE{f:Nat}{es:Es}(U:QA P n es):Q3 P n (.call f es):=by
 have k:PEc P n (.call f es):=λ{X Γ} M {e} h RT Y J σ=>by obtain⟨⟨x,xs⟩,l,g⟩:=aC h;clear h;obtain⟨p1,p2,rfl⟩:=l;have h:=g;clear g;obtain⟨l,I,L,B⟩:=nP h;exact aHa M (eq_of_beq l) I L (U.a M B RT Y J σ) (cH B) B
 refine⟨k,λ{X Γ} M {e} h RT Y J σ=>?_,λ{X Γ} M {o xs pos} h RT Y J σ=>absurd h bN⟩;refine mE (k M h RT Y J σ) ?_ λp G=>?_;obtain⟨⟨x,xs⟩,⟨p1,p2,rfl⟩,_⟩:=aC h;intro _;rfl;have G:=RE.bind' (show RE (evs P (call P n) σ es >>= λvs=>call P n f (vs.map (·.d)) >>= λr=>cV (aW vs r)) p from G);show RE (evs P (call P n) σ es >>= λvs=>call P n f (vs.map (·.d)) >>= λr=>R.ok (aW vs r)) _;rw[RE.bind];refine G.mono λx W=>?_;rw[RE.bind];exact(RE.bind' W).mono λy Z=>Z
theorem aMD{b:Bi}{es:Es}(Z:QA P n es):Q3 P n (.bi b es):=by
 have k:PEc P n (.bi b es):=λ{X Γ} M {e} h RT Y J σ=>by
  obtain⟨⟨x,xs⟩,G,g⟩:=aC h;clear h;obtain⟨p1,p2,rfl⟩:=G;have h:=g;clear g;obtain⟨h,B⟩:=bW h;obtain⟨I,L,U,W⟩:=nP h;cases xs with
  | nil=>cases W|cons y ys=>exact aMr M (eq_of_beq I) L U (Z.a M B RT Y J σ) (cH B)
 refine⟨k,λ{X Γ} M {e} h RT Y J σ=>?_,λ{X Γ} M {o xs pos} h RT Y J σ=>absurd h bN⟩;refine mE (k M h RT Y J σ) ?_ λp l=>?_;obtain⟨⟨x,xs⟩,⟨p1,p2,rfl⟩,_⟩:=aC h;intro _;rfl;have l:=RE.bind' (show RE (evs P (call P n) σ es >>= λvs=>biD b vs >>= λx=>cV x) p from l);show RE (evs P (call P n) σ es >>= λvs=>biD b vs) _;rw[RE.bind];exact l.mono λx hx=>RE.bind' hx
theorem aKh{a:E}{cs:List Cl}(ha:Q3 P n a):Q3 P n (.isi a cs):=by
 have k:PEc P n (.isi a cs):=λ{X Γ} M {e} h RT Y J σ=>by
  obtain⟨⟨f,xs⟩,G,g⟩:=aC h;clear h;obtain⟨p1,p2,rfl⟩:=G;have h:=g;clear g;rcases cs with _|⟨c,_|⟨_,_⟩⟩
  cases h;rcases xs with _|⟨x,_|⟨y,_|⟨_,_⟩⟩⟩
  cases h;cases h;obtain⟨G,Z,h3,W,l⟩:=tH h;unfold aFF at l;split at l;rename_i z p3;obtain⟨q1,q2,q3⟩:=cR l;have I:∃U,oJ c=some U:=by cases c <;> first|exact⟨_,rfl⟩|cases h3
  obtain⟨U,I⟩:=I;exact aJG M (eq_of_beq G) Z I (eq_of_beq q1) q2 q3 (ha.e M W RT Y J σ) (aF W);cases l;cases h;cases h
 refine⟨k,λ{X Γ} M {e} h RT Y J σ=>?_,λ{X Γ} M {o xs pos} h RT Y J σ=>absurd h bN⟩;refine mE (k M h RT Y J σ) ?_ λp L=>?_;obtain⟨⟨x,xs⟩,⟨p1,p2,rfl⟩,_⟩:=aC h;intro _;rfl;have L:=RE.bind' (show RE (ev P (call P n) σ a >>= λx=>(match isI cs P x.d with|some k=>R.ok k|none=>.bad)) p from L);show RE (ev P (call P n) σ a >>= λx=>(match isI cs P x.d with|some k=>R.ok (Vl.cl (.bl k))|none=>.bad)) _;rw[RE.bind];refine L.mono λx B=>?_;cases q:isI cs P x.d with
 | none=>rw[q] at B;exact B.elim|some k=>rw[q] at B;exact B
theorem aKi{a:E}{cs:List Cl}(W:Q3 P n a):Q3 P n (.isx a cs):=by
 have k:PEc P n (.isx a cs):=λ{X Γ} M {e} h RT Y J σ=>by
  obtain⟨⟨f,xs⟩,G,g⟩:=aC h;clear h;obtain⟨p1,p2,rfl⟩:=G;have h:=g;clear g;rcases xs with _|⟨x,_|⟨y,_|⟨_,_⟩⟩⟩
  cases h;cases h;obtain⟨G,U,B,l⟩:=nP h;unfold aJk at l;split at l;rename_i es tk tp;obtain⟨Z,L⟩:=bW l;obtain⟨vs,i1,i2,i3⟩:=aBV M Z;refine aBU M (eq_of_beq G) U (W.e M B RT Y J σ) (aF B) (aBd i1) rfl λσV H Q I=>?_;have L:es.length<=1000:=by simpa using L
  exact⟨by rw[i3,AS];omega,λp hp=>I _ _ (aE.new hp) (.inr ⟨p,vs,rfl,SqT.of aK,i2⟩)⟩;rename_i z zp;split at l;obtain⟨Z,L⟩:=bW l;have e:z=("ValueError" : Str):=eq_of_beq Z;subst e;exact aBU M (eq_of_beq G) U (W.e M B RT Y J σ) (aF B) (aDI (v:=.ty "ValueError") (M.gl L) (M.md.blt _ (by decide +kernel)) (by kernel_rfl) rfl (by decide +kernel) (by decide +kernel)) rfl λσV H Q I=>I _ H (aE.refl H) (.inl ⟨_,rfl,rfl⟩);obtain⟨x',p,e1,e2,g1,g2,g3⟩:=sM l;cases e2;subst e1;obtain⟨C2,q⟩:=M.md.cls _ g3;exact aBU M (eq_of_beq G) U (W.e M B RT Y J σ) (aF B) (pU (v:=.ref C2) (M.gl g1) q rfl (aJ g2)) rfl λσV H Q I=>I _ H (aE.refl H) (.inl ⟨_,rfl,g3,C2,q,rfl⟩);cases l;cases l;cases h
 exact Q3.of k (λ_=>rfl) rfl
theorem aKj:Q3 P n .emp:=Q3.of (λ{X Γ} M {e} h RT Y J σ=>by
 obtain⟨_,⟨p,rfl⟩,_⟩:=aC h;exact aJU) (λ_=>rfl) rfl
theorem aKk{a:E}(U:Q3 P n a):Q3 P n (.lrv a):=Q3.of (λ{X Γ} M {e} h RT Y J σ=>by
 obtain⟨⟨f,xs⟩,⟨p1,p2,rfl⟩,g⟩:=aC h;clear h;rcases xs with _|⟨x,_|⟨_,_⟩⟩
 cases g;obtain⟨⟨f2,ys⟩,⟨W,Z,e⟩,g⟩:=aC g;have e:x=.Call (.Name f2 W) ys [] Z:=e;subst e;obtain⟨B,G,I,L,l⟩:=tH g;rcases ys with _|⟨y,_|⟨_,_⟩⟩
 cases l;exact aJV M (eq_of_beq B) G (eq_of_beq I) L (U.e M l RT Y J σ) (aF l);cases l;cases g) (λ_=>rfl) rfl
theorem aKl{i:Nat}{a:E}(l:Q3 P n a):Q3 P n (.hid i a):=Q3.of (λ{X Γ} M {e} h RT Y J σ=>by
 obtain⟨_,⟨_,rfl⟩,g⟩:=aC h;exact aJT λRT σ=>l.e M g RT Y J σ) (λ_=>rfl) rfl
theorem aHF{k:Nat}{caps:List Nat}{t:T}{it:Hp.It}{cond:Es}{elt:E}(hi:QI P n it)(hc:QA P n cond)(he:Q3 P n elt):Q3 P n (.comp k caps t it cond elt):=Q3.of (λ{X Γ} M {e} h RT Y J σ=>by
 obtain⟨el,tg,I,q0,scope,pos,rfl,O,L,U,G,W,Z⟩:=qS h;refine aHm M (O.scope M) O.ndc O.tk (hi M G RT Y J σ) (λC s₀ H₀ ex=>?_) (fW (eP G));have B:=O.mc M C s₀ H₀ ex;exact⟨aAm B U,λRT Y J l=>hc.ts B L W RT Y J l,λRT Y J l=>he.e B Z RT Y J l⟩) (λ_=>rfl) rfl
theorem aHG{c:E}(h:∀{Γ:Ct} {e:Av},aL Γ c e=false):Q3 P n c:=
 ⟨λ{X Γ} M {e} z=>absurd (h.symm.trans z) bN,λ{X Γ} M {e} z=>absurd (h.symm.trans z) bN,λ{X Γ} M {o xs pos} z=>absurd (h.symm.trans z) bN⟩
theorem aKm:QA P n .nil:=by
 refine⟨λ{X Γ} M {es} h RT Y J σ=>?_,λ{X Γ} M {e} h RT Y J σ=>?_,λ{X Γ} M {es} hl h RT Y J σ=>?_⟩;cases es with
 | nil=>exact sJ|cons _ _=>exact nf h
 cases e with
 | none=>exact aJI|some _=>exact nf h
 cases es with
 | nil=>exact aHk|cons _ _=>exact nf h
theorem aHH{c:E}{cs:Es}(G:Q3 P n c)(hs:QA P n cs):QA P n (.cons c cs):=by
 refine⟨λ{X Γ} M {es} h RT Y J σ=>?_,λ{X Γ} M {e} h RT Y J σ=>?_,λ{X Γ} M {es} hl h RT Y J σ=>?_⟩;cases es with
 | nil=>exact nf h|cons e es=>obtain⟨l,B⟩:=bW h;exact hG (G.e M l RT Y J σ) (hs.a M B RT Y J σ) (aF l)
 cases cs with
 | nil=>cases e with|none=>exact nf h|some e=>exact aJJ (G.e M (by exact h) RT Y J σ)
 | cons _ _=>cases e <;> exact nf h
 cases es with
 | nil=>exact nf h|cons e es=>
  obtain⟨l,B⟩:=bW h;cases es with
  | nil=>cases cs with|nil=>exact aHl (G.t M l RT Y J σ)|cons _ _=>exact absurd B bN
  | cons _ _=>simp at hl
theorem aKn{c:E}(l:Q3 P n c):QI P n (.seq c):=λ{X Γ} M {tg e} h RT Y J σ=>aJL (l.e M (by exact h) RT Y J σ)
theorem aKo{a b:E}(U:Q3 P n a)(hb:Q3 P n b):QI P n (.rng a b):=λ{X Γ} M {tg e} h RT Y J σ=>by
 rw[tF] at h;obtain⟨⟨f,xs⟩,G,g⟩:=aC h;clear h;obtain⟨W,Z,rfl⟩:=G;have h:=g;clear g;obtain⟨G,I,l⟩:=cR h;rcases xs with _|⟨x,_|⟨y,_|⟨_,_⟩⟩⟩
 cases l;obtain⟨l,B⟩:=bW l;have L:a=.c (.int 0):=by unfold vA at l;split at l;rw[eq_of_beq l];cases l
 rw[L];exact aHh M (eq_of_beq G) I (hb.e M B RT Y J σ) (aF B);obtain⟨l,B⟩:=bW l;exact aHi M (eq_of_beq G) I (U.e M l RT Y J σ) (hb.e M B RT Y J σ) (aF l) (aF B);cases l
theorem aKp{a b:E}(U:Q3 P n a)(hb:Q3 P n b):QI P n (.zip a b):=λ{X Γ} M {tg e} h RT Y J σ=>by
 rw[tG] at h;obtain⟨⟨f,xs⟩,B,g⟩:=aC h;clear h;obtain⟨W,Z,rfl⟩:=B;have h:=g;clear g;rcases xs with _|⟨x,_|⟨y,_|⟨_,_⟩⟩⟩
 cases h;cases h;obtain⟨l,B,L,G,I⟩:=tH h;unfold lR at l;split at l;exact aJM M (eq_of_beq B) L (U.e M G RT Y J σ) (hb.e M I RT Y J σ) (aF G) (aF I);cases l;cases h
theorem aHI{a:E}(L:Q3 P n a):QI P n (.enum a):=λ{X Γ} M {tg e} h RT Y J σ=>by
 rw[pC] at h;obtain⟨⟨f,xs⟩,B,g⟩:=aC h;clear h;obtain⟨U,W,rfl⟩:=B;have h:=g;clear g;rcases xs with _|⟨x,_|⟨_,_⟩⟩
 cases h;obtain⟨l,B,I,G⟩:=nP h;unfold lR at l;split at l;exact aHj M (eq_of_beq B) I (L.e M G RT Y J σ) (aF G);cases l;cases h
mutual
theorem qE:(c:E)->Q3 P n c
 | .c _=>n_c|.v _=>n_v|.op _ a b=>aMz (qE a) (qE b)|.neg a=>aJW (qE a)|.nt a=>aMA (qE a)|.an a b=>aMB (qE a) (qE b)|.orr a b=>aJX (qE a) (qE b)|.ife t a b=>aJY (qE t) (qE a) (qE b)|.cmp _ a b=>aJZ (qE a) (qE b)|.fld _ _=>aKe|.mcl _ _ es=>aKf (qA es)|.mk _ es=>aMC (qA es)|.dgl o k=>aKg (qE o) (qE k)|.grp _=>aHG rfl|.sset a=>aHC (qE a)|.cmp2 _ _ a b c=>aHD (qE a) (qE b) (qE c)|.idx a b=>aKa (qE a) (qE b)|.sli a lo hi=>aKb (qE a) (qA lo) (qA hi)|.tup es=>aKc (qA es)|.lst es=>aKd (qA es)|.call _ es=>aHE (qA es)|.bi _ es=>aMD (qA es)|.isi a _=>aKh (qE a)|.isx a _=>aKi (qE a)|.emp=>aKj|.lrv a=>aKk (qE a)|.hid _ a=>aKl (qE a)|.comp _ _ _ it cond elt=>aHF (qI it) (qA cond) (qE elt)
theorem qA:(cs:Es)->QA P n cs
 | .nil=>aKm|.cons c cs=>aHH (qE c) (qA cs)
theorem qI:(it:Hp.It)->QI P n it
 | .seq c=>aKn (qE c)|.rng a b=>aKo (qE a) (qE b)|.zip a b=>aKp (qE a) (qE b)|.enum a=>aHI (qE a)
end
theorem sE(c:E):PEc P n c:=(qE c).e
theorem sT(c:E):PTc P n c:=(qE c).t
theorem sTs(cs:Es):∀{X:Cx} {Γ:Ct},Mc X P Γ n->∀{es:List Av},es.length<=1->chkEs Γ cs es=true->∀(RT Y J:Addr->Prop) (σ:Sg),PTs X es (wTs X P n RT Y J σ cs):=(qA cs).ts
theorem sI(it:Hp.It):QI P n it:=qI it
end
end Hp
end
noncomputable section
set_option maxHeartbeats 4000000
namespace Hp
open PySem PySem.Spec PyProof.Rows L2
noncomputable def cS(K:Fg)(RT Y J:Addr->Prop)(H:Hp)(σ':Sg)(Q:L2.St->Hp->Prop):Prop:=
 ∀(RT':Addr->Prop) (σV':L2.St) (H':Hp),Kp RT H H'->(∀b,RT' b->RT b\/H b=none)->Sx K RT' Y J σ' σV' H'->Q σV' H'
noncomputable def Rtv(K:Fg)(Y J:Addr->Prop)(H':Hp)(v:Vl)(u:V):Prop:=
 if v.fr=true then ∃a xs ds,u=.ref a/\v.d=.lst ds/\¬ J a/\H' a=some (.lst xs)/\Reps K H' (λb=>b=a\/exB Y J v.pa b) ds xs
 else Rep K H' (exB Y J v.pa) v.d u
noncomputable def iW(K:Fg)(RT Y J:Addr->Prop)(H:Hp)(v:Vl)(Q:VK):Prop:=∀(u:V) (H':Hp),Kp RT H H'->Tk K H'->Rtv K Y J H' v u->Q u H'
noncomputable def OE(K:Fg)(w:L2.St->Hp->D->Prop)(RT Y J:Addr->Prop)(H:Hp)(o:O)(D:Ends):Prop:=match o with|.next σ'=>cS K RT Y J H σ' D.nx|.ret v=>iW K RT Y J H v D.rt|.exc x σ'=>cS K RT Y J H σ' λσV H=>w σV H x|.bad=>False
noncomputable def wS(X:Cx)(RT Y J:Addr->Prop)(σ:Sg)(o:O):TS:=λD σV H=>Sx X.K RT Y J σ σV H/\OE X.K (XW X) RT Y J H o D
section
variable {K:Fg} {w w':L2.St->Hp->D->Prop} {RT RT' RT'' Y J:Addr->Prop} {σ:Sg} {σV:L2.St} {H H1 H2:Hp} {o:O} {D D':Ends}
theorem Kp.chain(a:Kp RT H H1)(s:∀b,RT' b->RT b\/H b=none)(b:Kp RT' H1 H2):Kp RT H H2:=λc o e n=>b c o (a c o e n) λz=>(s c z).elim n λq=>by rw[q] at e;cases e
theorem jQ(a:Kp RT H H1)(s1:∀b,RT' b->RT b\/H b=none)(s2:∀b,RT'' b->RT' b\/H1 b=none):∀b,RT'' b->RT b\/H b=none:=λb z=>by
 rcases s2 b z with q|q;exact s1 b q;by_cases l:RT b;exact .inl l;refine .inr ?_;cases e:H b with
 | none=>rfl|some o=>rw[a b o e l] at q;cases q
theorem cS.mono{σ':Sg}{Q:L2.St->Hp->Prop}(a:Kp RT H H1)(s:∀b,RT' b->RT b\/H b=none)(h:cS K RT Y J H σ' Q):cS K RT' Y J H1 σ' Q:=λB l H2 k n S=>h B l H2 (a.chain s k) (jQ a s n) S
theorem OE.mono(a:Kp RT H H1)(s:∀b,RT' b->RT b\/H b=none)(h:OE K w RT Y J H o D):OE K w RT' Y J H1 o D:=by
 cases o with
 | next σ'=>exact cS.mono a s h|ret v=>exact λu H2 k t r=>(show iW K RT Y J H v D.rt from h) u H2 (a.chain s k) t r|exc x σ'=>exact cS.mono a s h|bad=>exact h
theorem bG:∀b,RT b->RT b\/H b=none:=λ_ z=>.inl z
noncomputable def tkE(K:Fg)(D:Ends):Ends:=⟨λσ H=>Tk K H->D.nx σ H,λv H=>Tk K H->D.rt v H,λσ H=>Tk K H->D.bk σ H,λσ H=>Tk K H->D.ct σ H⟩
theorem OE.from{α:Type}{x:R α}{f:α->O}(h:OE K w RT Y J H (O.from σ x f) D):RE x λa=>OE K w RT Y J H (f a) D:=by
 cases x with
 | ok a=>exact h|exc e=>exact h|bad=>exact h
theorem OE.frX{α:Type}{x:R α}{f:α->O}(S:Sx K RT Y J σ σV H)(h:OE K w RT Y J H (O.frX σ x f) D):REx (λz=>∀H',Tk K H'->aE H H'->w σV H' z) x λa=>OE K w RT Y J H (f a) D:=by
 cases x with
 | ok a=>exact h|exc e=>exact λH' t s=>(show cS K RT Y J H σ (λσV H=>w σV H e) from h) RT σV H' (Kp.same s) bG (S.grow s t)|bad=>exact h
theorem cS.imp{σ':Sg}{Q B:L2.St->Hp->Prop}(h:cS K RT Y J H σ' Q)(f:∀σV H,Q σV H->B σV H):cS K RT Y J H σ' B:=λRT' l H' k n S=>f _ _ (h RT' l H' k n S)
theorem OE.weak(h:OE K w RT Y J H o D)(f:∀σV H x,w σV H x->w' σV H x):OE K w' RT Y J H o D:=by
 cases o with
 | exc x σ'=>exact cS.imp (Q:=λσV H=>w σV H x) h λσV H z=>f σV H x z|_=>exact h
end
section
variable {X:Cx} {st:BR} {t t':TS}
theorem aFQ{pins:List (Addr×Obj)}{D:Ends}{f:Flow}{l:Ad}(h:SP X pins (tkE X.K D) f l):SP X pins D f l:=by
 cases f with
 | next=>obtain⟨σ',H',I,q⟩:=h;exact⟨σ',H',I,q I.tk⟩|brk=>obtain⟨σ',H',I,q⟩:=h;exact⟨σ',H',I,q I.tk⟩|cont=>obtain⟨σ',H',I,q⟩:=h;exact⟨σ',H',I,q I.tk⟩|ret u=>obtain⟨v,σ',H',I,r,q⟩:=h;exact⟨v,σ',H',I,r,q I.tk⟩
theorem bP(h:PS X st t)(f:∀D σV H,Tk X.K H->t' D σV H->t (tkE X.K D) σV H):PS X st t':=λpins s σV H D I l=>thn (h pins s σV H _ I (f D σV H I.tk l)) λB G q=>aFQ q
theorem dI{l:List BR}(h:PSs X l t)(f:∀D σV H,Tk X.K H->t' D σV H->t (tkE X.K D) σV H):PSs X l t':=λpins s σV H D I B=>thn (h pins s σV H _ I (f D σV H I.tk B)) λG L q=>aFQ q
theorem qT{Y J:Addr->Prop}{l:List BR}{f:Sg->O}(h:∀RT σ,PSs X l (wS X RT Y J σ (f σ))):PSs X l (λD σV H=>∃RT σ,wS X RT Y J σ (f σ) D σV H):=λpins s σV H D I ⟨RT,σ,B⟩=>h RT σ pins s σV H D I B
end
section
variable {X:Cx} {P:Pg} {Γ:Ct} {n:Nat} {RT Y J:Addr->Prop} {σ:Sg} {pos:CF}
theorem cS.tkE{σ':Sg}{Q:L2.St->Hp->Prop}{H:Hp}(h:cS X.K RT Y J H σ' Q):cS X.K RT Y J H σ' λσ H=>Tk X.K H->Q σ H:=λB l H' k n S _=>h B l H' k n S
theorem OE.tkE{o:O}{D:Ends}{H:Hp}(h:OE X.K (XW X) RT Y J H o D):OE X.K (XW X) RT Y J H o (tkE X.K D):=by
 cases o with
 | next σ'=>exact cS.tkE h|ret v=>exact λu l k t r _=>(show iW X.K RT Y J H v D.rt from h) u l k t r|exc x σ'=>exact h|bad=>exact h
theorem aKq:PSs X [] (wS X RT Y J σ (exs P (call P n) σ .nil)):=dI wM λD σV H t ⟨S,h⟩ _=>(show cS X.K RT Y J H σ D.nx from h) RT σV H (Kp.refl RT H) bG S
theorem aHJ{s:S}{ss:Ss}{x:BR}{xs:List BR}(I:∀RT σ,PS X x (wS X RT Y J σ (ex P (call P n) σ s)))(L:∀RT σ,PSs X xs (wS X RT Y J σ (exs P (call P n) σ ss))) :
 PSs X (x::xs) (wS X RT Y J σ (exs P (call P n) σ (.cons s ss))):=by
 refine dI (iH (I RT σ) (qT L)) λD σV H t ⟨S,h⟩=>?_;have h:OE X.K (XW X) RT Y J H ((ex P (call P n) σ s).on λσ'=>exs P (call P n) σ' ss) D:=h;refine⟨S,?_⟩;cases q:ex P (call P n) σ s with
 | next σ'=>rw[q] at h;exact λl B H' k M G=>⟨l,σ',G,(OE.mono k M (show OE X.K (XW X) RT Y J H (exs P (call P n) σ' ss) D from h)).tkE⟩
 | ret v=>rw[q] at h;exact OE.tkE (D:=D) (o:=.ret v) h|exc e σ'=>rw[q] at h;exact h|bad=>rw[q] at h;exact h
theorem aKr{c:Str}{e:E}{a:Av}{np I:CF}(M:Mc X P Γ n)(Z:bD Γ c=true)(ho:aX c=true)(W:c∈Γ.rsd)(U:PE X a (WE X P n RT Y J σ e))(B:aI a=true) :
 PS X (.Raise (some (.Call (.Name c np) [a] [] I)) none pos) (wS X RT Y J σ (ex P (call P n) σ (.rse c e))):=by
 obtain⟨ab,l⟩:=M.md.rsd c W;obtain⟨C,E⟩:=M.md.exc c ab l;refine bP (aBI EV (by decide +kernel) (M.gl Z) E.bd E.ex (bV U cU (aB B)) M.calm (aFK X) (aJ ho) (aB B) (by rw[aB B];rfl)) λD σV H t ⟨S,h⟩=>?_;have h:=OE.from (show OE X.K (XW X) RT Y J H (O.from σ (ev P (call P n) σ e) λ_=>.exc (dS c) σ) D from h)
 refine wE.one S h λx u H1 hx t1 G r1=>⟨show 1<=sizeLine by rw[AS];decide,?_⟩
 obtain⟨c',L,h'⟩:=(show cS X.K RT Y J H σ (λσV H=>XW X σV H (dS c)) from hx) RT σV H1 (Kp.same r1.1) bG G;cases L;exact h' (.ref C) E.ns
theorem yA{pa:Bool}{al:List Nat}{σV:L2.St}{b:Addr}(h:exB Y J pa b):exV RT Y J σ σV pa al b:=.inr h
theorem Ro.rtv{H H':Hp}{σV:L2.St}{v:Vl}{u:V}(S:Sx X.K RT Y J σ σV H)(B:Ro X.K RT Y J σ σV H H' v u):Rtv X.K Y J H' v u:=by unfold Rtv;by_cases l:v.fr=true;rw[if_pos l];obtain⟨s,h⟩:=B;rw[if_pos l] at h;obtain⟨a,xs,ds,G,I,L,M,r⟩:=h;exact⟨a,xs,ds,G,I,λz=>S.trk a (.inr (.inr z)) L,M,r.weak λb z=>z.elim .inl λz=>.inr (yA z)⟩;rw[if_neg l];exact Rep.weak (B.rv S) λb z=>yA z
theorem aKs{c:E}{e:Av}(B:PE X e (WE X P n RT Y J σ c)):PS X (.Return (some e) pos) (wS X RT Y J σ (ex P (call P n) σ (.ret c))):=by
 refine bP (pW B) λD σV H t ⟨S,h⟩=>?_;have h:=OE.from (show OE X.K (XW X) RT Y J H (O.from σ (ev P (call P n) σ c) .ret) D from h)
 exact wE.one S h λx u H1 G I L l _=>(show iW X.K RT Y J H x D.rt from G) u H1 (Kp.same l.1) I (l.rtv S)
theorem aHK{i:Nat}{x:Str}{p:CF}(M:Mc X P Γ n)(W:aZ Γ i x=true):PS X (.Return (some (.Name x p)) pos) (wS X RT Y J σ (ex P (call P n) σ (.retv i))):=by
 have U:PE X (.Name x p) (aDH i):=by unfold aZ at W;obtain⟨G,l,B⟩:=cR W;exact pT (by rw[M.N];exact eq_of_beq G) (M.vis l) (aJ B) (fV B)
 refine bP (pW U) λD σV H t ⟨S,h⟩=>?_;have h:OE X.K (XW X) RT Y J H (match σ[i]? with|some (.own pa ds)=>.ret ⟨.lst ds,true,pa,[]⟩|some (.own2 dss)=>.ret ⟨.lst (dss.map .lst),true,false,[]⟩|_=>O.from σ (bU σ i) .ret) D:=h;unfold bU at h;cases e:σ[i]? with
 | none=>rw[e] at h;exact h.elim|some sl=>
  rw[e] at h;cases sl with
  | dead=>exact h.elim|own2 dss=>obtain⟨a,bs,G,l,B,I,L⟩:=S.dx.at2 i dss e;refine⟨.ref a,G,λ_=>(show iW X.K RT Y J H ⟨.lst (dss.map .lst),true,false,[]⟩ D.rt from h) _ H (Kp.refl RT H) t ?_⟩;unfold Rtv;rw[if_pos rfl];rw[AG] at I;refine⟨a,bs.map V.ref,dss.map .lst,rfl,rfl,(B a Aj).2.1,l,L.reps λb hb z=>?_⟩;rcases z with z|z|z;exact I.1 (by rw[<-z];exact hb);exact(B b (Ae _ hb)).2.1 (S.yo b z);exact(B b (Ae _ hb)).2.1 z.2
  | own pa ds=>obtain⟨a,xs,G,l,B,I,L⟩:=S.own i pa ds e;refine⟨.ref a,G,λ_=>(show iW X.K RT Y J H ⟨.lst ds,true,pa,[]⟩ D.rt from h) _ H (Kp.refl RT H) t ?_⟩;unfold Rtv;rw[if_pos rfl];exact⟨a,xs,ds,rfl,rfl,I,l,L.weak λb z=>z.elim (λz=>.inl (by rw[z];exact B)) .inr⟩|sh pa d=>
   obtain⟨v,G,l⟩:=S.sh i pa d e;refine⟨v,G,λ_=>(show iW X.K RT Y J H ⟨d,false,pa&&!noL d,[]⟩ D.rt from h) v H (Kp.refl RT H) t ?_⟩;unfold Rtv;rw[if_neg bN];show Rep X.K H (exB Y J (pa&&!noL d)) d v;cases Z:noL d with
   | true=>exact Rep.free d v Z l|false=>refine l.weak λb z=>.inr ?_;rw[Jb,Ft] at z;exact z
theorem aKt{f:Nat}{cs:Es}{e:Av}(B:PE X e (wC X P n RT Y J σ f cs))(hs:jI e=false):PS X (.Expr e pos) (wS X RT Y J σ (ex P (call P n) σ (.exC f cs))):=by
 refine bP (fS B (by cases e <;> first|rfl|cases hs)) λD σV H t ⟨S,h⟩=>⟨S,?_⟩
 have h:=OE.from (show OE X.K (XW X) RT Y J H (O.from σ (evs P (call P n) σ cs) λvs=>O.frX σ (call P n f (vs.map (·.d))) λ_=>.next σ) D from h)
 exact h.mono λvs I=>(OE.frX S I).mono (λr G u H1 M l _=>(show cS X.K RT Y J H σ D.nx from G) RT σV H1 (Kp.same l.1) bG (S.grow l.1 M)) λx L=>L
theorem aHL{f:Nat}{cs:Es}{e:Av}(B:PE X e (wC X P n RT Y J σ f cs)):PS X (.Return (some e) pos) (wS X RT Y J σ (ex P (call P n) σ (.retC f cs))):=by
 refine bP (pW B) λD σV H t ⟨S,h⟩=>⟨S,?_⟩
 have h:=OE.from (show OE X.K (XW X) RT Y J H (O.from σ (evs P (call P n) σ cs) λvs=>O.frX σ (call P n f (vs.map (·.d))) λr=>.ret (aW vs r)) D from h)
 exact h.mono λvs I=>(OE.frX S I).mono (λr G u H1 M l _=>(show iW X.K RT Y J H (aW vs r) D.rt from G) u H1 (Kp.same l.1) M (l.rtv S)) λx L=>L
theorem aME{c:E}{a b:Ss}{e:Av}{G I:List BR}(M:PT X e (WT X P n RT Y J σ c))(L:∀RT σ,PSs X G (wS X RT Y J σ (exs P (call P n) σ a)))(hb:∀RT σ,PSs X I (wS X RT Y J σ (exs P (call P n) σ b))) :
 PS X (.If e G I pos) (wS X RT Y J σ (ex P (call P n) σ (.iff c a b))):=by
 refine bP (aIM M (L RT σ) (hb RT σ)) λD σV H t ⟨S,h⟩=>?_;have h:=OE.from (show OE X.K (XW X) RT Y J H (O.from σ (tst P (call P n) σ c) λk=>if k=true then exs P (call P n) σ a else exs P (call P n) σ b) D from h)
 refine⟨S,h.mono λk l H1 B s1=>?_⟩;cases k with
 | true=>rw[if_pos rfl] at l ⊢;exact⟨S.grow s1 B,(OE.mono (Kp.same s1) bG l).tkE⟩|false=>rw[if_neg bN] at l ⊢;exact⟨S.grow s1 B,(OE.mono (Kp.same s1) bG l).tkE⟩
theorem kW{σV:L2.St}{H H1:Hp}{v:Vl}{u:V}{t:T}{D:Ends}(S:Sx X.K RT Y J σ σV H)(W:Tk X.K H1)(l:Ro X.K RT Y J σ σV H H1 v u)(h:OE X.K (XW X) RT Y J H (O.from σ (aV (freeze σ v.al) v t) .next) D):gT X.K t u σV H1 D.nx:=by
 obtain⟨M,e,G⟩:=(OE.from h).eq;have G:cS X.K RT Y J H M D.nx:=G;clear h;cases t with
 | n i=>obtain⟨L,S',I⟩:=S.store l W i;rw[mP e] at G;exact G L _ H1 (Kp.same l.1) I S'|t is=>
  obtain⟨ds,hd,hl,e'⟩:=mO e;have Sf:=(S.grow l.1 W).frz v.al;have hr:Rep X.K H1 (λa=>rtF RT σ σV v.al a\/exB Y J v.pa a) v.d u:=l.rv S;have B:v.fr=false\/v.fr=true:=by cases v.fr <;> simp
  rcases B with B|B;exact aCj Sf B hr e λZ S2 _=>G _ _ _ (Kp.same l.1) (λb z=>.inl z.1) S2;have:=l.2;rw[if_pos B] at this;obtain⟨a,xs,ds',_,U,_⟩:=this;rw[hd] at U;cases U
theorem aHM{c:E}{e:Av}{i:Nat}{x:Str}{p:CF}(M:Mc X P Γ n)(B:aR Γ i x=true)(I:PE X e (WE X P n RT Y J σ c))(hs:jI e=false):PS X (.Assign [.Name x p] e pos) (wS X RT Y J σ (ex P (call P n) σ (.set (.n i) c))):=by
 unfold aR at B;obtain⟨G,l,h3⟩:=cR B;refine bP (jE (i:=i) M.nd (by rw[M.N];exact eq_of_beq G) (M.loc l) I (by cases e <;> first|rfl|cases hs) (M.st x l)) λD σV H t ⟨S,h⟩=>?_;have h:=OE.from (show OE X.K (XW X) RT Y J H (O.from σ (ev P (call P n) σ c) λv=>O.from σ (aV (freeze σ v.al) v (.n i)) .next) D from h)
 exact wE.one S h λv u H1 L W Z U=>kW (t:=.n i) S W U (OE.tkE L)
theorem aHN{f:Nat}{cs:Es}{e:Av}{i:Nat}{x:Str}{p:CF}(M:Mc X P Γ n)(l:aR Γ i x=true)(I:PE X e (wC X P n RT Y J σ f cs))(hs:jI e=false):PS X (.Assign [.Name x p] e pos) (wS X RT Y J σ (ex P (call P n) σ (.setC i f cs))):=by
 unfold aR at l;obtain⟨G,B,h3⟩:=cR l;refine bP (jE (i:=i) M.nd (by rw[M.N];exact eq_of_beq G) (M.loc B) I (by cases e <;> first|rfl|cases hs) (M.st x B)) λD σV H t ⟨S,h⟩=>⟨S,?_⟩
 have h:=OE.from (show OE X.K (XW X) RT Y J H (O.from σ (evs P (call P n) σ cs) λvs=>O.frX σ (call P n f (vs.map (·.d))) λr=>O.from σ (aV (freeze σ (aW vs r).al) (aW vs r) (.n i)) .next) D from h)
 exact h.mono λvs U=>(OE.frX S U).mono (λr L u H1 Z W=>kW (t:=.n i) S Z W (OE.tkE L)) λx l=>l
theorem aHO{c:E}{e:Av}{is:List Nat}{es:List Av}{k:Nat}{p:CF}(M:Mc X P Γ n)(G:lS Γ (.t is) (.Tuple es k p)=true)(l:PE X e (WE X P n RT Y J σ c))(hs:lT e=false):PS X (.Assign [.Tuple es k p] e pos) (wS X RT Y J σ (ex P (call P n) σ (.set (.t is) c))):=by
 refine bP (aAS l (aAm M G) (by cases e <;> rfl) (by cases e <;> first|rfl|cases hs)) λD σV H t ⟨S,h⟩=>?_;have h:=OE.from (show OE X.K (XW X) RT Y J H (O.from σ (ev P (call P n) σ c) λv=>O.from σ (aV (freeze σ v.al) v (.t is)) .next) D from h)
 exact wE.one S h λv u H1 B L U I=>kW (t:=.t is) S L I (OE.tkE B)
theorem aAw{i:Nat}{x:Str}{p G:CF}(M:Mc X P Γ n)(hx:aR Γ i x=true){k:Nat}{caps:List Nat}{t:T}{it:Hp.It}{cond:Es}{elt:E}{e tg B:Av}{L:List Av}{scope:Da}{N':List Str}(CS:bT X scope k caps N')(q0:caps.Nodup)(hk:∀i∈tIx t,i<k)
 (hi:PI X tg B (wI X P n RT Y J σ it))
 (Z:∀C s₀ H₀ ex,PG (bX X scope N' C s₀ H₀ ex) tg (gT X.K t)/\(∀RT Y J l,PTs (bX X scope N' C s₀ H₀ ex) L (wTs X P n RT Y J l cond))/\∀RT Y J l,PE (bX X scope N' C s₀ H₀ ex) e (WE X P n RT Y J l elt))
 (hs:∀x,BV B X.env x=pure x):PS X (.Assign [.Name x p] (.ListComp e [⟨tg,B,L,0⟩] scope G) pos) (wS X RT Y J σ (ex P (call P n) σ (.set (.n i) (.comp k caps t it cond elt)))):=by
 unfold aR at hx;obtain⟨W,U,h3⟩:=cR hx;refine bP (lY (g:=gT X.K t) (tt:=λσV H Q=>∃RT Y J l,wTs X P n RT Y J l cond σV H Q) (te:=λσV H Q=>∃RT Y J l,WE X P n RT Y J l elt σV H Q) CS M.calm hi (λC s₀ H₀ ex=>?_) hs M.nd (by rw[M.N];exact eq_of_beq W) (M.loc U) (M.st x U)) λD σV H t0 ⟨S,h⟩=>?_;obtain⟨W,U,h3⟩:=Z C s₀ H₀ ex;exact⟨W,λpins s σV H Q I ⟨RT,Y,J,l,hw⟩=>U RT Y J l pins s σV H Q I hw,λpins s σV H Q I ⟨RT,Y,J,l,hw⟩=>h3 RT Y J l pins s σV H Q I hw⟩;have h:=OE.from (show OE X.K (XW X) RT Y J H (O.from σ (ev P (call P n) σ (.comp k caps t it cond elt)) λv=>O.from σ (aV (freeze σ v.al) v (.n i)) .next) D from h)
 exact aCl (Q:=λv H'=>nT i v σV H' D.nx) q0 hk ⟨S,h.mono λv hv u H1 t1 r1=>kW (t:=.n i) S t1 r1 hv⟩
theorem Sx.mut{K:Fg}{σV:L2.St}{H:Hp}(S:Sx K RT Y J σ σV H){i:Nat}{pa pa':Bool}{ds ds':List D}{a:Addr}{B:List V}(e:σ[i]? = some (.own pa ds))(G:σV[i]? = some (some (.ref a)))(r:Reps K H (λb=>RT b\/exB Y J pa' b) ds' B) :
 Sx K RT Y J (σ.set i (.own pa' ds')) σV (upd H a (.lst B)):=by
 obtain⟨a',xs,M,I,U,h4,h5⟩:=S.own i pa ds e;rw[G] at M;cases M;have ks:∀{ex:Addr->Prop},∀b o,H b=some o->((∃ys,o=.lst ys)\/Ox o->¬ (RT b\/ex b))->upd H a (.lst B) b=some o:=λ{ex} b o q hl=>by rw[aD λz=>by subst z;rw[I] at q;cases q;exact hl (.inl ⟨xs,rfl⟩) (.inl U)];exact q
 exact {
  sh:=λj l d q=>by
   rcases set_some q with⟨_,z,_⟩|⟨_,q⟩
   cases z;obtain⟨v,g1,g2⟩:=S.sh j l d q;exact⟨v,g1,g2.keep ks⟩
  own:=λj l dd q=>by
   rcases set_some q with⟨rfl,z,_⟩|⟨L,q⟩
   cases z;exact⟨a,B,G,aK,U,h4,r.keep ks⟩;obtain⟨b,ys,g1,g2,g3,g4,g5⟩:=S.own j l dd q;have hb:b≠a:=λz=>by subst z;exact L (S.inj i j pa l ds dd b e q G g1)
   exact⟨b,ys,g1,by rw[aD hb];exact g2,g3,g4,g5.keep ks⟩
  trk:=λb z q=>by by_cases hb:b=a;rw[hb,aK] at q;cases q;rw[aD hb] at q;exact S.trk b z q
  yo:=S.yo
  tk:=λb z=>by by_cases hb:b=a;rw[hb];exact S.tk a (by rw[I];simp);rw[aD hb] at z;exact S.tk b z
  rt:=λb z=>by by_cases hb:b=a;rw[hb];exact⟨B,aK⟩;unfold RtO;rw[aD hb];exact S.rt b z
  inj:=λj j' l q0 dd Z b q1 q2=>by
   have get:∀{j:Nat} {l:Bool} {dd:List D},(σ.set i (.own pa' ds'))[j]? = some (.own l dd)->∃p2 W,σ[j]? = some (.own p2 W):=λ{j l dd} q=>by
    rcases set_some q with⟨rfl,_,_⟩|⟨_,q⟩
    exact⟨pa,ds,e⟩;exact⟨l,dd,q⟩
   obtain⟨_,_,z1⟩:=get q1;obtain⟨_,_,z2⟩:=get q2;exact S.inj j j' _ _ _ _ b z1 z2
  len:=by rw[Ay];exact S.len
  dx:=S.dx.imp id (λb ks z=>Kp.seqT (R:=λb=>b=a) (λb o q n=>by rw[aD n];exact q) (λb z=>⟨xs,by rw[z];exact I⟩) z) (λj dd q=>by
   rcases set_some q with⟨_,z,_⟩|⟨_,q⟩
   cases z;exact⟨q,rfl⟩) (λ_ _ _ _ _ _ e=>e) λp ys q z=>⟨by rw[aD λw=>z.2.2 i pa ds e (by rw[w];exact G)];exact q,z.1,z.2.1,λk l dd w=>by
   rcases set_some w with⟨rfl,_,_⟩|⟨_,w⟩
   exact z.2.2 i pa ds e;exact z.2.2 k l dd w⟩ }
theorem Kp.upd{H H1:Hp}{a:Addr}{xs:List V}(s:aE H H1)(h:RT a):Kp RT H (upd H1 a (.lst xs)):=λb o e l=>by rw[aD λz=>l (by rw[z];exact h)];exact s b o e
theorem aCC{i:Nat}{pa:Bool}{ds:List D}(h:rV σ i=some (pa,ds)):σ[i]? = some (.own pa ds):=by unfold rV at h;split at h;rename_i q;cases h;exact q;cases h
theorem vS{i:Nat}{v:Vl}{f:List D->Option (List D)}{H:Hp}{D:Ends}(h:OE X.K (XW X) RT Y J H (put σ i v f) D):∃pa ds ds',σ[i]? = some (.own pa ds)/\i∉v.al/\f ds=some ds'/\ds'.length<=lim/\cS X.K RT Y J H ((freeze σ v.al).set i (.own (pa||v.pa) ds')) D.nx:=by unfold put at h;split at h;rename_i pa ds q;have q:=cX (aCC q);split at h;rename_i ds' l;split at h;rename_i hl;exact⟨pa,ds,ds',q.1,q.2,l,hl,h⟩;exact h.elim;exact h.elim;exact h.elim
theorem qU{pa l:Bool}{b:Addr}(h:exB Y J (pa||l) b):exB Y J pa b:=h.imp_right λz=>⟨by cases pa <;> simp_all,z.2⟩
theorem yB{pa l:Bool}{b:Addr}(h:exB Y J (pa||l) b):exB Y J l b:=h.imp_right λz=>⟨by cases l <;> simp_all,z.2⟩
theorem yC{i:Nat}{m:Str}{c:Av}{xs:List Av}(h:rX Γ i m c=some xs):∃x p l B,c=.Call (.Attribute (.Name x p) m l) xs [] B/\aZ Γ i x=true/\(l.endLine==B.line)=true:=by unfold rX at h;split at h;rename_i x p a l M B;split at h;rename_i q;obtain⟨G,I,L⟩:=cR q;cases h;have e:a=m:=eq_of_beq G;subst e;exact⟨x,p,l,B,rfl,I,L⟩;cases h;cases h
theorem cC{i:Nat}{x:Str}{p:CF}(M:Mc X P Γ n)(B:aZ Γ i x=true):PE X (.Name x p) (aDH i):=by unfold aZ at B;obtain⟨G,I,l⟩:=cR B;exact pT (by rw[M.N];exact eq_of_beq G) (M.vis I) (aJ l) (fV l)
theorem vT:lim<sizeLine:=by rw[AS];decide
theorem mY{i:Nat}{al:List Nat}{pa:Bool}{ds:List D}{σV:L2.St}{H H1:Hp}{b:Addr}{xs:List V}(S:Sx X.K RT Y J σ σV H)(s1:aE H H1)(I:σ[i]? = some (.own pa ds))(B:σV[i]? = some (some (.ref b)))(G:H b=some (.lst xs)) :
 Reps X.K H1 (λc=>rtF RT σ σV al c\/exB Y J pa c) ds xs:=by obtain⟨M,L,g1,g2,g3,U,l⟩:=S.own i pa ds I;rw[B] at g1;cases g1;rw[G] at g2;cases g2;exact(l.grow s1).weak λc z=>z.elim (λz=>.inl z.1) .inr
theorem mZ{i:Nat}{v:Vl}{pa:Bool}{ds ds':List D}{σV:L2.St}{H H1:Hp}{b:Addr}{B:List V}{Q:L2.St->Hp->Prop}(S:Sx X.K RT Y J σ σV H)(s1:aE H H1)(U:Tk X.K H1)(I:σ[i]? = some (.own pa ds))(M:i∉v.al)(G:σV[i]? = some (some (.ref b)))
 (r:Reps X.K H1 (λc=>rtF RT σ σV v.al c\/exB Y J (pa||v.pa) c) ds' B) (l:cS X.K RT Y J H ((freeze σ v.al).set i (.own (pa||v.pa) ds')) Q):Q σV (upd H1 b (.lst B)):=by
 obtain⟨W,xs,g1,g2,g3,Z,g5⟩:=S.own i pa ds I;rw[G] at g1;cases g1;have L:(freeze σ v.al)[i]? = some (.own pa ds):=by rw[dM,I];simp[M]
 exact l _ σV _ (Kp.upd s1 g3) (λc z=>.inl z.1) (((S.grow s1 U).frz v.al).mut L G r)
theorem aCD{σV:L2.St}{H1:Hp}{v:Vl}{u:V}{pa:Bool}(h:Rv X.K RT Y J σ σV H1 v u):Rep X.K H1 (λc=>rtF RT σ σV v.al c\/exB Y J (pa||v.pa) c) v.d u:=Rep.weak h λc z=>z.imp id yB
theorem aKu{i:Nat}{c:E}{e a:Av}(M:Mc X P Γ n)(hc:rX Γ i "append" e=some [a])(ha:PE X a (WE X P n RT Y J σ c))(L:aI a=true):PS X (.Expr e pos) (wS X RT Y J σ (ex P (call P n) σ (.app i c))):=by
 obtain⟨x,p,ap,cp,rfl,hx,hl⟩:=yC hc;refine bP (fS (rQ Cn Fw Fx oC (cC M hx) (bV ha cU (aB L)) rfl (by rw[aB L];rfl) hl (aB L) rfl)) λD σV H t ⟨S,h⟩=>?_;have h:=OE.from (show OE X.K (XW X) RT Y J H (O.from σ (ev P (call P n) σ c) λv=>put σ i v λds=>some (ds++[v.d])) D from h)
 obtain⟨v,Z,h⟩:=h.eq;obtain⟨pa,ds,ds',U,q2,q3,q4,l⟩:=vS h;cases q3;obtain⟨b,xs,G,I,h3,h4,h5⟩:=S.own i pa ds U;refine⟨.ref b,G,.inl ⟨rfl,xs,SqL.of I⟩,S,?_⟩;rw[Z];intro u H1 t1 B;have W:=h5.length;refine⟨b,xs,u,rfl,rfl,B.1 _ _ I,?_,λ_=>?_⟩;rw[lA,DT] at q4;have:=vT;omega;exact mZ S B.1 t1 U q2 G (((mY S B.1 U G I).weak λc z=>z.imp id qU).append (.cons (aCD (B.rv S)) .nil)) l
theorem aKv{i:Nat}{c:E}{e a:Av}(M:Mc X P Γ n)(hc:rX Γ i "extend" e=some [a])(ha:PE X a (WE X P n RT Y J σ c))(W:aI a=true):PS X (.Expr e pos) (wS X RT Y J σ (ex P (call P n) σ (.ext i c))):=by
 obtain⟨x,p,ap,cp,rfl,hx,hl⟩:=yC hc;refine bP (fS (rQ Cn PySem.F.slot_list_extend PySem.F.type_list_extend zP (cC M hx) (bV ha cU (aB W)) rfl (by rw[aB W];rfl) hl (aB W) rfl)) λD σV H t ⟨S,h⟩=>?_;have h:=OE.from (show OE X.K (XW X) RT Y J H (O.from σ (ev P (call P n) σ c) λv=>(match xB v with|some (v',ds')=>put σ i v' λds=>some (ds++ds')|none=>.bad)) D from h)
 obtain⟨v,ee,h⟩:=h.eq;unfold xB at h;cases L:v.fr with
 | false=>rw[L] at h;exact h.elim|true=>
  rw[L] at h;cases hd:v.d with
  | lst es=>rw[hd] at h;obtain⟨pa,ds,ds',Z,q2,q3,q4,l⟩:=vS h;cases q3;obtain⟨b,xs,G,I,h3,h4,h5⟩:=S.own i pa ds Z;refine⟨.ref b,G,.inl ⟨rfl,xs,SqL.of I⟩,S,?_⟩;rw[ee];intro u H1 t1 B;have hr:=B.2;rw[if_pos L] at hr;obtain⟨a',ys,q5,e1,e2,e3,e4,r⟩:=hr;rw[hd] at e2;cases e2;subst e1;have q0:=h5.length;have U:=r.length;refine⟨b,a',xs,ys,rfl,rfl,B.1 _ _ I,e4,?_,λ_=>?_⟩;rw[lA] at q4;have:=vT;omega;refine mZ S B.1 t1 Z q2 G (((mY S B.1 Z G I).weak λc z=>z.imp id qU).append ?_) l;have rr:=dX (r.weak λb z=>.inr z);exact rr.weak λc z=>z.imp id yB|_=>rw[hd] at h;exact h.elim
theorem aEN{i:Nat}{U c:E}{x:Str}{p p2:CF}{ix v:Av}(M:Mc X P Γ n)(hx:aZ Γ i x=true)(hk:PE X ix (WE X P n RT Y J σ U))(he:PE X v (WE X P n RT Y J σ c))(q0:aI ix=true):PS X (.Assign [.Subscript (.Name x p) ix p2] v pos) (wS X RT Y J σ (ex P (call P n) σ (.setIx i U c))):=by
 refine bP (aAS he (aGu (cC M hx) hk aBk (by intro _;cases ix <;> first|rfl|cases q0)) (by cases v <;> rfl) (by cases v <;> rfl)) λD σV H t ⟨S,h⟩=>?_;have h:=OE.from (show OE X.K (XW X) RT Y J H (O.from σ (ev P (call P n) σ c) λv=>O.from σ (ev P (call P n) σ U) λkv=>(match kv.d with
  | .int k=>put σ i v λds=>(match ixN ds.length k with|some j=>some (ds.set j v.d)|none=>none)
  | _=>.bad)) D from h)
 refine wE.one S h λv u H1 B t1 S1 r1=>?_;obtain⟨kv,ek,B⟩:=(OE.from B).eq;cases hd:kv.d with
 | int k=>
  rw[hd] at B;obtain⟨pa,ds,ds',q1,q2,I,q4,l⟩:=vS B;obtain⟨b,xs,W,h2,h3,h4,h5⟩:=S.own i pa ds q1;cases Z:ixN ds.length k with
  | none=>rw[Z] at I;cases I|some j=>rw[Z] at I;cases I;refine⟨.ref b,W,S1,?_⟩;rw[ek];intro uk H2 t2 L;have G:=h5.length;refine⟨b,xs,k,j,rfl,(L.rv S1).int hd,L.1 _ _ (r1.1 _ _ h2),by rw[<-G,<-lW];exact Z,λ_=>?_⟩;have s2:=r1.1.trans L.1;refine mZ S s2 t2 q1 q2 W (((mY S s2 q1 W h2).weak λc z=>z.imp id qU).set j (aCD ((r1.rv S).grow L.1))) l
 | _=>rw[hd] at B;exact B.elim
theorem Sx.move{K:Fg}{σV:L2.St}{H:Hp}(S:Sx K RT Y J σ σV H){i j:Nat}{pa:Bool}{ds:List D}{a:Addr}(e:σ[j]? = some (.own pa ds))(q3:i≠j)(I:σV[j]? = some (some (.ref a))):Sx K RT Y J ((σ.set j .dead).set i (.own pa ds)) (σV.set i (some (.ref a))) H where
 sh:=λk B d q=>by
  rcases set_some q with⟨_,z,_⟩|⟨l,q⟩
  cases z;rcases set_some q with⟨_,z,_⟩|⟨G,q⟩
  cases z;obtain⟨v,g1,g2⟩:=S.sh k B d q;exact⟨v,by rw[Ah l];exact g1,g2⟩
 own:=λk B dd q=>by
  rcases set_some q with⟨rfl,z,hl⟩|⟨l,q⟩
  cases z;obtain⟨b,xs,g1,g2,g3⟩:=S.own j pa ds e;rw[I] at g1;cases g1;rw[Ay] at hl;exact⟨a,xs,Ar (by rw[<-S.len];exact hl),g2,g3⟩;rcases set_some q with⟨_,z,_⟩|⟨G,q⟩
  cases z;obtain⟨b,xs,g1,g2⟩:=S.own k B dd q;exact⟨b,xs,by rw[Ah l];exact g1,g2⟩
 trk:=S.trk
 yo:=S.yo
 tk:=S.tk
 rt:=S.rt
 inj:=λk U B q4 dd q0 b q1 Z v1 v2=>by
  have get:∀{k:Nat} {B:Bool} {dd:List D},((σ.set j .dead).set i (.own pa ds))[k]? = some (.own B dd)->(σV.set i (some (.ref a)))[k]? = some (some (.ref b))->(k=i/\b=a)\/(k≠i/\k≠j/\σ[k]? = some (.own B dd)/\σV[k]? = some (some (.ref b))):=λ{k B dd} q v=>by
   rcases set_some q with⟨rfl,z,hl⟩|⟨l,q⟩
   rw[Ay] at hl;rw[Ar (by rw[<-S.len];exact hl)] at v;cases v;exact .inl ⟨rfl,rfl⟩;rcases set_some q with⟨_,z,_⟩|⟨G,q⟩
   cases z;rw[Ah l] at v;exact .inr ⟨BS l,BS G,q,v⟩
  rcases get q1 v1 with⟨e1,b1⟩|⟨l,m1,W,w1⟩
  rcases get Z v2 with⟨M,_⟩|⟨G,m2,L,w2⟩
  rw[e1,M];subst b1;exact absurd (S.inj U j _ _ _ _ b L e w2 I) m2;rcases get Z v2 with⟨M,b2⟩|⟨G,m2,L,w2⟩
  subst b2;exact absurd (S.inj k j _ _ _ _ b W e w1 I) m1;exact S.inj k U _ _ _ _ b W L w1 w2
 len:=by rw[Ay,Ay,Ay];exact S.len
 dx:=S.dx.imp id (λ_ _ r=>r) (λk dd q=>by
  rcases set_some q with⟨_,z,_⟩|⟨l,q⟩
  cases z;rcases set_some q with⟨_,z,_⟩|⟨G,q⟩
  cases z;exact⟨q,Ah l⟩) (λ_ _ _ _ _ _ e=>e) λp xs q z=>⟨q,z.1,z.2.1,λk B dd q w=>by
  rcases set_some q with⟨rfl,_,hl⟩|⟨l,q⟩
  rw[Ay] at hl;rw[Ar (by rw[<-S.len];exact hl)] at w;cases w;exact z.2.2 j pa ds e I;rcases set_some q with⟨_,v,_⟩|⟨G,q⟩
  cases v;rw[Ah l] at w;exact z.2.2 k B dd q w⟩
theorem aKw{i j:Nat}{x y:Str}{p W:CF}(M:Mc X P Γ n)(G:aR Γ i x=true)(U:aZ Γ j y=true):PS X (.Assign [.Name x p] (.Name y W) pos) (wS X RT Y J σ (ex P (call P n) σ (.mov i j))):=by
 unfold aR at G;obtain⟨I,B,Z⟩:=cR G;refine bP (jE (i:=i) M.nd (by rw[M.N];exact eq_of_beq I) (M.loc B) (cC M U) rfl (M.st x B)) λD σV H t ⟨S,h⟩=>?_;have h:OE X.K (XW X) RT Y J H (match σ[j]? with
  | some (.own pa ds)=>if i=j then .bad else .next ((σ.set j .dead).set i (.own pa ds))|some (.sh pa d)=>.next (σ.set i (.sh (pa&&!noL d) d))|_=>.bad) D:=h
 cases e:σ[j]? with
 | none=>rw[e] at h;exact h.elim|some sl=>
  rw[e] at h;cases sl with
  | dead=>exact h.elim|own2 _=>exact h.elim|own pa ds=>by_cases l:i=j;have h:OE X.K (XW X) RT Y J H (if i=j then .bad else .next ((σ.set j .dead).set i (.own pa ds))) D:=h;rw[if_pos l] at h;exact h.elim;have h:OE X.K (XW X) RT Y J H (if i=j then .bad else .next ((σ.set j .dead).set i (.own pa ds))) D:=h;rw[if_neg l] at h;obtain⟨a,xs,g1,g2⟩:=S.own j pa ds e;exact⟨.ref a,g1,λ_=>(show cS X.K RT Y J H _ D.nx from h) RT _ H (Kp.refl RT H) bG (S.move e l g1)⟩|sh pa d=>
   obtain⟨v,g1,g2⟩:=S.sh j pa d e;refine⟨v,g1,λ_=>(show cS X.K RT Y J H (σ.set i (.sh (pa&&!noL d) d)) D.nx from h) RT _ H (Kp.refl RT H) bG (S.setSh ?_)⟩;cases L:noL d with
   | true=>exact Rep.free d v L g2|false=>rw[Jb,Ft];exact g2
theorem aKx{t:T}{it:Hp.It}{b:Ss}{tg q2:Av}{body:List BR}(M:Mc X P Γ n)(hx:lS Γ t tg=true)(hi:PI X tg q2 (wI X P n RT Y J σ it))(hb:∀RT σ,PSs X body (wS X RT Y J σ (exs P (call P n) σ b)))(hs:∀x,BV q2 X.env x=pure x) :
 PS X (.For tg q2 body [] pos) (wS X RT Y J σ (ex P (call P n) σ (.for t it b))):=by
 have hp:Fz (A2 X.prog X.w) X.A X.env X.xe:=M.own;refine bP (aAT hp M.calm hi (aAm M hx) (qT hb) hs) λD0 σV H t0 ⟨S,h⟩=>?_;have h:=OE.tkE h;revert h;generalize tkE X.K D0=D;intro h
 let f:Sg->Vl->O:=λσ x=>O.from σ (aV σ x t) λσ'=>exs P (call P n) σ' b
 have h:=OE.from (show OE X.K (XW X) RT Y J H (O.from σ (walk P (call P n) σ it) λxs=>dE f xs.1 (freeze σ xs.2)) D from h)
 refine⟨S,h.mono λxs hx J'' H1 t1 s1 ok=>?_⟩;have S1:=S.grow s1 t1;have Sf:=S1.frz xs.2;refine⟨λi m q3 Z=>m=xs.1.length-i/\i<=xs.1.length/\∃l B,Kp (rtF RT σ σV xs.2) H1 Z/\(∀b,l b->rtF RT σ σV xs.2 b\/H1 b=none)/\Sx X.K l Y J B q3 Z/\OE X.K (XW X) l Y J Z (dE f (xs.1.drop i) B) D,
  ⟨_,rfl,AW _,rtF RT σ σV xs.2,freeze σ xs.2,Kp.refl _ _,bG,Sf,OE.mono (Kp.same s1) (λb z=>.inl z.1) hx⟩,?_⟩
 rintro i m q3 Z ⟨hm,hi,l,B,kp,q1,Sc,G⟩;have q6:=ok.ok (rtF RT σ σV xs.2) (λ_ z=>z) i Z kp;by_cases q0:i<xs.1.length;refine .inr ⟨q6.1 q0,λσ' H'=>xs.1.length-(i+1)=xs.1.length-(i+1)/\i+1<=xs.1.length/\∃l B,Kp (rtF RT σ σV xs.2) H1 H'/\(∀b,l b->rtF RT σ σV xs.2 b\/H1 b=none)/\Sx X.K l Y J B σ' H'/\OE X.K (XW X) l Y J H' (dE f (xs.1.drop (i+1)) B) D,
  λσ' H' hN=>⟨_,by omega,hN⟩,λx H' hy=>?_⟩
 have w3:xs.1[i]? = some xs.1[i]:=Ac q0;obtain⟨sm,w4,rv⟩:=q6.2.2 x H' hy xs.1[i] w3;have q4:xs.1[i]∈xs.1:=Bt q0;rw[Fd q0] at G;have q8:=Sc.grow sm (w4 Sc.tk);have rep:Rep X.K H' (λa=>l a\/exB Y J xs.1[i].pa a) xs.1[i].d x:=rv.weak λa z=>by rcases z with z|z;rcases q1 a z with q|q;exact .inl (.inl ⟨q.1,λw=>q.2 (w.mono (ok.sub _ q4))⟩);exact .inr ⟨q,Sc.tk a (Sc.trk a (.inl z))⟩;exact .inl (.inr z)
 have G:OE X.K (XW X) l Y J Z (match f B xs.1[i] with
  | .next σ'=>dE f (xs.1.drop (i+1)) σ'|o=>o) D:=G
 cases L:aV B xs.1[i] t with
 | exc e=>rw[show f B xs.1[i]=.bad by show O.from B (aV B xs.1[i] t) _=_;rw[L];rfl] at G;exact G.elim|bad=>rw[show f B xs.1[i]=.bad by show O.from B (aV B xs.1[i] t) _=_;rw[L];rfl] at G;exact G.elim|ok q7=>
  rw[show f B xs.1[i]=exs P (call P n) q7 b by show O.from B (aV B xs.1[i] t) _=_;rw[L];rfl] at G;refine aCj q8 (ok.nofr _ q4) rep L λw5 S2 _=>⟨l,q7,S2,?_⟩
  have kS:Kp l Z H':=Kp.same sm;have q5:∀{σ':Sg} {W:Addr->Prop} {U:L2.St} {I:Hp},Kp l H' I->(∀b,W b->l b\/H' b=none)->Sx X.K W Y J σ' U I->OE X.K (XW X) l Y J Z (dE f (xs.1.drop (i+1)) σ') D ->
   (xs.1.length-(i+1)=xs.1.length-(i+1)/\i+1<=xs.1.length/\∃l B,Kp (rtF RT σ σV xs.2) H1 I/\(∀b,l b->rtF RT σ σV xs.2 b\/H1 b=none)/\Sx X.K l Y J B U I/\OE X.K (XW X) l Y J I (dE f (xs.1.drop (i+1)) B) D):=λ{σ' W U I} k2 s2 S3 h3=>by have k3:Kp l Z I:=kS.chain bG k2;have s3:∀b,W b->l b\/Z b=none:=jQ kS bG s2;exact⟨rfl,q0,W,σ',kp.chain q1 k3,jQ kp q1 s3,S3,OE.mono k3 s3 h3⟩
  cases q:exs P (call P n) q7 b with
  | next σ'=>rw[q] at G;exact λW U I k2 s2 S3=>q5 k2 s2 S3 G|ret v=>rw[q] at G;exact OE.mono (o:=.ret v) kS bG G|exc e σ'=>rw[q] at G;exact OE.mono (o:=.exc e σ') kS bG G|bad=>rw[q] at G;exact G.elim
 have q9:i=xs.1.length:=by omega
 subst q9;rw[Eb] at G;exact .inl ⟨q6.2.1 (As _),(show cS X.K l Y J Z B D.nx from G) l q3 Z (Kp.refl _ _) bG Sc⟩
theorem Sx.kill{K:Fg}{σV:L2.St}{H:Hp}(S:Sx K RT Y J σ σV H)(j:Nat)(v:Option V):Sx K RT Y J (σ.set j .dead) (σV.set j v) H where
 sh:=λk B d q=>by
  rcases set_some q with⟨_,z,_⟩|⟨l,q⟩
  cases z;obtain⟨v,g1,g2⟩:=S.sh k B d q;exact⟨v,by rw[Ah l];exact g1,g2⟩
 own:=λk B dd q=>by
  rcases set_some q with⟨_,z,_⟩|⟨l,q⟩
  cases z;obtain⟨b,xs,g1,g2⟩:=S.own k B dd q;exact⟨b,xs,by rw[Ah l];exact g1,g2⟩
 trk:=S.trk
 yo:=S.yo
 tk:=S.tk
 rt:=S.rt
 inj:=λk W B q0 dd U b G I L M=>by
  rcases set_some G with⟨_,z,_⟩|⟨l,G⟩
  cases z;rcases set_some I with⟨_,z,_⟩|⟨Z,I⟩
  cases z;rw[Ah l] at L;rw[Ah Z] at M;exact S.inj k W _ _ _ _ b G I L M
 len:=by rw[Ay,Ay];exact S.len
 dx:=S.dx.imp id (λ_ _ r=>r) (λk dd q=>by
  rcases set_some q with⟨_,z,_⟩|⟨l,q⟩
  cases z;exact⟨q,Ah l⟩) (λ_ _ _ _ _ _ e=>e) λp xs q z=>⟨q,z.1,z.2.1,λk B dd q w=>by
  rcases set_some q with⟨_,z,_⟩|⟨l,q⟩
  cases z;rw[Ah l] at w;exact z.2.2 k B dd q w⟩
noncomputable def clW(K:Fg)(W0:Value->L2.St->Hp->Prop)(σV:L2.St)(H:Hp)(x:D):Prop:=∃c,x=dS c/\∀cls,Br K AB c=some (some cls)->W0 cls σV H
theorem clW.xw{X:Cx}{l:Value->L2.St->Hp->Prop}(h:Rs X l){σV:L2.St}{H:Hp}{x:D}(z:clW X.K l σV H x):XW X σV H x:=by obtain⟨c,e,z⟩:=z;exact⟨c,e,λcls q pins s a I B=>h pins σV H s a cls I B (z cls q)⟩
theorem aKy{l nm y:Str}{i j:Nat}{b:Ss}{body:List BR}{np yp q4 ap hp:CF}(M:Mc X P Γ n)(hg:bD Γ l=true)(ho:aX l=true)(hc:l∈Γ.cls)(hr:l∈Γ.rsd)(hy:aR Γ i y=true)(hn:aR Γ j nm=true)(hl:Γ.sc.lookup nm=some .local)(L:i≠j)(q2:Γ.fn=true)
 (hb:∀{Z:Cx},Mc Z P Γ n->∀RT σ,PSs Z body (wS Z RT Y J σ (exs P (call P n) σ b))) :
 PS X (.Try body [.ExceptHandler (some (.Name l np)) (some nm) [.Assign [.Name y yp] (.Name nm q4) ap] hp] [] [] pos) (wS X RT Y J σ (ex P (call P n) σ (.tryAs b l i j))):=by
 unfold aR at hy hn;obtain⟨y1,y2,y3⟩:=cR hy;obtain⟨n1,n2,n3⟩:=cR hn;obtain⟨q0,I⟩:=M.md.rsd l hr;obtain⟨C,E0⟩:=M.md.exc l q0 I;have hC:=E0.bd;refine bP (aBK (tb:=λW0 D σV H=>Sx X.K RT Y J σ σV H/\OE X.K (clW X.K W0) RT Y J H (exs P (call P n) σ b) D) (C:=C) (newId:= "ValueError.__new__") (iy:=i) (jn:=j) (M.gl hg) hC (aJ ho) E0.ex (M.stk q2) M.nd (by rw[M.N];exact eq_of_beq y1) (by rw[M.N];exact eq_of_beq n1) (M.loc y2) (by rw[M.sc];exact hl) (M.st y y2) (aJ n3) (fV n3) rfl L λpins E W0 own rs=>
  dI (hb (M.inTry own) RT σ) λD σV H t ⟨S,h⟩=>⟨S,(OE.weak h λσV H x z=>clW.xw rs z).tkE⟩) λD σV H t ⟨S,h⟩=>⟨S,?_⟩
 have h:OE X.K (XW X) RT Y J H (match exs P (call P n) σ b with
  | .exc x σ'=>(match isX [.own l] P x with
   | some true=>.next ((σ'.set i (.sh true x)).set j .dead)|_=>.bad)
  | o=>o) D:=h
 cases q:exs P (call P n) σ b with
 | next σ'=>rw[q] at h;exact cS.tkE h|ret v=>rw[q] at h;exact λu H2 k t r _=>(show iW X.K RT Y J H v D.rt from h) u H2 k t r|bad=>rw[q] at h;exact h|exc x σ'=>
  rw[q] at h;have h:OE X.K (XW X) RT Y J H (match isX [.own l] P x with
   | some true=>.next ((σ'.set i (.sh true x)).set j .dead)|_=>.bad) D:=h
  cases hi:isX [.own l] P x with
  | none=>rw[hi] at h;exact h.elim|some kk=>
   rw[hi] at h;cases kk with
   | false=>exact h.elim|true=>
    have h:cS X.K RT Y J H ((σ'.set i (.sh true x)).set j .dead) D.nx:=h;unfold isX at hi;split at hi;rename_i B ec;cases excC_of ec;split at hi;rename_i ab q1;obtain⟨W,E⟩:=M.md.exc B ab q1;obtain⟨C',g1,_,g2⟩:=E.ow l hc;rw[hC] at g1;cases g1;have q3:ab.contains (.own l)=true:=by simpa using Au hi
    intro G q5 H' kp sub S';refine⟨B,rfl,λcls U=>?_⟩;have e:cls=.ref W:=by have:=E.ns.symm.trans U;simpa using this.symm
    subst e;refine⟨W,rfl,⟨_,E.ex⟩,(g2 q3).1,λa ha tk=>h G _ _ (kp.chain sub (Kp.same (aE.new ha))) sub ?_⟩;have S1:=S'.grow (aE.new ha) tk;have nx:¬ (G a\/exB Y J true a):=λz=>S'.trk a (z.elim .inl λz=>z.elim (λz=>.inr (.inl z)) λz=>.inr (.inr z.2)) ha;have S2:=(((S1.kill j (some (.ref a))).setSh (i:=i) (pa:=true) (d:=dS B) (u:=.ref a) ⟨B,a,W,rfl,rfl,aK,nx,U⟩).kill j (some .non)).kill j none;have es:(((σ'.set j .dead).set i (.sh true (dS B))).set j .dead).set j .dead=(σ'.set i (.sh true (dS B))).set j .dead:=by rw[EL,List.set_comm _ _ L.symm,EL]
    rw[es] at S2;exact S2;cases hi;cases hi
end
theorem yD:∀{is:List D} {js:List Int},aU is=some js->is=js.map D.int
 | [],js,h=>by cases h;rfl|.int a::ds,js,h=>by
  rw[aU] at h;cases q:aU ds with
  | none=>rw[q] at h;cases h|some l=>rw[q] at h;cases h;rw[yD q];rfl
 | .non::ds,_,h=>by simp[aU] at h|.bl _::ds,_,h=>by simp[aU] at h|.str _::ds,_,h=>by simp[aU] at h|.tup _::ds,_,h=>by simp[aU] at h|.lst _::ds,_,h=>by simp[aU] at h|.err _ _::ds,_,h=>by simp[aU] at h
theorem pD:∀(ds:List D) (ps:List (List Int×D)),gN ds=some ps->ds=ps.map (λp=>.tup [.tup (p.1.map D.int),p.2])/\∀p∈ps,noL p.2=true
 | [],ps,h=>by cases h;exact⟨rfl,λ_ z=>by cases z⟩|d::ds,ps,h=>by unfold gN at h;split at h;rename_i l;cases l;rename_i is d' r l;cases l;split at h;rename_i js M I L;split at h;rename_i B;cases h;obtain⟨g1,g2⟩:=pD ds M L;refine⟨by rw[mC,<-g1,yD I],λp G=>?_⟩;rcases Ao.mp G with z|z;rw[z];exact B;exact g2 p z;cases h;cases h;cases h
structure Gd (i:Nat) (g:List (List Int×List D)):Prop where
 len:∀x∈g,x.2.length<=i
 few:g.length<=i
 nd:(g.map (·.1)).Nodup
theorem aAx{k:List Int}{d:D}(g:List (List Int×List D)):(g.map (kG k d)).map (·.1)=g.map (·.1):=by rw[Bb];refine CN λx _=>?_;show(kG k d x).1=x.1;unfold kG;split <;> rfl
theorem Gd.ins{i:Nat}{g:List (List Int×List D)}(h:Gd i g)(k:List Int):(∀x∈insM g k,x.2.length<=i)/\(insM g k).length<=i+1/\((insM g k).map (·.1)).Nodup:=by
 unfold insM;split;exact⟨h.len,DN h.few,h.nd⟩;rename_i G;refine⟨λx l=>?_,by rw[lA];exact DV h.few,?_⟩;rcases Bx.mp l with z|z;exact h.len x z;rw[A3.mp z];exact AW _;rw[Cp,DM];refine⟨h.nd,by simp,λx l y B e=>G ?_⟩;have B:y=k:=by simpa using B
 rw[<-B,<-e];exact l
theorem Gd.step{i:Nat}{g:List (List Int×List D)}(h:Gd i g)(p:List Int×D):Gd (i+1) (aBq g p):=by obtain⟨l,B,G⟩:=h.ins p.1;refine⟨λx I=>?_,by unfold aBq;rw[lM];exact B,by unfold aBq;rw[aAx];exact G⟩;obtain⟨y,L,rfl⟩:=AA.mp I;have:=l y L;unfold kG;split;show(y.2++[p.2]).length<=_;rw[lA];exact DV this;exact DN this
noncomputable def Bw(K:Fg)(H H':Hp):List (List Int×List D)->TKV->List Addr->Prop
 | [],xs,bs=>xs=[]/\bs=[]
 | (k,l)::g,xs,bs=>∃kb b ys r rb,xs=(k,kb,.ref b)::r/\bs=b::rb/\SqT K H kb (k.map V.int)/\H b=none/\H' b=some (.lst ys)/\noLs l=true/\Reps K H (λ_=>False) l ys/\Bw K H H' g r rb
section
variable {K:Fg} {H H' H'':Hp}
theorem Bw.imp:∀{g:List (List Int×List D)} {xs:TKV} {bs:List Addr},Bw K H H' g xs bs->(∀b∈bs,∀ys,H' b=some (.lst ys)->H'' b=some (.lst ys))->Bw K H H'' g xs bs
 | [],_,_,h,_=>h|(k,l)::g,_,_,h,f=>by obtain⟨kb,b,ys,r,rb,B,rfl,G,I,L,M,U,W⟩:=h;exact⟨kb,b,ys,r,rb,B,rfl,G,I,f b Aj ys L,M,U,W.imp λc Z=>f c (Ae _ Z)⟩
theorem Bw.keys:∀{g:List (List Int×List D)} {xs:TKV} {bs:List Addr},Bw K H H' g xs bs->xs.map (·.1)=g.map (·.1)/\(∀x∈xs,SqT K H x.2.1 (x.1.map V.int))/\∀b∈bs,H b=none/\∃ys,H' b=some (.lst ys)
 | [],_,_,h=>by obtain⟨rfl,rfl⟩:=h;exact⟨rfl,(λ_ z=>by cases z),λ_ z=>by cases z⟩|(k,l)::g,_,_,h=>by obtain⟨kb,b,ys,r,rb,rfl,rfl,B,G,I,W,Z,L⟩:=h;obtain⟨g1,g2,g3⟩:=L.keys;refine⟨by rw[mC,mC,g1],λx U=>?_,λc M=>?_⟩;rcases Ao.mp U with z|z;rw[z];exact B;exact g2 x z;rcases Ao.mp M with z|z;rw[z];exact⟨G,ys,I⟩;exact g3 c z
theorem Bw.snoc{k:List Int}{B q:Addr}(I:SqT K H B (k.map V.int))(L:H q=none)(M:H' q=some (.lst [])):∀{g:List (List Int×List D)} {xs:TKV} {bs:List Addr},Bw K H H' g xs bs->Bw K H H' (g++[(k,[])]) (xs++[(k,B,.ref q)]) (bs++[q])
 | [],_,_,h=>by obtain⟨rfl,rfl⟩:=h;exact⟨B,q,[],[],[],rfl,rfl,I,L,M,rfl,rfl,rfl,rfl⟩|(k',l)::g,_,_,h=>by obtain⟨G,b,ys,r,rb,rfl,rfl,U,W,Z,z4,z5,z6⟩:=h;exact⟨G,b,ys,_,_,rfl,rfl,U,W,Z,z4,z5,Bw.snoc I L M z6⟩
theorem tJ{k:List Int}{d:D}:∀{g:List (List Int×List D)},k∉g.map (·.1)->g.map (kG k d)=g
 | [],_=>rfl|x::g,h=>by rw[mC,Ao,not_or] at h;rw[mC,tJ h.2];unfold kG;rw[if_neg λz=>h.1 z.symm]
theorem pE:∀{ds:List D} {d:D},noLs ds=true->noL d=true->noLs (ds++[d])=true
 | [],d,_,h=>by simp[noLs,h]|e::ds,d,h,h2=>by simp only[noLs,bA,List.cons_append] at h ⊢;exact⟨h.1,pE h.2 h2⟩
theorem Bw.look{k:List Int}{m:Nat}:∀{g:List (List Int×List D)} {xs:TKV} {bs:List Addr},Bw K H H' g xs bs->(g.map (·.1)).Nodup->bs.Nodup->(∀x∈g,x.2.length<=m)->k∈g.map (·.1) ->
 ∃G b ys,EC xs k=some (G,.ref b)/\b∈bs/\H' b=some (.lst ys)/\ys.length<=m/\∀(d:D) (u:V),noL d=true->Rep K H (λ_=>False) d u->Bw K H (upd H' b (.lst (ys++[u]))) (g.map (kG k d)) xs bs
 | [],_,_,_,_,_,_,B=>by cases B|(k',l)::g,_,_,h,n1,n2,hl,B=>by
  obtain⟨G,b,ys,r,rb,rfl,rfl,W,Z,h3,h4,L,h6⟩:=h;rw[mC,AG] at n1;rw[AG] at n2;unfold EC;rw[Gc];by_cases e:k'=k;subst e;simp only[Kc];refine⟨G,b,ys,rfl,Aj,h3,by rw[<-L.length];exact hl (k',l) Aj,λd u M U=>?_⟩;rw[mC,tJ n1.1];have I:kG k' d (k',l)=(k',l++[d]):=by unfold kG;rw[if_pos rfl]
  rw[I];refine⟨G,b,ys++[u],r,rb,rfl,rfl,W,Z,aK,pE h4 M,L.append ⟨u,[],rfl,U,rfl⟩,h6.imp λc hc zs e=>?_⟩;rw[aD λz=>n2.1 (by rw[<-z];exact hc)];exact e;simp only[Be e];have B:k∈g.map (·.1):=by rcases Ao.mp B with z|z;exact absurd z.symm e;exact z
  obtain⟨kc,c,zs,g1,g2,g3,g4,g5⟩:=h6.look n1.2 n2.2 (λx hx=>hl x (Ae _ hx)) B;refine⟨kc,c,zs,g1,Ae _ g2,g3,g4,λd u M U=>?_⟩;rw[mC];have I:kG k d (k',l)=(k',l):=by unfold kG;rw[if_neg e]
  rw[I];refine⟨G,b,ys,r,rb,rfl,rfl,W,Z,?_,h4,L,g5 d u M U⟩;rw[aD λz=>n2.1 (by rw[z];exact g2)];exact h3
theorem Bw.rep(s:aE H H'):∀{g:List (List Int×List D)} {xs:TKV} {bs:List Addr},Bw K H H' g xs bs->RepM K H' (λb=>H b≠none) (g.flatMap λx=>[.tup (x.1.map D.int),.lst x.2]) xs
 | [],_,_,h=>by obtain⟨rfl,rfl⟩:=h;rfl|(k,l)::g,_,_,h=>by obtain⟨W,b,ys,r,Z,rfl,rfl,B,G,I,L,M,U⟩:=h;rw[List.flatMap_cons];exact⟨k,W,.ref b,.ref b,r,rfl,rfl,aE.seqT s B,rfl,⟨b,ys,rfl,SqL.of I,λz=>z G,Reps.free _ _ L (M.grow s)⟩,U.rep s⟩
end
section
variable {X:Cx} {P:Pg} {Γ:Ct} {n:Nat}
theorem aKz(M:Mc X P Γ n){st:List BR}(h:aBx Γ st=true){sa:Addr}{xs:List V}{H:Hp}{ds:List D}{ps:List (List Int×D)}{ex:Addr->Prop}{Z:Ends}(hq:SqL X.K H sa xs)(hr:Reps X.K H ex ds xs)(hp:gN ds=some ps)(hl:ps.length<lim)
 (hQ:∀u H',aE H H'->Rep X.K H' (λb=>H b≠none) (uZ (dR ps)) u->Z.rt u H'):∃t,PSs X st t/\t Z [some (.ref sa),none,none,none] H:=by
 unfold aBx at h;split at h;rename_i s1 s2 s3;obtain⟨c1,c2,c3⟩:=cR h;clear h;unfold dU at c3;obtain⟨⟨tg,v⟩,⟨p,rfl⟩,g⟩:=aC c1;clear c1;obtain⟨x,⟨p1,e1⟩,g⟩:=aC g;have e1:tg=.Name x p1:=e1;subst e1;obtain⟨hx,g⟩:=bW g;obtain⟨_,⟨p2,e2⟩,_⟩:=aC g;have e2:v=.Dict [] [] p2:=e2;subst e2;unfold aR at hx;obtain⟨x1,x2,x3⟩:=cR hx;obtain⟨rv,⟨p3,rfl⟩,g3⟩:=aC c3;clear c3;obtain⟨v3,e3,g3⟩:=sG g3;subst e3;obtain⟨x8,⟨p4,e4⟩,g4⟩:=aC g3;have e4:v3=.Name x8 p4:=e4;subst e4;obtain⟨⟨tg,z1,body⟩,⟨p5,rfl⟩,g2⟩:=aC c2;clear c2;obtain⟨t1,t2,t3⟩:=cR g2;obtain⟨y,⟨p6,e6⟩,t6⟩:=aC t2;have e6:z1=.Name y p6:=e6;subst e6;rcases body with _|⟨s,_|⟨_,_⟩⟩
 cases t3;have t3:aBw Γ s=true:=t3;unfold aBw at t3;obtain⟨c,⟨p7,e7⟩,t4⟩:=aC t3;clear t3;subst e7;obtain⟨⟨o,m,as,l⟩,⟨ap,cp,e8,el⟩,t5⟩:=aC t4;clear t4;have e8:c=.Call (.Attribute o m ap) as [] cp:=e8;subst e8;obtain⟨a1,a2,a3,a4⟩:=nP t5;clear t5;have a1:m=("append" : Str):=eq_of_beq a1;subst a1;have z6:(ap.endLine==cp.line)=true:=el.trans a2;rcases as with _|⟨z,_|⟨_,_⟩⟩
 cases a3;obtain⟨zn,⟨p9,e9⟩,a5⟩:=aC a3;have e9:z=.Name zn p9:=e9;subst e9;obtain⟨⟨o2,m2,q8,l2⟩,⟨q7,w3,q1,z4⟩,b3⟩:=aC a4;have q1:o=.Call (.Attribute o2 m2 q7) q8 [] w3:=q1;subst q1;obtain⟨b1,b2,b3,b4⟩:=nP b3;have b1:m2=("setdefault" : Str):=eq_of_beq b1;subst b1;have z5:(q7.endLine==w3.line)=true:=z4.trans b2;obtain⟨x5,⟨x0,q2⟩,b9⟩:=aC b3;have q2:o2=.Name x5 x0:=q2;subst q2;rcases q8 with _|⟨kk,_|⟨ll,_|⟨_,_⟩⟩⟩
 cases b4;cases b4;obtain⟨b6,b5⟩:=bW b4;obtain⟨kn,⟨x4,q3⟩,b7⟩:=aC b6;have q3:kk=.Name kn x4:=q3;subst q3;obtain⟨lc,⟨x6,q4⟩,b8⟩:=aC b5;have q4:ll=.List lc x6:=q4;cases lc with
 | cons _ _=>cases b8|nil=>
  subst q4;have z9:Fz (A2 X.prog X.w) X.A X.env X.xe:=M.own;refine⟨_,iH (jE (i:=1) M.nd (by rw[M.N];exact eq_of_beq x1) (M.loc x2) wW rfl (M.st x x2)) (iH (aAT z9 M.calm (aDL (cC M t6)) (aAm M t1) (pV (fS (rQ Cn Fw Fx oC
   (aEe (by have:=M.units;omega) (cC M b9) (bV (cC M b7) (bV (uS cU) cU rfl) rfl) rfl rfl z5 rfl rfl) (bV (cC M a5) cU rfl) rfl rfl z6 rfl rfl)))) (pV (pW (cC M g4)))),?_⟩
  intro G q5;have s0:aE H (upd H G (cZ G [])):=aE.new q5;obtain⟨pg,pn⟩:=pD ds ps hp;have lx:xs.length=ps.length:=by rw[<-hr.length,pg,lM]
  have sl:=vT;refine⟨.ref sa,rfl,sa,rfl,⟨xs,s0.seq hq⟩,aAU (xs:=xs) (λi σV H'=>∃B bs s2 s3,σV=[some (.ref sa),some (.ref G),s2,s3]/\aE H H'/\H' G=some (cZ G B)/\(G::bs).Nodup/\Gd i (dR (ps.take i))/\Bw X.K H H' (dR (ps.take i)) B bs)
   ⟨[],[],none,none,rfl,s0,aK,by simp,⟨λ_ z=>(by cases z),As 0,EU⟩,rfl,rfl⟩ ?_ ?_ ?_⟩
  rintro i σV H' hi ⟨_,_,_,_,_,s,_⟩;exact s.seq hq;rintro i u σV H' hu ⟨B,bs,v2,v3,rfl,s,hD,nd,gd,bw⟩;have hi:i<xs.length:=(Ai.mp hu).1;obtain⟨d,hd,rd⟩:=hr.get' hu;have w9:ps[i]? = some ps[i]:=Ac (by omega);have z8:d=.tup [.tup (ps[i].1.map D.int),ps[i].2]:=by rw[pg,Ak,w9] at hd;exact(Au hd).symm
  have w7:noL ps[i].2=true:=pn _ (Bt _);have w4:dR (ps.take (i+1))=aBq (dR (ps.take i)) ps[i]:=by unfold dR;rw[IU,w9,List.foldl_append];rfl
  rw[z8] at rd;obtain⟨ta,zs,rfl,qt,rz⟩:=rd;obtain⟨kv,r1,rfl,rk,fv,r2,rfl,rf,rfl⟩:=rz;obtain⟨kb,ks,rfl,qk,x7⟩:=rk;have z3:ks=ps[i].1.map V.int:=fF (X:=X) (hJ _) x7;subst z3;refine⟨ta,[.ref kb,fv],rfl,aE.seqT s qt,rfl,.ref kb,_,rfl,fv,[],rfl,rfl,?_⟩;obtain⟨k1,k2,k3⟩:=bw.keys;obtain⟨i1,i2,i3⟩:=gd.ins ps[i].1;have lt:B.length<=i:=by have:=congrArg Fl k1;rw[lM,lM] at this;rw[this];exact gd.few
  rw[AG] at nd;have w5:∀(H1:Hp) (L:TKV) (U:List Addr) (z2 b:Addr),aE H H1->H1 G=some (cZ G L)->(G::U).Nodup->Bw X.K H H1 (insM (dR (ps.take i)) ps[i].1) L U->EC L ps[i].1=some (z2,.ref b) ->
   tyV X.K "list" (.ref b) H1/\(aFB (aDH 3) aGG) [some (.ref sa),some (.ref G),some (.ref kb),some fv] H1 λvs H2=>wU (.ref b) vs H2 λ_ H3=>∃B bs s2 s3,[some (V.ref sa),some (.ref G),some (.ref kb),some fv]=[some (.ref sa),some (.ref G),s2,s3]/\aE H H3/\H3 G=some (cZ G B)/\(G::bs).Nodup/\Gd (i+1) (dR (ps.take (i+1)))/\Bw X.K H H3 (dR (ps.take (i+1))) B bs:=λH1 L U z2 b sH z7 q0 q9 ea=>by
   rw[AG] at q0;have w6:ps[i].1∈(insM (dR (ps.take i)) ps[i].1).map (·.1):=by unfold insM;split;assumption;rw[Cp];exact AC _ Aj
   obtain⟨q6,b2,ys,l1,l2,l3,l4,l5⟩:=q9.look i3 q0.2 i1 w6;rw[ea] at l1;cases l1;refine⟨.inl ⟨rfl,ys,SqL.of l3⟩,fv,rfl,b,ys,fv,rfl,rfl,l3,by omega,L,U,some (.ref kb),some fv,rfl,λa o e=>?_,?_,AG.mpr q0,by rw[w4];exact gd.step _,by rw[w4];exact l5 _ _ w7 (Rep.free _ _ w7 rf)⟩;rw[aD λz=>by rw[z,(q9.keys.2.2 b l2).1] at e;cases e];exact sH a o e;rw[aD λz=>q0.1 (by rw[z];exact l2)];exact z7
  refine⟨.ref G,rfl,G,B,rfl,hD,λz hz=>aE.seqT s (k2 z hz),.ref kb,rfl,AW _,λq I=>⟨kb,ps[i].1,.ref q,rfl,?_,λz hz=>?_,?_,by omega,λp ep=>?_,λen u ru=>?_⟩⟩;rw[aD (aN hD I)];exact hD;exact aE.seqT (s.trans (aE.new I)) (k2 z hz);exact aE.seqT (s.trans (aE.new I)) qk;have W:ps[i].1∈(dR (ps.take i)).map (·.1):=by
   rw[<-k1];unfold EC at ep;cases hf:B.find? (λx=>decide (x.1=ps[i].1)) with
   | none=>rw[hf] at ep;cases ep|some w=>have:=List.find?_some hf;rw[<-of_decide_eq_true this];exact List.mem_map_of_mem (List.mem_of_find?_eq_some hf)
  obtain⟨q6,b2,ys,l1,l2,l3,l4,l5⟩:=bw.look gd.nd nd.2 gd.len W;rw[ep] at l1;cases l1;have s4:aE H' (upd H' q (.lst [])):=aE.new I;refine⟨.ref b2,rfl,w5 _ B bs q6 b2 (s.trans s4) (s4 _ _ hD) (AG.mpr nd) ?_ ep⟩;have ei:insM (dR (ps.take i)) ps[i].1=dR (ps.take i):=by unfold insM;rw[if_pos W]
  rw[ei];exact bw.imp λc hc zs e=>s4 _ _ e;have ru:u=A5 q:=ru;subst ru;have w8:ps[i].1∉(dR (ps.take i)).map (·.1):=λW=>by obtain⟨q6,b2,ys,l1,_⟩:=bw.look gd.nd nd.2 gd.len W;rw[en] at l1;cases l1
  have s4:aE H' (upd H' q (.lst [])):=aE.new I;have z0:q≠G:=λz=>by rw[z,hD] at I;cases I
  refine w5 (upd (upd H' q (.lst [])) G (cZ G (B++[(ps[i].1,kb,.ref q)]))) _ (bs++[q]) kb q (λa o e=>?_) aK ?_ ?_ ?_;rw[aD (aN e q5)];exact(s.trans s4) a o e;rw[AG,Bx,DM];refine⟨λz=>z.elim nd.1 λz=>z0 (A3.mp z).symm,nd.2,by simp,λa ha b hb e=>?_⟩;rw[A3.mp hb] at e;obtain⟨_,ys,z⟩:=k3 a ha;rw[e,I] at z;cases z;have ei:insM (dR (ps.take i)) ps[i].1=dR (ps.take i)++[(ps[i].1,[])]:=by unfold insM;rw[if_neg w8]
  rw[ei];refine Bw.snoc qk (s.free I) (by rw[aD z0];exact aK) (bw.imp λc hc zs e=>?_);rw[aD λz=>nd.1 (by rw[<-z];exact hc)];exact s4 _ _ e;unfold EC at en ⊢;rw[List.find?_append];cases hf:B.find? (λx=>decide (x.1=ps[i].1)) with
  | some w=>rw[hf] at en;cases en|none=>simp
  rintro σV H' ⟨B,bs,v2,v3,rfl,s,hD,nd,gd,bw⟩;rw[lx,FD] at bw;exact⟨.ref G,rfl,hQ _ H' s ⟨G,B,rfl,hD,λz=>z q5,bw.rep s⟩⟩
 cases b4;cases a3;cases t3;cases h
end
section
variable {K:Fg}
theorem nA{ds:List D}{vs:List V}{H:Hp}{Y:Addr->Prop}{m:Nat}(G:∀a,Y a->H a≠none)(t:Tk K H)(r:Reps K H Y ds vs):Sx K (λ_=>False) Y (λb=>H b≠none) ((ds.map λd=>Sl.sh true d)++Ag m Sl.dead) (vs.map some++Ag m none) H:=by
 have len:=r.length;have get:∀{i:Nat} {s:Sl},((ds.map λd=>Sl.sh true d)++Ag m Sl.dead)[i]? = some s->s=.dead\/∃d,s=.sh true d/\ds[i]? = some d:=λ{i s} e=>by by_cases hi:i<ds.length;rw[Aw (by simpa using hi),Ak,Ac hi] at e;cases e;exact .inr ⟨ds[i],rfl,Ac hi⟩;rw[Ax (by simpa using hi),A7] at e;split at e;cases e;exact .inl rfl;cases e
 exact {
  sh:=λi pa d e=>by
   rcases get e with z|⟨d',z,q⟩
   cases z;cases z;obtain⟨v,I,rv⟩:=r.get q;have hi:i<vs.length:=(Ai.mp I).1;refine⟨v,?_,rv.weak λa z=>?_⟩;rw[Aw (by simpa using hi),Ak,I];rfl;rcases z with z|z|⟨z,_⟩
   exact z.elim;exact z;cases z
  own:=λi pa ds' e=>by
   rcases get e with z|⟨d',z,q⟩
   cases z;cases z
  trk:=λa z=>by rcases z with z|z|z;exact z.elim;exact G a z;exact z
  yo:=G
  tk:=t
  rt:=λ_ z=>z.elim
  inj:=λi j pa pa' l B a e=>by
   rcases get e with z|⟨d',z,q⟩
   cases z;cases z
  len:=by rw[lA,lA,lM,lM,A4,A4,len]
  dx:={
   at2:=λi ds' e=>by
    rcases get e with z|⟨d',z,q⟩
    cases z;cases z
   one:=λi j l B e=>by
    rcases get e with z|⟨d',z,q⟩
    cases z;cases z } }
end
section
variable {RT Y J:Addr->Prop} {σ:Sg}
theorem Sx.put2{K:Fg}{σV:L2.St}{H H':Hp}{N:Addr->Prop}(S:Sx K RT Y J σ σV H){i:Nat}{dss:List (List D)}{a:Addr}{bs:List Addr}
 (u:∀j dd,σ[j]? = some (.own2 dd)->j=i) (t:Tk K H') (U:∀b,N b->H b=none/\∃xs,H' b=some (.lst xs))
 (kp:∀b o,H b=some o->¬ (Pt RT J σ σV b/\∃xs,o=.lst xs)->H' b=some o) (kr:∀b xs,H b=some (.lst xs)->Pt RT J σ σV b->∃xs,H' b=some (.lst xs))
 (hb:∀b∈a::bs,N b\/Pt RT J σ σV b) (nd:(a::bs).Nodup) (ha:H' a=some (.lst (bs.map V.ref))) (hr:Rws K H' dss bs) :
 Sx K (λb=>RT b\/N b) Y J (σ.set i (.own2 dss)) (σV.set i (some (.ref a))) H':=by
 have np:∀b o,H b=some o->(∀xs,o≠.lst xs)->¬ (Pt RT J σ σV b/\∃xs,o=.lst xs):=λb o e n z=>by obtain⟨_,xs,e'⟩:=z;exact n xs e'
 have kT:∀b ks,SqT K H b ks->SqT K H' b ks:=λb ks q=>by rcases q with(q|⟨o,q⟩)|q;exact .inl (.inl (kp _ _ q (np _ _ q λ_ e=>by cases e)));exact .inl (.inr ⟨o,kp _ _ q (np _ _ q λ_ e=>by cases e)⟩);exact .inr q
 have kL:∀b xs,¬ RT b->SqL K H b xs->¬ N b/\SqL K H' b xs:=λb xs n q=>by
  have np:∀o:HO,¬ (Pt RT J σ σV b/\∃xs,o=.lst xs):=λo z=>n z.1.1;refine⟨λz=>?_,?_⟩;obtain⟨Z,ys,z2⟩:=U b z;rcases q with(q|⟨o,q⟩)|⟨o,its,m,q,_⟩
  rw[Z] at q;cases q;rw[Z] at q;cases q;rw[t b (by rw[z2];simp)] at q;cases q;rcases q with(q|⟨o,q⟩)|q;exact .inl (.inl (kp _ _ q (np _)));exact .inl (.inr ⟨o,kp _ _ q (np _)⟩);exact .inr q
 have kD:∀b ks,H b=some (.dK ks)->H' b=some (.dK ks):=λb ks q=>kp _ _ q (np _ _ q λ_ e=>by cases e);have kX:∀(pa:Bool) b xs,¬ (RT b\/exB Y J pa b)->SqL K H b xs->¬ ((RT b\/N b)\/exB Y J pa b)/\SqL K H' b xs:=λpa b xs n q=>by obtain⟨k1,k2⟩:=kL b xs (λz=>n (.inl z)) q;refine⟨λz=>?_,k2⟩;rcases z with(z|z)|z;exact n (.inl z);exact k1 z;exact n (.inr z)
 have kO:∀(pa:Bool) b o,Ox o->¬ (RT b\/exB Y J pa b)->H b=some o->¬ ((RT b\/N b)\/exB Y J pa b)/\H' b=some o:=λpa b o _ n q=>by refine⟨λz=>?_,kp b o q λz=>n (.inl z.1.1)⟩;rcases z with(z|z)|z;exact n (.inl z);rw[(U b z).1] at q;cases q;exact n (.inr z)
 have W:∀b,H b≠none->H' b≠none:=λb q=>by
  cases e:H b with
  | none=>exact absurd e q|some o=>by_cases I:Pt RT J σ σV b/\∃xs,o=.lst xs;obtain⟨I,xs,rfl⟩:=I;obtain⟨xs,e⟩:=kr b xs e I;rw[e];simp;rw[kp b o e I];simp
 exact {
  sh:=λj pa d e=>by
   rcases set_some e with⟨_,z,_⟩|⟨l,e⟩
   cases z;obtain⟨v,B,G⟩:=S.sh j pa d e;exact⟨v,by rw[Ah l];exact B,Rep.imp kT (kX pa) kD (kO pa) d v G⟩
  own:=λj pa ds e=>by
   rcases set_some e with⟨_,z,_⟩|⟨l,e⟩
   cases z;obtain⟨b,xs,B,G,h3,h4,h5⟩:=S.own j pa ds e;exact⟨b,xs,by rw[Ah l];exact B,kp _ _ G λz=>z.1.2.2 j pa ds e B,.inl h3,h4,Reps.imp kT (kX pa) kD (kO pa) ds xs h5⟩
  trk:=λb z=>by rcases z with(z|z)|z;exact W b (S.trk b (.inl z));obtain⟨_,xs,e⟩:=U b z;rw[e];simp;exact W b (S.trk b (.inr z))
  yo:=S.yo
  tk:=t
  rt:=λb z=>by rcases z with z|z;obtain⟨xs,e⟩:=S.rt b z;by_cases I:Pt RT J σ σV b;exact kr b xs e I;exact⟨xs,kp _ _ e λw=>I w.1⟩;exact(U b z).2
  inj:=λj j' pa pa' ds ds' b L M e3 e4=>by
   rcases set_some L with⟨_,z,_⟩|⟨B,L⟩
   cases z;rcases set_some M with⟨_,z,_⟩|⟨G,M⟩
   cases z;rw[Ah B] at e3;rw[Ah G] at e4;exact S.inj j j' pa pa' ds ds' b L M e3 e4
  len:=by rw[Ay,Ay];exact S.len
  dx:={
   at2:=λj dd e=>by
    rcases set_some e with⟨rfl,z,hl⟩|⟨l,e⟩
    cases z;refine⟨a,bs,Ar (by rw[<-S.len];exact hl),ha,λb hm=>?_,nd,hr⟩;have own:∀(p:∀(k:Nat) (pa:Bool) (ds:List D),σ[k]? = some (.own pa ds)->σV[k]?≠some (some (.ref b))) (k:Nat) (pa:Bool) (ds:List D),(σ.set i (.own2 dss))[k]? = some (.own pa ds)->(σV.set i (some (.ref a)))[k]?≠some (some (.ref b)):=λp k pa ds e=>by
     rcases set_some e with⟨_,z,_⟩|⟨q1,e⟩
     cases z;rw[Ah q1];exact p k pa ds e
    rcases hb b hm with z|z;have Z:=(U b z).1;refine⟨.inr z,λo=>S.trk b (.inr (.inr o)) Z,own λk pa ds e v=>?_⟩;obtain⟨c,xs,B,G,_⟩:=S.own k pa ds e;rw[v] at B;cases B;rw[Z] at G;cases G;exact⟨.inl z.1,z.2.1,own z.2.2⟩;exact absurd (u j dd e).symm l
   one:=λj j' dd q0 L M=>by
    have k:∀j dd,(σ.set i (.own2 dss))[j]? = some (.own2 dd)->j=i:=λj dd e=>by
     rcases set_some e with⟨rfl,_,_⟩|⟨_,e⟩
     rfl;exact u j dd e
    rw[k j dd L,k j' q0 M] } }
theorem Sx.kill2{K:Fg}{σV:L2.St}{H H':Hp}(S:Sx K RT Y J σ σV H){i:Nat}
 (u:∀j dd,σ[j]? = some (.own2 dd)->j=i) (t:Tk K H')
 (kp:∀b o,H b=some o->¬ Pt RT J σ σV b->H' b=some o) (kr:∀b,Pt RT J σ σV b->∃xs,H' b=some (.lst xs)) :
 Sx K RT Y J (σ.set i .dead) σV H':=by
 have np:∀b o,H b=some o->(∀xs,o≠.lst xs)->¬ Pt RT J σ σV b:=λb o e n z=>by obtain⟨xs,L⟩:=S.rt b z.1;rw[L] at e;cases e;exact n xs rfl
 have W:∀b ks,SqT K H b ks->SqT K H' b ks:=λb ks q=>by rcases q with(q|⟨o,q⟩)|q;exact .inl (.inl (kp _ _ q (np _ _ q λ_ e=>by cases e)));exact .inl (.inr ⟨o,kp _ _ q (np _ _ q λ_ e=>by cases e)⟩);exact .inr q
 have kL:∀b xs,¬ RT b->SqL K H b xs->SqL K H' b xs:=λb xs n q=>by have np:¬ Pt RT J σ σV b:=λz=>n z.1;rcases q with(q|⟨o,q⟩)|q;exact .inl (.inl (kp _ _ q np));exact .inl (.inr ⟨o,kp _ _ q np⟩);exact .inr q
 have kD:∀b ks,H b=some (.dK ks)->H' b=some (.dK ks):=λb ks q=>kp _ _ q (np _ _ q λ_ e=>by cases e);have U:∀(pa:Bool) b o,Ox o->¬ (RT b\/exB Y J pa b)->H b=some o->¬ (RT b\/exB Y J pa b)/\H' b=some o:=λpa b o _ n q=>⟨n,kp _ _ q λz=>n (.inl z.1)⟩
 have Z:∀(pa:Bool) b xs,¬ (RT b\/exB Y J pa b)->SqL K H b xs->¬ (RT b\/exB Y J pa b)/\SqL K H' b xs:=λpa b xs n q=>⟨n,kL b xs (λz=>n (.inl z)) q⟩
 have I:∀b,H b≠none->H' b≠none:=λb q=>by
  by_cases l:Pt RT J σ σV b;obtain⟨xs,e⟩:=kr b l;rw[e];simp;cases e:H b with
  | none=>exact absurd e q|some o=>rw[kp b o e l];simp
 have dd:∀{j:Nat} {s:Sl},(σ.set i .dead)[j]? = some s->s≠.dead->σ[j]? = some s/\i≠j:=λ{j s} e n=>by
  rcases set_some e with⟨_,z,_⟩|⟨h,e⟩
  exact absurd z.symm n;exact⟨e,h⟩
 exact {
  sh:=λj pa d e=>by obtain⟨v,B,G⟩:=S.sh j pa d (dd e (λz=>by cases z)).1;exact⟨v,B,Rep.imp W (Z pa) kD (U pa) d v G⟩
  own:=λj pa ds e=>by have e:=(dd e (λz=>by cases z)).1;obtain⟨b,xs,B,G,h3,h4,h5⟩:=S.own j pa ds e;exact⟨b,xs,B,kp _ _ G λz=>z.2.2 j pa ds e B,h3,h4,Reps.imp W (Z pa) kD (U pa) ds xs h5⟩
  trk:=λb z=>I b (S.trk b z)
  yo:=S.yo
  tk:=t
  rt:=λb z=>by by_cases l:Pt RT J σ σV b;exact kr b l;obtain⟨xs,e⟩:=S.rt b z;exact⟨xs,kp _ _ e l⟩
  inj:=λj M pa pa' ds ds' b e1 e2=>S.inj j M pa pa' ds ds' b (dd e1 (λz=>by cases z)).1 (dd e2 (λz=>by cases z)).1
  len:=by rw[Ay];exact S.len
  dx:={
   at2:=λj dss e=>by obtain⟨e,n⟩:=dd e (λz=>by cases z);exact absurd (u j dss e).symm n
   one:=λj M dss dss' e L=>by
    obtain⟨e,n⟩:=dd e (λz=>by cases z);exact absurd (u j dss e).symm n } }
theorem Sx.shrink{K:Fg}{σV:L2.St}{H:Hp}{bs:List Addr}(S:Sx K RT Y J σ σV H)(G:∀b∈bs,Pt RT J σ σV b)(I:∀(j:Nat) (dd:List (List D)),σ[j]?≠some (Sl.own2 dd)):Sx K (λc=>RT c/\c∉bs) Y J σ σV H where
 sh:=λj pa d q=>by obtain⟨v,g1,g2⟩:=S.sh j pa d q;exact⟨v,g1,g2.weak λc z=>z.imp (·.1) id⟩
 own:=λj pa ds q=>by obtain⟨c,xs,g1,g2,g3,l,B⟩:=S.own j pa ds q;exact⟨c,xs,g1,g2,⟨g3,λz=>(G c z).2.2 j pa ds q g1⟩,l,B.weak λc z=>z.imp (·.1) id⟩
 trk:=λc z=>S.trk c (z.imp (·.1) id)
 yo:=S.yo
 tk:=S.tk
 rt:=λc z=>S.rt c z.1
 inj:=S.inj
 len:=S.len
 dx:={
  at2:=λj dd q=>absurd q (I j dd)
  one:=S.dx.one }
theorem Sx.putOw{K:Fg}{σV:L2.St}{H:Hp}{i:Nat}{pa:Bool}{ds:List D}{a:Addr}{xs:List V}(S:Sx K RT Y J (σ.set i .dead) σV H)(Z:∀(j:Nat) (dd:List (List D)),(σ.set i .dead)[j]?≠some (Sl.own2 dd))(L:σV[i]? = some (some (.ref a)))(ha:H a=some (.lst xs))(hr:RT a)(ho:¬ J a)
 (U:∀(k:Nat) (pa:Bool) (ds:List D),(σ.set i .dead)[k]? = some (.own pa ds)->σV[k]?≠some (some (.ref a))) (r:Reps K H (λa=>RT a\/exB Y J pa a) ds xs):Sx K RT Y J (σ.set i (.own pa ds)) σV H:=by
 have o:∀{j:Nat} {s:Sl},(σ.set i (.own pa ds))[j]? = some s->(j=i/\s=.own pa ds)\/(σ.set i .dead)[j]? = some s:=λ{j s} q=>by
  rcases set_some q with⟨rfl,z,_⟩|⟨n,q⟩
  exact .inl ⟨rfl,z.symm⟩;exact .inr (by rw[Ah n];exact q)
 exact {
  sh:=λj M dd q=>S.sh j M dd ((o q).resolve_left λz=>by cases z.2)
  own:=λj M dd q=>by rcases o q with⟨rfl,z⟩|q;cases z;exact⟨a,xs,L,ha,hr,ho,r⟩;exact S.own j M dd q
  trk:=S.trk
  yo:=S.yo
  tk:=S.tk
  rt:=S.rt
  inj:=λj W pa pa' ds ds' c B l G I=>by rcases o B with⟨rfl,_⟩|B;rcases o l with⟨rfl,_⟩|l;rfl;rw[L] at G;cases G;exact absurd I (U _ _ _ l);rcases o l with⟨rfl,_⟩|l;rw[L] at I;cases I;exact absurd G (U _ _ _ B);exact S.inj j W pa pa' ds ds' c B l G I
  len:=by have:=S.len;rw[Ay] at this ⊢;exact this
  dx:={
   at2:=λj dd q=>absurd ((o q).resolve_left λz=>by cases z.2) (Z j dd)
   one:=λj W dd q0 q _=>absurd ((o q).resolve_left λz=>by cases z.2) (Z j dd) } }
theorem Sx.thaw{K:Fg}{σV:L2.St}{H H':Hp}(S:Sx K RT Y J σ σV H){i:Nat}{dss:List (List D)}{a:Addr}{bs:List Addr}{pa:Bool}{ds:List D}(e:σ[i]? = some (.own2 dss))(L:σV[i]? = some (some (.ref a)))(M:H a=some (.lst (bs.map V.ref)))(l:∀b∈a::bs,Pt RT J σ σV b)(nd:(a::bs).Nodup)(t:Tk K H')
 (kp:∀b o,H b=some o->b∉bs->H' b=some o) (U:∀b∈bs,∃xs,H' b=some (.lst xs)) (r:Reps K H' (λb=>(RT b/\b∉bs)\/exB Y J pa b) ds (bs.map V.ref)):Sx K (λc=>RT c/\c∉bs) Y J (σ.set i (.own pa ds)) σV H':=by
 have u:∀j dd,σ[j]? = some (.own2 dd)->j=i:=λj dd q=>S.dx.one j i dd dss q e;have I:=S.kill2 (i:=i) (H':=H') u t (λb o q n=>by
  by_cases hb:b∈bs;exact absurd (l b (Ae _ hb)) n;exact kp b o q hb) (λb z=>by
  by_cases hb:b∈bs;exact U b hb;obtain⟨xs,q⟩:=S.rt b z.1;exact⟨xs,kp b _ q hb⟩)
 have G:∀(j:Nat) (dd:List (List D)),(σ.set i .dead)[j]?≠some (Sl.own2 dd):=λj dd q=>by
  rcases set_some q with⟨_,z,_⟩|⟨n,q⟩
  cases z;exact n (u j dd q).symm
 have pt:∀b∈a::bs,Pt RT J (σ.set i .dead) σV b:=λb hb=>⟨(l b hb).1,(l b hb).2.1,λk pa ds q=>by
  rcases set_some q with⟨_,z,_⟩|⟨n,q⟩
  cases z;exact(l b hb).2.2 k pa ds q⟩
 have B:a∉bs:=(AG.mp nd).1;exact(I.shrink (bs:=bs) (λb hb=>pt b (Ae _ hb)) G).putOw G L (kp _ _ M B) ⟨(l a Aj).1,B⟩ (l a Aj).2.1 (pt a Aj).2.2 r
end
section
variable {X:Cx} {P:Pg} {Γ:Ct} {n:Nat} {RT Y J:Addr->Prop} {σ:Sg} {pos:CF}
theorem tK:∀{ds:List D} {dss:List (List D)},fC ds=some dss->ds=dss.map .lst/\∀es∈dss,noLs es=true
 | [],_,h=>by cases h;exact⟨rfl,λ_ z=>by cases z⟩|d::ds,_,h=>by
  unfold fC at h;split at h;rename_i e;cases e;rename_i es r e;cases e;split at h;rename_i I;cases q:fC ds with
  | none=>rw[q] at h;cases h|some dss=>rw[q] at h;cases h;obtain⟨B,G⟩:=tK q;refine⟨by rw[B];rfl,λx l=>?_⟩;rcases Ao.mp l with rfl|l;exact I;exact G x l
  cases h;cases h
theorem aHP{i y:Nat}{x:Str}{p q6:CF}(M:Mc X P Γ n)(hx:aR Γ i x=true){e tg q0:Av}{q9:List Av}{scope:Da}{N':List Str}(CS:bT X scope 1 [] N')
 (hi:PI X tg q0 (wI X P n RT Y J σ (.seq (.v y))))
 (w4:∀C s₀ H₀ ex,PG (bX X scope N' C s₀ H₀ ex) tg (gT X.K (.n 0))/\(∀RT Y J l,PTs (bX X scope N' C s₀ H₀ ex) q9 (wTs X P n RT Y J l .nil))/\∀RT Y J l,PE (bX X scope N' C s₀ H₀ ex) e (WE X P n RT Y J l (.bi .list (.cons (.v 0) .nil))))
 (hs:∀x,BV q0 X.env x=pure x):PS X (.Assign [.Name x p] (.ListComp e [⟨tg,q0,q9,0⟩] scope q6) pos) (wS X RT Y J σ (ex P (call P n) σ (.set2 i y))):=by
 unfold aR at hx;obtain⟨h1,h2,h3⟩:=cR hx;refine bP (lY (g:=gT X.K (.n 0)) (tt:=λσV H Q=>∃RT Y J l,wTs X P n RT Y J l .nil σV H Q) (te:=λσV H Q=>∃RT Y J l,WE X P n RT Y J l (.bi .list (.cons (.v 0) .nil)) σV H Q) CS M.calm hi (λC s₀ H₀ ex=>?_) hs M.nd (by rw[M.N];exact eq_of_beq h1) (M.loc h2) (M.st x h2)) λD0 σV H t0 ⟨S,h⟩=>?_;obtain⟨h1,h2,h3⟩:=w4 C s₀ H₀ ex;exact⟨h1,λpins s σV H Q I ⟨RT,Y,J,l,hw⟩=>h2 RT Y J l pins s σV H Q I hw,λpins s σV H Q I ⟨RT,Y,J,l,hw⟩=>h3 RT Y J l pins s σV H Q I hw⟩;have h:=OE.from (show OE X.K (XW X) RT Y J H (O.from σ (bU σ y) λv=>match v.d with
  | .lst ds=>(match fC ds,rS σ with
   | some dss,true=>if ds.length<=lim then .next (σ.set i (.own2 dss)) else .bad|_,_=>.bad)
  | _=>.bad) D0 from h)
 obtain⟨v,ev,h⟩:=h.eq;cases hd:v.d with
 | lst ds=>
  rw[hd] at h;have h:OE X.K (XW X) RT Y J H (match fC ds,rS σ with
   | some dss,true=>if ds.length<=lim then .next (σ.set i (.own2 dss)) else .bad|_,_=>.bad) D0:=h
  cases hr:fC ds with
  | none=>rw[hr] at h;exact h.elim|some dss=>
   rw[hr] at h;cases hn:rS σ with
   | false=>rw[hn] at h;exact h.elim|true=>
    rw[hn] at h;have h:OE X.K (XW X) RT Y J H (if ds.length<=lim then .next (σ.set i (.own2 dss)) else .bad) D0:=h;split at h;rename_i z3;obtain⟨rd,rn⟩:=tK hr;have no2:∀j dd,σ[j]? = some (.own2 dd)->j=i:=λj dd ej=>by have:=A9.mp hn _ (mG ej);cases this
    have hw:RE (walk P (call P n) σ (.seq (.v y))) λxs=>xs=(items v ds,v.al):=by
     show RE (bU σ y >>= λx=>(match x.d with
      | .lst ds=>R.ok (items x ds,x.al)|.tup ds=>R.ok (items x ds,x.al)|_=>.bad)) _
     rw[ev];show RE (match v.d with
      | .lst ds=>R.ok (items v ds,v.al)|.tup ds=>R.ok (items v ds,v.al)|_=>.bad) _
     rw[hd];rfl
    refine⟨S,hw.mono λxs hx J'' H1 t1 s1 ok=>?_⟩;subst hx;have q4:(items v ds).length=dss.length:=by rw[rd];simp[items]
    have z4:ds.length=dss.length:=by rw[rd];simp
    refine⟨λk m ys B L=>m=dss.length-k/\k<=dss.length/\aE H1 L/\Tk X.K L/\B.length=1/\∃bs,ys=bs.map V.ref/\bs.Nodup/\(∀b∈bs,H1 b=none)/\Rws X.K L (dss.take k) bs,⟨_,rfl,AW _,aE.refl _,t1,rfl,[],rfl,EU,λ_ z=>(by cases z),rfl⟩,?_⟩;rintro k m ys B L ⟨hm,hk,sc,tc,q8,bs,rfl,nd,Z,G⟩;have q5:=ok.ok (λ_=>False) (λ_ z=>z.elim) k L (Kp.same sc);obtain⟨rl,rg⟩:=G.get;rw[AI] at rl;by_cases W:k<dss.length;refine .inr ⟨q5.1 (by rw[q4];exact W),by rw[lM,AS];have:lim=1000000:=rfl;omega,λu H' hy=>?_⟩;have w5:ds[k]? = some (.lst dss[k]):=by rw[rd,Ak,Ac W];rfl
    obtain⟨sm,z2,rv⟩:=q5.2.2 u H' hy (v.sub (.lst dss[k])) (by unfold items;rw[Ak,w5];rfl);have rv:Rep X.K H' (λ_=>False) (.lst dss[k]) u:=by
     have e:(v.sub (.lst dss[k])).d=.lst dss[k]:=by unfold Vl.sub Vl.cl;split <;> rfl
     rw[e] at rv;exact rv.weak λ_ z=>z.elim
    have t2:=z2 tc;have es:B.set 0 (some u)=[some u]:=by
     cases B with
     | nil=>cases q8|cons a r=>cases r with|nil=>rfl|cons _ _=>cases q8
    have z0:∀Q:L2.St->Hp->Prop,Q [some u] H'->gT X.K (.n 0) u B H' Q:=λQ q=>by show Q (B.set 0 (some u)) H';rw[es];exact q
    refine z0 _ ?_;have Sc:∀{H3:Hp},aE H' H3->Tk X.K H3->Sx X.K (λ_=>False) (λ_=>False) (λb=>H3 b≠none) [.sh true (.lst dss[k])] [some u] H3:=λ{H3} U t3=>nA (ds:=[.lst dss[k]]) (vs:=[u]) (m:=0) (Y:=λ_=>False) (λ_ z=>z.elim) t3 ⟨u,[],rfl,rv.grow U,rfl⟩;refine⟨_,_,_,_,Sc (aE.refl _) t2,λH3 t3 U=>?_⟩;dsimp only;rw[if_pos rfl];have nk:noLs dss[k]=true:=rn _ (Bt W);refine⟨_,_,_,_,Sc U t3,?_⟩;show RE (R.ok (Vl.mk (.lst dss[k]) true ((true&&!noL (.lst dss[k]))&&!noLs dss[k]) (if noLs dss[k] then [] else []))) _;intro u4 H4 t4 w3;have hf:=w3.2;rw[if_pos rfl] at hf;obtain⟨c,zs,z5,e1,e2,e3,e4,rr⟩:=hf;cases e2;subst e1;have s4:aE L H4:=sm.trans (U.trans w3.1);have q7:L c=none:=sm.free (U.free e3);refine⟨_,by omega,rfl,W,sc.trans s4,t4,rfl,bs++[c],by simp,?_,?_,?_⟩;rw[DM];refine⟨nd,by simp,λa ha b hb=>?_⟩;have:b=c:=by simpa using hb
    subst this;intro z;subst z;obtain⟨xs,q⟩:=G.at a ha;rw[q7] at q;cases q;intro b hb;rcases Bx.mp hb with z|z;exact Z b z;have:b=c:=by simpa using z
    rw[this];exact sc.free q7;refine Rws.of (by rw[AI,lA,DT];omega) λj es b g1 g2=>?_;by_cases hj:j<bs.length;rw[Aw hj] at g2;rw[C0,if_pos (by omega)] at g1;obtain⟨xs,q1,q2,q3⟩:=rg j es b (by rw[C0,if_pos (by omega)];exact g1) g2;exact⟨xs,s4 _ _ q1,q2,q3.grow s4⟩;rw[Ax (by omega)] at g2;have w6:j-bs.length=0:=by have:=(Ai.mp g2).1;simp at this;omega
    rw[w6] at g2;cases g2;have w7:j=k:=by omega
    subst w7;rw[C0,if_pos (Bz j),Ac W] at g1;cases g1;exact⟨zs,e4,nk,rr.weak λ_ z=>z.elim⟩;have w8:k=dss.length:=by omega
    subst w8;rw[FD] at G rg;refine .inl ⟨q5.2.1 (by rw[q4];exact As _),by rw[lM,AS];have:lim=1000000:=rfl;omega,λa ha=>?_⟩;intro t';have s2:aE H L:=s1.trans sc;have w9:∀d,d≠a->upd L a (.lst (bs.map V.ref)) d=L d:=λd z=>aD z;have z1:∀d∈bs,d≠a:=λd hd z=>by obtain⟨xs,q⟩:=G.at d hd;rw[z,ha] at q;cases q
    have U:aE L (upd L a (.lst (bs.map V.ref))):=λd o eo=>by rw[w9 d (λz=>by rw[z,ha] at eo;cases eo)];exact eo
    have S2:=S.put2 (N:=λd=>d=a\/d∈bs) (i:=i) (dss:=dss) (a:=a) (bs:=bs) no2 t' (λd z=>by
     rcases z with z|z;subst z;exact⟨s2.free ha,_,aK⟩;obtain⟨xs,q⟩:=G.at d z;exact⟨s1.free (Z d z),xs,U _ _ q⟩) (λd o eo _=>U _ _ (s2 _ _ eo)) (λd xs q _=>⟨xs,U _ _ (s2 _ _ q)⟩) (λd hd=>.inl ((Ao.mp hd).imp id id)) (AG.mpr ⟨λhm=>z1 a hm rfl,nd⟩) aK (G.imp (λ_ _ q=>aE.seqT U q) λd _ xs q=>U _ _ q)
    refine h _ _ _ (Kp.same (s2.trans U)) (λd z=>z.imp id λz=>?_) S2;rcases z with z|z;rw[z];exact s2.free ha;exact s1.free (Z d z);exact h.elim
 | _=>rw[hd] at h;exact h.elim
theorem Rws.reps_set{K:Fg}{H H':Hp}{ex:Addr->Prop}{c:Addr}{ys:List V}{es:List D}(l:∀b o,H b=some o->b≠c->H' b=some o)(B:H' c=some (.lst ys))(U:Reps K H' ex es ys)(hl:∃xs,H c=some (.lst xs)):∀{dss:List (List D)} {bs:List Addr} {k:Nat},Rws K H dss bs->bs.Nodup->bs[k]? = some c->(∀b∈bs,¬ ex b)->Reps K H' ex ((dss.map D.lst).set k (.lst es)) (bs.map V.ref)
 | [],bs,k,h,_,e,_=>by rw[show bs=[] from h] at e;cases e|ds::dss,_,k,h,nd,e,n=>by
  obtain⟨b,r,xs,rfl,h1,L,h3,M⟩:=h;obtain⟨Z,nr⟩:=AG.mp nd;have W:∀b ks,SqT K H b ks->SqT K H' b ks:=λb ks q=>by
   have ne:∀o,H b=some o->(∀xs,o≠.lst xs)->b≠c:=λo e n z=>by obtain⟨xs,q⟩:=hl;rw[z,q] at e;cases e;exact n xs rfl
   rcases q with(q|⟨o,q⟩)|q;exact .inl (.inl (l _ _ q (ne _ q λ_ e=>by cases e)));exact .inl (.inr ⟨o,l _ _ q (ne _ q λ_ e=>by cases e)⟩);exact .inr q
  have sq:∀b,(∃xs,H b=some (.lst xs))->b≠c->H' b=H b:=λb ⟨xs,q⟩ n=>by rw[l b _ q n,q]
  cases k with
  | zero=>cases e;refine⟨.ref c,r.map V.ref,rfl,⟨c,ys,rfl,SqL.of B,n c Aj,U⟩,?_⟩;have G:Rws K H' dss r:=M.imp W λb hb xs q=>l b _ q λz=>Z (by rw[<-z];exact hb);exact G.reps λb hb=>n b (Ae _ hb)|succ k=>have e:r[k]? = some c:=e;have I:b≠c:=λz=>Z (by rw[z];exact mG e);exact⟨.ref b,r.map V.ref,rfl,⟨b,xs,rfl,SqL.of (l b _ h1 I),n b Aj,Reps.free _ _ L (Reps.noT W ds xs L h3)⟩,Rws.reps_set l B U hl M nr e λc hc=>n c (Ae _ hc)⟩
theorem aHQ{i:Nat}{ss:Ss}{xs:List BR}(hs:∀RT σ,PSs X xs (wS X RT Y J σ (exs P (call P n) σ ss))):PSs X xs (wS X RT Y J σ (exs P (call P n) σ (.cons (.thaw i) ss))):=by
 refine dI (qT hs) λD σV H t ⟨S,h⟩=>?_;have h:OE X.K (XW X) RT Y J H (O.on (match σ[i]? with|some (.own2 dss)=>O.next (σ.set i (.own false (dss.map .lst)))|_=>.bad) λσ'=>exs P (call P n) σ' ss) D:=h;split at h;rename_i dss e;have h:OE X.K (XW X) RT Y J H (exs P (call P n) (σ.set i (.own false (dss.map .lst))) ss) D:=h;obtain⟨a,bs,G,I,l,L,B⟩:=S.dx.at2 i dss e;have out:∀b∈bs,¬ ((RT b/\b∉bs)\/exB Y J false b):=λb hb z=>by have p:=l b (Ae _ hb);rcases z with z|z|z;exact z.2 hb;exact p.2.1 (S.yo b z);exact p.2.1 z.2
 exact⟨_,_,S.thaw e G I l L t (λ_ _ q _=>q) (λb hb=>B.at b hb) (B.reps out),(OE.mono (Kp.refl RT H) (λb z=>.inl z.1) h).tkE⟩;exact h.elim
noncomputable def aEO:V->List V->Hp->VK->Prop:=λx vs H Q=>∃l xs k y,x=.ref l/\vs=[.int k,y]/\H l=some (.lst xs)/\0<=k/\k<1000000/\xs.length<sizeLine/\Q .non (upd H l (.lst (xs.take k.toNat++y::xs.drop k.toNat)))
theorem aCE(its:List Value)(k:Nat)(u:Value):((its.toArray.extract 0 (min k its.length)).push u++its.toArray.extract (min k its.length)).toList=its.take k++u::its.drop k:=by
 have l:its.take (min k its.length)=its.take k:=by rw[<-List.take_take];simp
 have B:its.drop (min k its.length)=its.drop k:=by by_cases h:k<=its.length;rw[Ip h];rw[Nat.min_eq_right (by omega),Eb,List.drop_eq_nil_of_le (by omega)]
 simp[l,B];exact CZ (by rw[BO];omega)
theorem aAy:MtM X "list.insert" aEO:=by
 intro pins s σ H x vs v us Q I rx rv h;obtain⟨l,xs,k,y,rfl,rfl,U,W,Z,hz,q⟩:=h;cases rx;obtain⟨u1,G,rfl,L,M⟩:=rv.two;obtain⟨t,rfl⟩:=L;obtain⟨z,its,n,r,hl,e⟩:=I.lstM U;have B:¬ (!Fa k)=true:=by unfold Fa;simp;omega
 refine FP Fy ⟨_,e,rfl⟩ PySem.F.entry_list_insert (PySem.F.args_list_insert_3 _ _ _) (FX l its.toArray n k t G B (by rw[Al];omega)) ⟨e,?_⟩;refine⟨.non,_,I.lset (its':=its.take k.toNat++G::its.drop k.toNat) U e ?_ ((r.take k.toNat).append (.cons M (r.drop k.toNat))) ?_,rfl,q⟩;show((its.toArray.extract 0 (if k<0 then (k+((its.toArray.size:Nat):Int)).toNat else min k.toNat its.toArray.size)).push G++its.toArray.extract (if k<0 then (k+((its.toArray.size:Nat):Int)).toNat else min k.toNat its.toArray.size))=_;rw[if_neg (by omega)];apply FA.mp;exact aCE its k.toNat G;rw[lA,lC,AI,BO];omega
theorem yE{σV:L2.St}{H B:Hp}{i q:Nat}{dss:List (List D)}{a:Addr}{bs:List Addr}{es:List D}{ys xs:List V}{pa:Bool}{Q:L2.St->Hp->Prop}(S:Sx X.K RT Y J σ σV H)(Z:σ[i]? = some (.own2 dss))(h1:σV[i]? = some (some (.ref a)))(h2:H a=some (.lst (bs.map V.ref)))
 (M:∀b∈a::bs,Pt RT J σ σV b) (U:(a::bs).Nodup) (h5:Rws X.K H dss bs) {b:Addr} (l:bs[q]? = some b) (hb:H b=some (.lst xs)) (s2:aE H B) (t2:Tk X.K B) (t:Tk X.K (upd B b (.lst ys)))
 (r:Reps X.K (upd B b (.lst ys)) (λc=>(RT c/\c∉bs)\/exB Y J pa c) es ys) (h:cS X.K RT Y J H (σ.set i (.own pa ((dss.map Hp.D.lst).set q (.lst es)))) Q):Q σV (upd B b (.lst ys)):=by
 have hm:b∈bs:=mG l;have L:∀c∈bs,Pt RT J σ σV c:=λc l=>M c (Ae _ l);have I:∀c o,B c=some o->c≠b->(upd B b (.lst ys)) c=some o:=λc o q n=>by rw[aD n];exact q
 have G:Rws X.K B dss bs:=h5.imp (λ_ _ q=>aE.seqT s2 q) λc l xs q=>s2 _ _ q;have out:∀c∈bs,¬ ((RT c/\c∉bs)\/exB Y J pa c):=λc l z=>by rcases z with z|z|z;exact z.2 l;exact(L c l).2.1 (S.yo c z);exact(L c l).2.1 z.2
 have rr:=Rws.reps_set (H':=upd B b (.lst ys)) I aK r ⟨xs,s2 _ _ hb⟩ G (AG.mp U).2 l out;have W:=(S.grow s2 t2).thaw Z h1 (s2 _ _ h2) M U t (λc o q n=>I c o q λz=>n (by rw[z];exact hm)) (λc l=>by
  by_cases z:c=b;rw[z];exact⟨_,aK⟩;obtain⟨xs,q⟩:=G.at c l;exact⟨xs,I _ _ q z⟩) rr
 exact h _ _ _ (λc o q n=>I c o (s2 _ _ q) λz=>n (by rw[z];exact(L _ hm).1)) (λc z=>.inl z.1) W
theorem aCF{H:Hp}{b:Addr}{xs ys:List V}(hb:H b=some (.lst xs)):∀c ks,SqT X.K H c ks->SqT X.K (upd H b (.lst ys)) c ks:=λc ks q=>by
 have ne:∀o,H c=some o->(∀xs,o≠.lst xs)->c≠b:=λo e n z=>by rw[z,hb] at e;cases e;exact n xs rfl
 rcases q with(q|⟨o,q⟩)|q;exact .inl (.inl (by rw[aD (ne _ q λ_ e=>by cases e)];exact q));exact .inl (.inr ⟨o,by rw[aD (ne _ q λ_ e=>by cases e)];exact q⟩);exact .inr q
theorem hX:∀{ds:List D} (m:Nat),noLs ds=true->noLs (ds.eraseIdx m)=true
 | [],_,h=>h|d::ds,0,h=>by simp only[noLs,bA] at h;exact h.2|d::ds,m+1,h=>by simp only[noLs,bA,List.eraseIdx_cons_succ] at h ⊢;exact⟨h.1,hX m h.2⟩
theorem aHR{i:Nat}{I L:E}{x:Str}{p p1 ap cp:CF}{ix a:Av}(M:Mc X P Γ n)(hx:aZ Γ i x=true)(hk:PE X ix (WE X P n RT Y J σ I))(q1:aI ix=true)(ha:PE X a (WE X P n RT Y J σ L))(hp:aI a=true)(hl:(ap.endLine==cp.line)=true) :
 PS X (.Expr (.Call (.Attribute (.Subscript (.Name x p) ix p1) "pop" ap) [a] [] cp) pos) (wS X RT Y J σ (ex P (call P n) σ (.chg i I L .nil))):=by
 refine bP (fS (rQ Cn PySem.F.slot_list_pop PySem.F.type_list_pop aBn (aBj pZ (cC M hx) hk (gY q1)) (bV ha cU (aB hp)) rfl (by rw[aB hp];rfl) hl (aB hp) rfl)) λD σV H t ⟨S,h⟩=>?_;have h:=OE.from (show OE X.K (XW X) RT Y J H (O.from σ (ev P (call P n) σ I) λkv=>O.from σ (ev P (call P n) σ L) λmv=>(match σ[i]?,kv.d,mv.d with
  | some (.own2 dss),.int k,.int m=>(match ixN dss.length k with
   | some k=>lP σ i dss k (dss.getD k []) m []|none=>.bad)
  | _,_,_=>.bad)) D from h)
 obtain⟨kv,ek,h⟩:=h.eq;obtain⟨mv,em,h⟩:=(OE.from h).eq;split at h;rename_i dss k m U e2 e3;split at h;rename_i q hq;obtain⟨ad,bs,W,Z,h3,h4,h5⟩:=S.dx.at2 i dss U;obtain⟨a',G,b,xs,g1,g2,g3,g4,B,g6,g7⟩:=aCy S U hq;rw[W] at g1;cases g1;rw[Z] at g2;have eb:bs=G:=by
  have:=Au g2;injection this with this
  have:=congrArg (KY λv:V=>match v with|.ref a=>a|_=>0) this;rw[Bb,Bb] at this;have f:((λv:V=>match v with|.ref a=>a|_=>0)∘V.ref)=id:=by funext a;rfl
  rw[f,Fp,Fp] at this;exact this
 subst eb;have h:OE X.K (XW X) RT Y J H (if 0<=m/\m<((dss.getD q []).length:Int)/\m<1000000 then .next (σ.set i (.own false ((dss.map Hp.D.lst).set q (.lst ((dss.getD q []).eraseIdx m.toNat))))) else .bad) D:=h;split at h;rename_i hm;refine⟨.ref ad,W,S,?_⟩;rw[ek];intro uk H1 t1 l;have S1:=S.grow l.1 t1;refine⟨ad,bs.map V.ref,k,.ref b,rfl,(l.rv S).int e2,SqL.of (l.1 _ _ Z),g4,.inl ⟨rfl,xs,SqL.of (l.1 _ _ B)⟩,S1,?_⟩;rw[em];intro u H2 t2 r2;have s2:=l.1.trans r2.1;have hl:=g7.length;have q0:m.toNat<xs.length:=by omega
 refine⟨b,xs,m,m.toNat,xs[m.toNat],rfl,by rw[(r2.rv S1).int e3],s2 _ _ B,by omega,by omega,?_,Ac q0,λt'=>?_⟩;exact Ik hm.1 (by omega);refine yE S U W Z h3 h4 h5 g3 B s2 t2 t' ?_ h;exact Reps.free _ _ (hX _ g6) (Reps.noT (aCF (s2 _ _ B)) _ _ (hX _ g6) ((g7.grow s2).eraseIdx m.toNat));exact h.elim;exact h.elim;exact h.elim
theorem aHS{i:Nat}{ck cm c:E}{x:Str}{p p1 ap cp:CF}{ix a z:Av}(M:Mc X P Γ n)(hx:aZ Γ i x=true)(hk:PE X ix (WE X P n RT Y J σ ck))(q1:aI ix=true)(ha:PE X a (WE X P n RT Y J σ cm))(hp:aI a=true)(hz:PE X z (WE X P n RT Y J σ c))(G:aI z=true)(hl:(ap.endLine==cp.line)=true) :
 PS X (.Expr (.Call (.Attribute (.Subscript (.Name x p) ix p1) "insert" ap) [a,z] [] cp) pos) (wS X RT Y J σ (ex P (call P n) σ (.chg i ck cm (.cons c .nil)))):=by
 refine bP (fS (rQ Cn Fy PySem.F.type_list_insert aAy (aBj pZ (cC M hx) hk (gY q1)) (bV ha (bV hz cU (aB G)) (aB hp)) rfl (by rw[aB hp,aB G];rfl) hl (aB hp) (by rw[aB G];rfl))) λD σV H t ⟨S,h⟩=>?_;have h:=OE.from (show OE X.K (XW X) RT Y J H (O.from σ (ev P (call P n) σ ck) λkv=>O.from σ (ev P (call P n) σ cm) λmv=>O.from σ (ev P (call P n) σ c >>= λx=>R.ok [x]) λvs=>(match σ[i]?,kv.d,mv.d with
  | some (.own2 dss),.int k,.int m=>(match ixN dss.length k with
   | some k=>lP σ i dss k (dss.getD k []) m vs|none=>.bad)
  | _,_,_=>.bad)) D from h)
 obtain⟨kv,ek,h⟩:=h.eq;obtain⟨mv,em,h⟩:=(OE.from h).eq;obtain⟨v,ez,h⟩:=(RE.bind' (OE.from h)).eq;have h:OE X.K (XW X) RT Y J H (match σ[i]?,kv.d,mv.d with
  | some (.own2 dss),.int k,.int m=>(match ixN dss.length k with
   | some k=>lP σ i dss k (dss.getD k []) m [v]|none=>.bad)
  | _,_,_=>.bad) D:=h
 split at h;rename_i dss k m e1 e2 e3;split at h;rename_i q hq;obtain⟨ad,bs,h1,h2,h3,h4,h5⟩:=S.dx.at2 i dss e1;obtain⟨a',q0,b,xs,g1,g2,g3,g4,L,g6,g7⟩:=aCy S e1 hq;rw[h1] at g1;cases g1;rw[h2] at g2;have eb:bs=q0:=by
  have:=Au g2;injection this with this
  have:=congrArg (KY λv:V=>match v with|.ref a=>a|_=>0) this;rw[Bb,Bb] at this;have f:((λv:V=>match v with|.ref a=>a|_=>0)∘V.ref)=id:=by funext a;rfl
  rw[f,Fp,Fp] at this;exact this
 subst eb;have h:OE X.K (XW X) RT Y J H (if 0<=m/\m<1000000/\(dss.getD q []).length<lim/\v.al=[]/\v.fr=false then .next (σ.set i (.own v.pa ((dss.map Hp.D.lst).set q (.lst ((dss.getD q []).take m.toNat++v.d::(dss.getD q []).drop m.toNat))))) else .bad) D:=h;split at h;rename_i hm;refine⟨.ref ad,h1,S,?_⟩;rw[ek];intro uk H1 t1 Z;have S1:=S.grow Z.1 t1;refine⟨ad,bs.map V.ref,k,.ref b,rfl,(Z.rv S).int e2,SqL.of (Z.1 _ _ h2),g4,.inl ⟨rfl,xs,SqL.of (Z.1 _ _ L)⟩,S1,?_⟩;rw[em];intro u H2 t2 r2;have S2:=S1.grow r2.1 t2;refine⟨S2,?_⟩;rw[ez];intro I H3 t3 r3;have s3:=(Z.1.trans r2.1).trans r3.1;have hl:=g7.length;have U:=hm.2.2.1;unfold lim at U;refine⟨b,xs,m,I,rfl,by rw[((r2.rv S1).grow r3.1).int e3],s3 _ _ L,hm.1,hm.2.1,by rw[AS];omega,λt'=>?_⟩;have B:b∈bs:=mG g3;have hR:∀c∈bs,Pt RT J σ σV c:=λc hc=>h3 c (Ae _ hc);have kT:=aCF (X:=X) (ys:=xs.take m.toNat++I::xs.drop m.toNat) (s3 _ _ L);have q3:∀c ys,c=b->¬ (RT c\/exB Y J v.pa c)->SqL X.K H3 c ys->False:=λc ys e n _=>n (.inl (by rw[e];exact(hR _ B).1));have rv:=r3.rv S2;unfold Rv at rv;rw[hm.2.2.2.1] at rv;have rz:Rep X.K H3 (λc=>RT c\/exB Y J v.pa c) v.d I:=rv.weak λc z=>z.imp (λz=>⟨z,λ⟨_,w,_⟩=>by cases w⟩) id;have q2:Rep X.K (upd H3 b (.lst (xs.take m.toNat++I::xs.drop m.toNat))) (λc=>(RT c/\c∉bs)\/exB Y J v.pa c) v.d I:=Rep.imp kT (λc ys W l=>by
  have nb:c≠b:=λe=>W (.inl (by rw[e];exact(hR _ B).1));refine⟨λz=>W (z.imp (·.1) id),?_⟩;rcases l with(l|⟨o,l⟩)|l;exact .inl (.inl (by rw[aD nb];exact l));exact .inl (.inr ⟨o,by rw[aD nb];exact l⟩);exact .inr l) (λc ks l=>by
  rw[aD λe=>by rw[e,s3 _ _ L] at l;cases l];exact l) (λc o _ W l=>⟨λz=>W (z.imp (·.1) id),by rw[aD λe=>W (.inl (by rw[e];exact(hR _ B).1))];exact l⟩) v.d I rz
 have rx:Reps X.K (upd H3 b (.lst (xs.take m.toNat++I::xs.drop m.toNat))) (λc=>(RT c/\c∉bs)\/exB Y J v.pa c) (dss.getD q []) xs:=Reps.free _ _ g6 (Reps.noT kT _ _ g6 (g7.grow s3));exact yE S e1 h1 h2 h3 h4 h5 g3 L s3 t3 t' ((rx.take m.toNat).append (.cons q2 (rx.drop m.toNat))) h;exact h.elim;exact h.elim;exact h.elim
end
section
variable {P:Pg} {n:Nat} {Y J:Addr->Prop}
theorem aCG{Γ:Ct}{is:List Nat}{tg:Av}(h:lS Γ (.t is) tg=true):∃es k p,tg=.Tuple es k p:=by
 cases tg with
 | Tuple es k p=>exact⟨es,k,p,rfl⟩|_=>cases h
theorem aAz{Γ:Ct}{i:Nat}{tg:Av}(h:lS Γ (.n i) tg=true):∃x p,tg=.Name x p/\aR Γ i x=true:=by
 cases tg with
 | Name x p=>exact⟨x,p,rfl,h⟩|_=>cases h
theorem aAA{Γ:Ct}{c:E}{e:Av}(h:aL Γ c e=true)(l:jI e=true):∃k caps t it cond elt,c=.comp k caps t it cond elt:=by
 cases c with
 | comp k caps t it cond elt=>exact⟨k,caps,t,it,cond,elt,rfl⟩|c d=>rcases(BZ _ _).mp (show(oS (asC e) (eqC d)||oS (asN e) λx=>bD Γ x&&aX x&&oB (Γ.cns.lookup x) (eqK d))=true from h) with h|h;obtain⟨_,⟨_,_,rfl⟩,_⟩:=aC h;cases l;obtain⟨_,⟨_,rfl⟩,_⟩:=aC h;cases l
 | v i=>obtain⟨_,⟨_,rfl⟩,_⟩:=aC h;cases l|op o a b=>obtain⟨_,⟨_,rfl⟩,_⟩:=aC h;cases l|neg a=>obtain⟨_,⟨_,rfl⟩,_⟩:=aC h;cases l|nt a=>obtain⟨_,⟨_,rfl⟩,_⟩:=aC h;cases l|an a b=>obtain⟨_,rfl,_⟩:=aC h;cases l|orr a b=>obtain⟨_,rfl,_⟩:=aC h;cases l|ife t a b=>obtain⟨_,⟨_,rfl⟩,_⟩:=aC h;cases l|cmp o a b=>obtain⟨_,⟨_,rfl⟩,_⟩:=aC h;cases l|fld j f=>obtain⟨_,⟨_,_,rfl⟩,_⟩:=aC h;cases l|mcl j m es=>obtain⟨_,⟨_,_,rfl,_⟩,_⟩:=aC h;cases l|mk j es=>obtain⟨_,⟨_,_,rfl⟩,_⟩:=aC h;cases l|dgl o k=>obtain⟨_,⟨_,_,rfl,_⟩,_⟩:=aC h;cases l|grp j=>cases h|isx _ _=>obtain⟨_,⟨_,_,rfl⟩,_⟩:=aC h;cases l|emp=>obtain⟨_,⟨_,rfl⟩,_⟩:=aC h;cases l|lrv _=>obtain⟨_,⟨_,_,rfl⟩,_⟩:=aC h;cases l|hid _ _=>obtain⟨_,⟨_,rfl⟩,_⟩:=aC h;cases l|sset a=>obtain⟨_,⟨_,_,rfl⟩,_⟩:=aC h;cases l|cmp2 B G a b c=>obtain⟨_,⟨_,rfl⟩,_⟩:=aC h;cases l|idx a b=>obtain⟨_,⟨_,rfl⟩,_⟩:=aC h;cases l|sli a lo hi=>obtain⟨_,⟨_,rfl⟩,_⟩:=aC h;cases l|tup es=>obtain⟨_,⟨_,_,rfl⟩,_⟩:=aC h;cases l|lst es=>obtain⟨_,⟨_,rfl⟩,_⟩:=aC h;cases l|call f es=>obtain⟨_,⟨_,_,rfl⟩,_⟩:=aC h;cases l|bi b es=>obtain⟨_,⟨_,_,rfl⟩,_⟩:=aC h;cases l|isi a cs=>obtain⟨_,⟨_,_,rfl⟩,_⟩:=aC h;cases l
theorem m1{Γ:Ct}{i:Nat}{m:Str}{c:Av}{f:Av->Bool}(h:(match rX Γ i m c with|some [a]=>f a|_=>false)=true):∃a,rX Γ i m c=some [a]/\f a=true:=by split at h;rename_i a q;exact⟨a,q,h⟩;cases h
abbrev QS(P:Pg)(n:Nat)(Y J:Addr->Prop)(c:S):Prop:=∀{X:Cx} {Γ:Ct},Mc X P Γ n->∀{st:BR},dU Γ c st=true->∀(RT:Addr->Prop) (σ:Sg),PS X st (wS X RT Y J σ (ex P (call P n) σ c))
abbrev QSs(P:Pg)(n:Nat)(Y J:Addr->Prop)(c:Ss):Prop:=∀{X:Cx} {Γ:Ct},Mc X P Γ n->∀{st:List BR},chkSs Γ c st=true->∀(RT:Addr->Prop) (σ:Sg),PSs X st (wS X RT Y J σ (exs P (call P n) σ c))
theorem aKA{t:T}{e:E}:QS P n Y J (.set t e):=λ{X Γ} M {st} h RT σ=>by
 unfold dU at h;obtain⟨⟨tg,v⟩,⟨p,rfl⟩,g⟩:=aC h;clear h;obtain⟨Z,L,h3⟩:=cR g;clear g;cases t with
 | n i=>
  obtain⟨x,p,l,hx⟩:=aAz Z;have l:tg=.Name x p:=l;subst l;cases hc:jI v with
  | false=>exact aHM M hx (sE e M L RT Y J σ) hc|true=>obtain⟨k,caps,t,it,cond,elt,rfl⟩:=aAA L hc;obtain⟨el,tg,I,q0,scope,G,W,O,g1,g2,g3,g4,g5⟩:=qS L;have W:v=.ListComp el [⟨tg,I,q0,0⟩] scope G:=W;subst W;refine aAw M hx (O.scope M) O.ndc O.tk (sI it M g3 RT Y J σ) (λC s₀ H₀ ex=>?_) (fW (eP g3));have U:=O.mc M C s₀ H₀ ex;exact⟨aAm U g2,λRT Y J B=>sTs cond U g1 g4 RT Y J B,λRT Y J B=>sE elt U g5 RT Y J B⟩
 | t is=>obtain⟨es,k,p,l⟩:=aCG Z;have l:tg=.Tuple es k p:=l;subst l;refine aHO M Z (sE e M L RT Y J σ) ?_;have:(false||!lT v)=true:=h3;simpa using this
theorem aKB{i j:Nat}:QS P n Y J (.mov i j):=λ{X Γ} M {st} h RT σ=>by unfold dU at h;obtain⟨⟨tg,v⟩,⟨p,rfl⟩,g⟩:=aC h;clear h;obtain⟨x,⟨L,l⟩,g⟩:=aC g;obtain⟨y,⟨U,B⟩,g⟩:=aC g;have l:tg=.Name x L:=l;have B:v=.Name y U:=B;subst l B;obtain⟨G,I⟩:=bW g;exact aKw M G I
theorem aEP{i:Nat}{k e:E}:QS P n Y J (.setIx i k e):=λ{X Γ} M {st} h RT σ=>by unfold dU at h;obtain⟨⟨tg,v⟩,⟨p,rfl⟩,g⟩:=aC h;clear h;obtain⟨⟨o,ix⟩,⟨U,l⟩,g⟩:=aC g;obtain⟨x,⟨W,B⟩,g⟩:=aC g;have l:tg=.Subscript o ix U:=l;have B:o=.Name x W:=B;subst l B;obtain⟨I,G,L⟩:=cR g;exact aEN M I (sE k M G RT Y J σ) (sE e M L RT Y J σ) (aF G)
theorem aKC{i:Nat}{e:E}:QS P n Y J (.app i e):=λ{X Γ} M {st} h RT σ=>by unfold dU at h;obtain⟨c,⟨p,rfl⟩,g⟩:=aC h;obtain⟨a,B,l⟩:=m1 (f:=λa=>aL Γ e a) g;exact aKu M B (sE e M l RT Y J σ) (aF l)
theorem aKD{i:Nat}{e:E}:QS P n Y J (.ext i e):=λ{X Γ} M {st} h RT σ=>by unfold dU at h;obtain⟨c,⟨p,rfl⟩,g⟩:=aC h;obtain⟨a,B,l⟩:=m1 (f:=λa=>aL Γ e a) g;exact aKv M B (sE e M l RT Y J σ) (aF l)
theorem aKE{e:E}:QS P n Y J (.ret e):=λ{X Γ} M {st} h RT σ=>by unfold dU at h;obtain⟨r,⟨p,rfl⟩,g⟩:=aC h;clear h;obtain⟨v,l,g⟩:=sG g;subst l;exact aKs (sE e M g RT Y J σ)
theorem aHT{i:Nat}:QS P n Y J (.retv i):=λ{X Γ} M {st} h RT σ=>by unfold dU at h;obtain⟨r,⟨p,rfl⟩,g⟩:=aC h;clear h;obtain⟨v,B,g⟩:=sG g;subst B;obtain⟨x,⟨G,l⟩,g⟩:=aC g;have l:v=.Name x G:=l;subst l;exact aHK M g
theorem aKF{c:E}{a b:Ss}(I:QSs P n Y J a)(hb:QSs P n Y J b):QS P n Y J (.iff c a b):=λ{X Γ} M {st} h RT σ=>by unfold dU at h;obtain⟨⟨t,x,y⟩,⟨p,rfl⟩,g⟩:=aC h;obtain⟨l,B,G⟩:=cR g;exact aME (sT c M l RT Y J σ) (I M B) (hb M G)
theorem aKG{t:T}{it:Hp.It}{b:Ss}(hb:QSs P n Y J b):QS P n Y J (.for t it b):=λ{X Γ} M {st} h RT σ=>by unfold dU at h;obtain⟨⟨tg,B,body⟩,⟨p,rfl⟩,g⟩:=aC h;obtain⟨G,l,I⟩:=cR g;exact aKx M G (sI it M l RT Y J σ) (hb M I) (fW (eP l))
theorem aKH{c:Str}{e:E}:QS P n Y J (.rse c e):=λ{X Γ} M {st} h RT σ=>by unfold dU at h;obtain⟨⟨x,a⟩,⟨np,I,p,rfl⟩,g⟩:=aC h;simp only[bA] at g;obtain⟨⟨⟨⟨g1,g2⟩,g3⟩,G⟩,l⟩:=g;have B:x=c:=eq_of_beq g1;subst B;exact aKr M g2 g3 (by simpa using G) (sE e M l RT Y J σ) (aF l)
theorem aMF{Γ:Ct}{f:Nat}{es:Es}{e:Av}(h:aL Γ (.call f es) e=true)(M:es≠.nil):∃g p y ys l,e=.Call (.Name g p) (y::ys) [] l/\Γ.fns[f]? = some g/\bD Γ g=true/\aX g=true/\chkEs Γ es (y::ys)=true:=by
 obtain⟨⟨g,xs⟩,⟨p,l,rfl⟩,h⟩:=aC h;obtain⟨G,I,L,B⟩:=nP h;cases xs with
 | nil=>cases es with|nil=>exact absurd rfl M|cons _ _=>cases B
 | cons y ys=>exact⟨g,p,y,ys,l,rfl,eq_of_beq G,I,L,B⟩
theorem aCH{X:Cx}{Γ:Ct}(M:Mc X P Γ n){f:Nat}{e:E}{es:Es}{x:Av}(h:aL Γ (.call f (.cons e es)) x=true)(RT:Addr->Prop)(σ:Sg):PE X x (wC X P n RT Y J σ f (.cons e es))/\jI x=false:=by obtain⟨g,p,y,ys,L,rfl,B,G,I,l⟩:=aMF h (by intro z;cases z);exact⟨aEr M B G I ((qA (.cons e es)).a M l RT Y J σ) (cH l),rfl⟩
theorem aKI{f:Nat}{e:E}{es:Es}:QS P n Y J (.exC f (.cons e es)):=λ{X Γ} M {st} h RT σ=>by unfold dU at h;obtain⟨v,⟨p,rfl⟩,g⟩:=aC h;obtain⟨l,B⟩:=aCH (Y:=Y) (J:=J) M g RT σ;exact aKt l B
theorem aHU{i f:Nat}{e:E}{es:Es}:QS P n Y J (.setC i f (.cons e es)):=λ{X Γ} M {st} h RT σ=>by unfold dU at h;obtain⟨⟨tg,v⟩,⟨p,rfl⟩,g⟩:=aC h;clear h;obtain⟨x,⟨L,l⟩,g⟩:=aC g;have l:tg=.Name x L:=l;subst l;obtain⟨I,g⟩:=bW g;obtain⟨B,G⟩:=aCH (Y:=Y) (J:=J) M g RT σ;exact aHN M I B G
theorem aHV{f:Nat}{e:E}{es:Es}:QS P n Y J (.retC f (.cons e es)):=λ{X Γ} M {st} h RT σ=>by unfold dU at h;obtain⟨r,⟨p,rfl⟩,g⟩:=aC h;clear h;obtain⟨v,l,g⟩:=sG g;subst l;exact aHL (aCH (Y:=Y) (J:=J) M g RT σ).1
theorem aKJ{b:Ss}{c:Str}{i j:Nat}(hb:QSs P n Y J b):QS P n Y J (.tryAs b c i j):=λ{X Γ} M {st} h RT σ=>by unfold dU at h;obtain⟨⟨body,x,nm,y⟩,⟨np,yp,q0,ap,hp,p,rfl⟩,g⟩:=aC h;simp only[bA] at g;obtain⟨⟨⟨⟨⟨⟨⟨⟨⟨⟨⟨g1,g2⟩,g3⟩,U⟩,W⟩,Z⟩,g7⟩,g8⟩,g9⟩,l⟩,B⟩,G⟩:=g;have L:x=c:=eq_of_beq g1;subst L;exact aKy M g2 g3 (by simpa using U) (by simpa using W) Z g7 (eq_of_beq g8) (by simpa using l) B λI RT σ=>hb I G RT σ
theorem aKK{i:Nat}{k m:E}{es:Es}:QS P n Y J (.chg i k m es):=λ{X Γ} M {st} h RT σ=>by unfold dU at h;obtain⟨c,⟨p,rfl⟩,g⟩:=aC h;clear h;obtain⟨⟨o,nm,xs,l⟩,⟨ap,cp,W,hl⟩,w⟩:=aC g;clear g;have W:c=.Call (.Attribute o nm ap) xs [] cp:=W;subst W;obtain⟨h1,h2,U⟩:=cR w;clear w;have I:(ap.endLine==cp.line)=true:=hl.trans h1;obtain⟨⟨b,ix⟩,⟨p1,Z⟩,w⟩:=aC h2;clear h2;have Z:o=.Subscript b ix p1:=Z;subst Z;obtain⟨g1,g2⟩:=bW w;clear w;obtain⟨x,⟨p2,e2⟩,g3⟩:=aC g1;clear g1;have e2:b=.Name x p2:=e2;subst e2;split at U;rename_i a B;have B:xs=[a]:=B;subst B;obtain⟨G,L⟩:=bW U;have G:nm=("pop" : Str):=eq_of_beq G;subst G;exact aHR M g3 (sE k M g2 RT Y J σ) (aF g2) (sE m M L RT Y J σ) (aF L) I;rename_i e a z B;have B:xs=[a,z]:=B;subst B;obtain⟨G,L,q3⟩:=cR U;have G:nm=("insert" : Str):=eq_of_beq G;subst G;exact aHS M g3 (sE k M g2 RT Y J σ) (aF g2) (sE m M L RT Y J σ) (aF L) (sE e M q3 RT Y J σ) (aF q3) I;cases U
theorem pF{c:S}(z:∀Γ st,dU Γ c st=false):QS P n Y J c:=by intro X Γ M st h RT σ;rw[z] at h;cases h
theorem aHW{i y:Nat}:QS P n Y J (.set2 i y):=λ{X Γ} M {st} h RT σ=>by unfold dU at h;obtain⟨⟨tg,v⟩,⟨p,rfl⟩,g⟩:=aC h;obtain⟨x,⟨p1,L⟩,g⟩:=aC g;have L:tg=.Name x p1:=L;subst L;obtain⟨hx,h2⟩:=bW g;obtain⟨Z,tg,G,W,scope,B,U,O,g1,g2,g3,g4,g5⟩:=qS h2;have U:v=.ListComp Z [⟨tg,G,W,0⟩] scope B:=U;subst U;refine aHP M hx (O.scope M) (sI (.seq (.v y)) M g3 RT Y J σ) (λC s₀ H₀ ex=>?_) (fW (eP g3));have I:=O.mc M C s₀ H₀ ex;exact⟨aAm I g2,λRT Y J l=>sTs .nil I g1 g4 RT Y J l,λRT Y J l=>sE _ I g5 RT Y J l⟩
theorem aKL:QSs P n Y J .nil:=λ{X Γ} M {st} h RT σ=>by
 cases st with
 | nil=>exact aKq|cons _ _=>exact nf h
noncomputable def aMG:S->Bool
 | .thaw _=>true|_=>false
theorem aHX{c:S}{cs:Ss}(G:QS P n Y J c)(hs:QSs P n Y J cs)(hl:aMG c=false):QSs P n Y J (.cons c cs):=λ{X Γ} M {st} h RT σ=>by
 cases st with
 | nil=>cases c <;> first|exact nf h|cases hl
 | cons x xs=>
  have h:(dU Γ c x&&chkSs Γ cs xs)=true:=by cases c <;> first|exact h|cases hl
  obtain⟨l,B⟩:=bW h;exact aHJ (G M l) (hs M B)
theorem aHY{i:Nat}{cs:Ss}(hs:QSs P n Y J cs):QSs P n Y J (.cons (.thaw i) cs):=λ{X Γ} M {st} h RT σ=>by
 have h:chkSs Γ cs st=true:=by cases st <;> exact h
 exact aHQ (hs M h)
theorem aEQ{c:S}{cs:Ss}(l:QS P n Y J c)(hs:QSs P n Y J cs):QSs P n Y J (.cons c cs):=by
 cases c with
 | thaw i=>exact aHY hs|_=>exact aHX l hs rfl
mutual
theorem sS:(c:S)->QS P n Y J c
 | .set _ _=>aKA|.mov _ _=>aKB|.setIx _ _ _=>aEP|.app _ _=>aKC|.ext _ _=>aKD|.ret _=>aKE|.retv _=>aHT|.iff _ a b=>aKF (sSs a) (sSs b)|.for _ _ b=>aKG (sSs b)|.rse _ _=>aKH|.exC _ (.cons _ _)=>aKI|.setC _ _ (.cons _ _)=>aHU|.retC _ (.cons _ _)=>aHV|.exC _ .nil=>pF λ_ _=>rfl|.setC _ _ .nil=>pF λ_ _=>rfl|.retC _ .nil=>pF λ_ _=>rfl|.tryAs b _ _ _=>aKJ (sSs b)|.thaw _=>pF λ_ _=>rfl|.chg _ _ _ _=>aKK|.set2 _ _=>aHW|.sfl _ _=>pF λ_ _=>rfl|.ini=>pF λ_ _=>rfl
theorem sSs:(c:Ss)->QSs P n Y J c
 | .nil=>aKL|.cons c cs=>aEQ (sS c) (sSs cs)
end
end
structure Tx where
 x:Str
 qual:Str
 st:BR
 N:List Str
noncomputable def aFR:Ss->Bool
 | .cons (.ret (.grp 0)) .nil=>true|_=>false
noncomputable def aHZ:Ss->Bool
 | .cons (.sfl _ _) _=>true|.cons .ini _=>true|_=>false
noncomputable def kA(Γ:Ct)(F:Fn)(t:Tx):Bool:=
 t.N.length==F.ns&&decide (F.np<=F.ns)&&decide t.N.Nodup&&(aQ t.st).kind==.function&&!(aQ t.st).isCoroutine&&!(aQ t.st).isGenerator &&
 ((t.N.take F.np).all λx=>(aQ t.st).names.lookup x==some .local||(aQ t.st).names.lookup x==some .cell)&&((aQ t.st).names.all λp=>p.2 != .free) &&
 (chkSs { Γ with N:=t.N,sc:=(aQ t.st).names,fn:=true } F.body (defBody t.st)||(aFR F.body&&decide (F.np=1)&&decide (F.ns=4)&&aBx { Γ with N:=t.N,sc:=(aQ t.st).names,fn:=true } (defBody t.st))||gU { Γ with N:=t.N,sc:=(aQ t.st).names,fn:=true } F.body (defBody t.st))
noncomputable def fL(Γ:Ct):List Fn->List Tx->Bool
 | [],[]=>true|F::Fs,t::ts=>kA Γ F t&&fL Γ Fs ts|_,_=>false
theorem eQ{Γ:Ct}:∀{l:List Fn} {ts:List Tx},fL Γ l ts=true->∀{f:Nat} {t:Tx},ts[f]? = some t->∃F,l[f]? = some F/\kA Γ F t=true
 | [],[],_,_,_,e=>by simp at e|[],_::_,h,_,_,_=>by cases h|_::_,[],h,_,_,_=>by cases h|F::l,t::ts,h,0,t',e=>by
  obtain⟨B,G⟩:=bW (show(kA Γ F t&&fL Γ l ts)=true from h);have L:t=t':=by simpa using e
  subst L;exact⟨F,rfl,B⟩
 | F::l,t::ts,h,f+1,t',e=>by obtain⟨B,G⟩:=bW (show(kA Γ F t&&fL Γ l ts)=true from h);obtain⟨I,M,U⟩:=eQ G (f:=f) (t:=t') (by simpa using e);exact⟨I,by simpa using M,U⟩
section
variable {prog:A0} {w:AH} {K:Fg} {mg:Str->Option Value} {base:Heap} {P:Pg} {Γ:Ct} {txs:List Tx}
structure Top (prog:A0) (w:AH) (K:Fg) (mg:Str->Option Value) (P:Pg) (Γ:Ct) (txs:List Tx):Prop where
 fn:∀(f:Nat) (t:Tx),txs[f]? = some t->Γ.fns[f]? = some t.x->∃fa fd,mg t.x=some (.ref fa)/\Fun K t.x t.qual t.st fa fd/\∀F,P.fns[f]? = some F->bZ K fd (t.N.take F.np) []
 fns:∀(f:Nat) (x:Str),Γ.fns[f]? = some x->∃t,txs[f]? = some t/\t.x=x
 blt:∀x∈bltNames,mg x=none
 cns:∀(x:Str) (d:D),Γ.cns.lookup x=some d->∃u v,mg x=some u/\aP v u/\∀H ex,Rep K H ex d v
 tab:∀(i:Nat) (x:Str),Γ.tbs[i]? = some x->∃a t,mg x=some (.ref a)/\P.tabs[i]? = some t/\oG prog w K a t
 obj:∀(c:Str) (k:List Str×List (Str×Nat)),P.objs.lookup c=some k->∃C,Br K AB c=some (some (.ref C))/\Cls K C/\(∀f,k.1.contains f=true->cT K C f)/\∀m f,k.2.lookup m=some f->∃t fa fd,txs[f]? = some t/\Fun K t.x t.qual t.st fa fd/\rM K C m fa/\∀F,P.fns[f]? = some F->bZ K fd (t.N.take F.np) []
 mkr:∀(j:Nat) (c:Str),Γ.obs[j]? = some c->∃q C fi t fa fd F,P.objs[j]? = some (c,q)/\P.objs.lookup c=some q/\Br K AB c=some (some (.ref C))/\q.2.lookup ("__init__" : Str)=some fi/\mg c=some (.ref C)/\Mk K C fa/\txs[fi]? = some t/\Fun K t.x t.qual t.st fa fd/\P.fns[fi]? = some F/\bZ K fd (t.N.take F.np) []/\aHZ F.body=true
 chk:fL Γ P.fns txs=true
 exc:∀(c:Str) (ab:List Cl),P.above.lookup c=some ab->∃C,oN K mg Γ.cls c ab C
 rsd:∀c∈Γ.rsd,∃ab,P.above.lookup c=some ab
 cls:∀x∈Γ.cls,∃C2,mg x=some (.ref C2)
theorem yF{k f:Nat}{F:Fn}(B:P.fns[f]? = some F){vs:List V}{H:Hp}{Q:VK}{E:XK}(h:spF K P (k+1) f vs H Q E):vs.length=F.np:=by obtain⟨ds,Y,_,r,l⟩:=h;have l:REx (xE K H E) (gP P (call P k) f ds) _:=l;unfold gP at l;rw[B] at l;have l:REx (xE K H E) (if ds.length=F.np then _ else R.bad) _:=l;split at l;rename_i hl;rw[<-r.length];exact hl;exact l.elim
structure All (prog:A0) (w:AH) (K:Fg) (mg:Str->Option Value) (base:Heap) (P:Pg) (Γ:Ct) (k:Nat):Prop where
 fn:∀(f:Nat) (x:Str),Γ.fns[f]? = some x->∃fa fd ps,mg x=some (.ref fa)/\CO K (.ref fa)=true/\bZ K fd ps []/\dG prog w K mg base (CX1 prog w) k fa fd ps (spF K P k f)
 obj:∀(c:Str) (q:List Str×List (Str×Nat)),P.objs.lookup c=some q->∃C,Br K AB c=some (some (.ref C))/\Cls K C/\(∀f,q.1.contains f=true->cT K C f)/\∀m f,q.2.lookup m=some f->∃fa fd ps,rM K C m fa/\bZ K fd ps []/\dG prog w K mg base (CX1 prog w) k fa fd ps (spF K P k f)
 ini:∀(j:Nat) (c:Str),Γ.obs[j]? = some c->∃q C fi fa fd ps,P.objs[j]? = some (c,q)/\Br K AB c=some (some (.ref C))/\q.2.lookup ("__init__" : Str)=some fi/\mg c=some (.ref C)/\Mk K C fa/\bZ K fd ps []/\dG prog w K mg base CX0 k fa fd ps (spI K P k fi c)
 mkr:∀(j:Nat) (c:Str),Γ.obs[j]? = some c->∃q C fi fa fd ps,P.objs[j]? = some (c,q)/\Br K AB c=some (some (.ref C))/\q.2.lookup ("__init__" : Str)=some fi/\mg c=some (.ref C)/\Mk K C fa/\bZ K fd ps []/\∀n',k=n'+1->dG prog w K mg base CX0 n' fa fd ps (spI K P n' fi c)
 exc:∀(c:Str) (ab:List Cl),P.above.lookup c=some ab->∃C,oN K mg Γ.cls c ab C
 rsd:∀c∈Γ.rsd,∃ab,P.above.lookup c=some ab
 cls:∀x∈Γ.cls,∃C2,mg x=some (.ref C2)
theorem Sx.cons0{Y J:Addr->Prop}{σ:Sg}{σV:L2.St}{H:Hp}{v:Option V}(S:Sx K (λ_=>False) Y J σ σV H):Sx K (λ_=>False) Y J (.dead::σ) (v::σV) H where
 sh:=λi pa d e=>by
  cases i with
  | zero=>cases e|succ i=>exact S.sh i pa d e
 own:=λi pa ds e=>by
  cases i with
  | zero=>cases e|succ i=>exact S.own i pa ds e
 trk:=S.trk
 yo:=S.yo
 tk:=S.tk
 rt:=S.rt
 inj:=λi j pa pa' ds ds' a l B G I=>by
  cases i with
  | zero=>cases l|succ i=>obtain⟨_,_,_,_,z,_⟩:=S.own i pa ds l;exact z.elim
 len:=congrArg KU S.len
 dx:={
  at2:=λi ds e=>by
   cases i with
   | zero=>cases e|succ i=>obtain⟨a,_,_,_,z,_⟩:=S.dx.at2 i ds e;exact(z a Aj).1.elim
  one:=λi j ds ds' l B=>by
   cases i with
   | zero=>cases l|succ i=>obtain⟨a,_,_,_,z,_⟩:=S.dx.at2 i ds l;exact(z a Aj).1.elim }
theorem Rep.chg{ex:Addr->Prop}{H:Hp}{x C dx:Addr}{fs fs':List (Str×V)}(B:H x=some (.ins C dx fs))(l:ex x):(∀a xs,SqT K H a xs->SqT K (upd H x (.ins C dx fs')) a xs)/\(∀a xs,¬ ex a->SqL K H a xs->¬ ex a/\SqL K (upd H x (.ins C dx fs')) a xs)/\(∀a ks,H a=some (.dK ks)->upd H x (.ins C dx fs') a=some (.dK ks)) /\
 (∀a o,Ox o->¬ ex a->H a=some o->¬ ex a/\upd H x (.ins C dx fs') a=some o):=by
 have kp:∀{a:Addr} {o:HO},H a=some o->a≠x->upd H x (.ins C dx fs') a=some o:=λ{a o} e n=>by rw[aD n];exact e
 refine⟨λa xs q=>?_,λa xs n q=>⟨n,?_⟩,λa ks q=>kp q λz=>(by rw[z,B] at q;cases q),λa o _ n q=>⟨n,kp q λz=>n (by rw[z];exact l)⟩⟩;rcases q with(q|⟨o,q⟩)|q;exact .inl (.inl (kp q λz=>by rw[z,B] at q;cases q));exact .inl (.inr ⟨o,kp q λz=>by rw[z,B] at q;cases q⟩);exact .inr q;rcases q with(q|⟨o,q⟩)|q;exact .inl (.inl (kp q λz=>n (by rw[z];exact l)));exact .inl (.inr ⟨o,kp q λz=>n (by rw[z];exact l)⟩);exact .inr q
theorem Sx.objx{Y J:Addr->Prop}{σ:Sg}{σV:L2.St}{H:Hp}{x C dx:Addr}{fs fs':List (Str×V)}(S:Sx K (λ_=>False) Y J σ σV H)(M:Y x)(B:H x=some (.ins C dx fs)):Sx K (λ_=>False) Y J σ σV (upd H x (.ins C dx fs')) where
 sh:=λi pa d e=>by obtain⟨v,I,L⟩:=S.sh i pa d e;obtain⟨g1,g2,g3,G⟩:=Rep.chg (K:=K) (fs':=fs') (ex:=λa=>False\/exB Y J pa a) B (.inr (.inl M));exact⟨v,I,Rep.imp g1 g2 g3 G d v L⟩
 own:=λi pa ds e=>by obtain⟨_,_,_,_,z,_⟩:=S.own i pa ds e;exact z.elim
 trk:=λa h z=>by by_cases l:a=x;rw[l,aK] at z;cases z;rw[aD l] at z;exact S.trk a h z
 yo:=S.yo
 tk:=λb z=>by by_cases hb:b=x;rw[hb];exact S.tk x (by rw[B];simp);rw[aD hb] at z;exact S.tk b z
 rt:=λ_ z=>z.elim
 inj:=S.inj
 len:=S.len
 dx:={
  at2:=λi ds e=>by obtain⟨a,_,_,_,z,_⟩:=S.dx.at2 i ds e;exact(z a Aj).1.elim
  one:=S.dx.one }
theorem pG{ex:Addr->Prop}{H:Hp}{f:Str}{d:D}{u:V}(h:Rep K H ex d u):∀{fs:List D} {gs:List (Str×V)},RepF K H ex fs gs->iN f fs=true->RepF K H ex (fs++[.str f,d]) (eA f u gs)
 | [],_,r,_=>by rw[show _=[] from r];exact⟨u,[],rfl,h,rfl⟩|.str g::e::r,_,B,l=>by obtain⟨x,L,rfl,G,I⟩:=B;simp only[iN,bA,bne_iff_ne,ne_eq] at l;refine⟨x,eA f u L,?_,G,pG h I l.2⟩;show(if g=f then _ else _)=_;rw[if_neg l.1]|[.str _],_,h,_=>h.elim|.non::_,_,h,_=>h.elim|.bl _::_,_,h,_=>h.elim|.int _::_,_,h,_=>h.elim|.tup _::_,_,h,_=>h.elim|.lst _::_,_,h,_=>h.elim|.err _ _::_,_,h,_=>h.elim
theorem tL(f:Str)(u:V):∀gs:List (Str×V),(eA f u gs).length<=gs.length+1
 | []=>As _|(g,x)::r=>by show(if g=f then _ else _:List (Str×V)).length<=_;split;exact CW _;exact DV (tL f u r)
noncomputable def aMH(X:Cx)(P:Pg)(n:Nat)(Y J:Addr->Prop)(c:Str)(C x:Addr)(cs:Ss):TS:=λZ σV H=>∃(σ:Sg) (p:Bool) (fs:List D) (gs:List (Str×V)) (dx:Addr) (v:Vl),σ[(0:Nat)]? = some (.sh p (.err 0 (.int 0::.str c::fs)))/\σV[(0:Nat)]? = some (some (.ref x))/\H x=some (.ins C dx gs)/\RepF X.K H Y fs gs/\gs.length<=fs.length /\
 Sx X.K (λ_=>False) Y J (σ.set 0 .dead) σV H/\exs P (call P n) σ cs=.ret v/\∀σV' H',Tk X.K H'->(∀a o,H a=some o->a≠x->H' a=some o)->Rep X.K H' (λb=>Y b/\b≠x) v.d (.ref x)->Z.nx σV' H'
theorem yG{X:Cx}{n:Nat}{Y J:Addr->Prop}{c:Str}{C x:Addr}{q:List Str×List (Str×Nat)}(M:Mc X P Γ n)(hy:Y x)(hq:P.objs.lookup c=some q)(hn:Br X.K AB c=some (some (.ref C)))(U:Cls X.K C)(W:∀f,q.1.contains f=true->cT X.K C f) :
 ∀(cs:Ss) (st:List BR),gU Γ cs st=true->PSs X st (aMH X P n Y J c C x cs)
 | .cons (.sfl f e) ss,s::st,h=>by
  obtain⟨h1,h2⟩:=bW (show((oS (rY s) λr=>oS (aBt r.1) λu=>aZ Γ 0 u.1&&(u.2==f)&&aL Γ e r.2&&!lT r.2)&&gU Γ ss st)=true from h);obtain⟨⟨tg,val⟩,⟨p,rfl⟩,g⟩:=aC h1;obtain⟨⟨xn,B⟩,⟨p1,p2,e1⟩,g⟩:=aC g;have e1:tg=.Attribute (.Name xn p1) B p2:=e1;subst e1;obtain⟨k1,k2,k3,k4⟩:=nP g;have k2:B=f:=eq_of_beq k2;subst k2;have k3:aL Γ e val=true:=k3;have ih:=yG (J:=J) M hy hq hn U W ss st h2;refine dI (iH (aGF (cC M k1) (tv:=λσV H Q=>∃σ',WE X P n (λ_=>False) Y J σ' e σV H Q) (λpins s σV H Q I ⟨σ',Z⟩=>sE e M k3 (λ_=>False) Y J σ' pins s σV H Q I Z) (by cases val <;> rfl)) ih) λD σV H tk Z=>?_;obtain⟨σ,p,fs,gs,dx,v,g1,g2,g3,g4,g5,S,l,g7⟩:=Z;have l:(O.from σ (ev P (call P n) (σ.set 0 .dead) e) λv=>match σ[(0:Nat)]? with
   | some (.sh _ (.err 0 (.int 0::.str c::fs)))=>(match P.objs.lookup c with
    | some k=>if k.1.contains B&&v.al.isEmpty&&decide (fs.length<1000)&&iN B fs then .next (σ.set 0 (.sh true (.err 0 (.int 0::.str c::(fs++[.str B,v.d]))))) else .bad|none=>.bad)
   | _=>.bad).on (λσ'=>exs P (call P n) σ' ss)=.ret v:=l
  cases he:ev P (call P n) (σ.set 0 .dead) e with
  | exc z=>rw[he] at l;cases l|bad=>rw[he] at l;cases l|ok w=>
   rw[he] at l;have l:(match σ[(0:Nat)]? with
   | some (.sh _ (.err 0 (.int 0::.str c::fs)))=>(match P.objs.lookup c with
    | some k=>if k.1.contains B&&w.al.isEmpty&&decide (fs.length<1000)&&iN B fs then .next (σ.set 0 (.sh true (.err 0 (.int 0::.str c::(fs++[.str B,w.d]))))) else .bad|none=>.bad)
   | _=>.bad:O).on (λσ'=>exs P (call P n) σ' ss)=.ret v:=l
   rw[g1] at l;have l:(match P.objs.lookup c with
    | some k=>if k.1.contains B&&w.al.isEmpty&&decide (fs.length<1000)&&iN B fs then .next (σ.set 0 (.sh true (.err 0 (.int 0::.str c::(fs++[.str B,w.d]))))) else .bad|none=>.bad:O).on (λσ'=>exs P (call P n) σ' ss)=.ret v:=l
   rw[hq] at l;have l:(if q.1.contains B&&w.al.isEmpty&&decide (fs.length<1000)&&iN B fs then .next (σ.set 0 (.sh true (.err 0 (.int 0::.str c::(fs++[.str B,w.d]))))) else .bad:O).on (λσ'=>exs P (call P n) σ' ss)=.ret v:=l;split at l;rename_i hc;obtain⟨c1,c2,c3,c4⟩:=nP hc;have c3:=of_decide_eq_true c3;have l:exs P (call P n) (σ.set 0 (.sh true (.err 0 (.int 0::.str c::(fs++[.str B,w.d]))))) ss=.ret v:=l;refine⟨σ.set 0 .dead,S,?_⟩;rw[he];intro u H1 t1 G;have rv:Rep X.K H1 Y w.d u:=Rep.weak (G.rv S) λa z=>.inr (.inl z);have S1:=S.grow G.1 t1;have L:=G.1 _ _ g3;obtain⟨i1,i2,i3,i4⟩:=Rep.chg (K:=X.K) (fs':=eA B u gs) (ex:=Y) L hy;have r4:RepF X.K H1 Y fs gs:=RepF.imp (λ_ _ z=>aE.seqT G.1 z) (λ_ _ n z=>⟨n,G.1.seq z⟩) (λ_ _ z=>G.1 _ _ z) (λ_ _ _ n z=>⟨n,G.1 _ _ z⟩) fs gs g4;refine⟨.ref x,g2,x,C,dx,gs,rfl,L,U,W B c1,by omega,?_⟩;have q1:0<σ.length:=by have:=(Ai.mp g1).1;exact this
   refine⟨σ.set 0 (.sh true (.err 0 (.int 0::.str c::(fs++[.str B,w.d])))),true,fs++[.str B,w.d],eA B u gs,dx,v,Ar q1,g2,aK,RepF.imp i1 i2 i3 i4 _ _ (pG rv r4 c4),?_,?_,l,λq0 H' t' kp rr _=>g7 q0 H' t' (λa o e na=>kp a o (by rw[aD na];exact G.1 a o e) na) rr⟩;have:=tL B u gs;rw[lA];show _<=fs.length+2;omega;rw[EL];exact S1.objx hy L;cases l
 | .cons .ini .nil,[],_=>by
  refine dI wM λD σV H tk Z=>?_;obtain⟨σ,p,fs,gs,dx,v,g1,g2,g3,g4,g5,S,l,g7⟩:=Z;have l:(match σ[(0:Nat)]? with
   | some (.sh _ (.err 0 (.int 0::.str c::fs)))=>O.ret ⟨.err 0 (.str c::fs),false,true,[]⟩|_=>.bad).on (λσ'=>.next σ')=.ret v:=l
  rw[g1] at l;cases l;intro t';refine g7 σV H t' (λa o e _=>e) ⟨x,C,dx,gs,rfl,g3,λz=>z.2 rfl,hn,?_⟩;exact RepF.imp (λ_ _ z=>z) (λ_ _ n z=>⟨λw=>n w.1,z⟩) (λ_ _ z=>z) (λ_ _ _ n z=>⟨λw=>n w.1,z⟩) fs gs g4
 | .nil,_,h=>by cases h|.cons .ini .nil,_::_,h=>by cases h|.cons .ini (.cons _ _),_,h=>by cases h|.cons (.sfl _ _) _,[],h=>by cases h|.cons (.set _ _) _,_,h=>by cases h|.cons (.mov _ _) _,_,h=>by cases h|.cons (.setIx _ _ _) _,_,h=>by cases h|.cons (.app _ _) _,_,h=>by cases h|.cons (.ext _ _) _,_,h=>by cases h|.cons (.ret _) _,_,h=>by cases h|.cons (.retv _) _,_,h=>by cases h|.cons (.iff _ _ _) _,_,h=>by cases h|.cons (.for _ _ _) _,_,h=>by cases h|.cons (.rse _ _) _,_,h=>by cases h|.cons (.exC _ _) _,_,h=>by cases h|.cons (.setC _ _ _) _,_,h=>by cases h|.cons (.retC _ _) _,_,h=>by cases h|.cons (.tryAs _ _ _ _) _,_,h=>by cases h|.cons (.thaw _) _,_,h=>by cases h|.cons (.chg _ _ _ _) _,_,h=>by cases h|.cons (.set2 _ _) _,_,h=>by cases h
theorem iX{W:Caller}:∀(cs:Ss) (st:List BR) (σ:Sg),gU Γ cs st=true->(∀σ',exs P W σ cs≠.next σ')/\(∀x σ',exs P W σ cs≠.exc x σ')/\∀v,exs P W σ cs=.ret v->∃p c fs,σ[(0:Nat)]? = some (.sh p (.err 0 (.int 0::.str c::fs)))
 | cs,st,σ,h=>by
  unfold gU at h
  split at h
  . rename_i f e ss s st
    obtain⟨h1,I⟩:=bW h
    have B:∀o,exs P W σ (.cons (.sfl f e) ss)=o->o=.bad\/∃p c fs l,σ[(0:Nat)]? = some (.sh p (.err 0 (.int 0::.str c::fs)))/\o=exs P W l ss:=λo U=>by
     subst U
     have L:exs P W σ (.cons (.sfl f e) ss)=(O.from σ (ev P W (σ.set 0 .dead) e) λv=>match σ[(0:Nat)]? with
      | some (.sh _ (.err 0 (.int 0::.str c::fs)))=>(match P.objs.lookup c with
       | some k=>if k.1.contains f&&v.al.isEmpty&&decide (fs.length<1000)&&iN f fs then .next (σ.set 0 (.sh true (.err 0 (.int 0::.str c::(fs++[.str f,v.d]))))) else .bad
       | none=>.bad)
      | _=>.bad).on (λσ'=>exs P W σ' ss):=rfl
     rw[L]
     cases ev P W (σ.set 0 .dead) e with
     | exc z=>exact .inl rfl
     | bad=>exact .inl rfl
     | ok w=>
      have M:∀g:Vl->O,(O.from σ (R.ok w) g)=g w:=λ_=>rfl
      rw[M]
      split
      . rename_i p c fs hs
        split
        . split
          . exact .inr ⟨p,c,fs,_,hs,rfl⟩
          . exact .inl rfl
        . exact .inl rfl
      . exact .inl rfl
    refine⟨λσ' G=>?_,λx σ' G=>?_,λv Z=>?_⟩
    . rcases B _ G with z|⟨p,c,fs,l,g1,g2⟩
      . cases z
      . exact(iX ss st l I).1 σ' g2.symm
    . rcases B _ G with z|⟨p,c,fs,l,g1,g2⟩
      . cases z
      . exact(iX ss st l I).2.1 x σ' g2.symm
    . rcases B _ Z with z|⟨p,c,fs,l,g1,g2⟩
      . cases z
      . exact⟨p,c,fs,g1⟩
  . have e:exs P W σ (.cons .ini .nil)=(match σ[(0:Nat)]? with
     | some (.sh _ (.err 0 (.int 0::.str c::fs)))=>O.ret ⟨.err 0 (.str c::fs),false,true,[]⟩
     | _=>.bad).on (λσ'=>.next σ'):=rfl
    rw[e]
    split
    . rename_i p c fs hs
      exact⟨λ_ z=>(by cases z),λ_ _ z=>(by cases z),λv _=>⟨p,c,fs,hs⟩⟩
    . exact⟨λ_ z=>(by cases z),λ_ _ z=>(by cases z),λv z=>(by cases z)⟩
  . cases h
theorem yH{k f:Nat}{t:Tx}{F:Fn}{fa:Addr}{fd:Cs}(A:All prog w K mg base P Γ k)
 (q3:∀x∈bltNames,mg x=none) (q4:∀(x:Str) (d:D),Γ.cns.lookup x=some d->∃u v,mg x=some u/\aP v u/\∀H ex,Rep K H ex d v) (q6:∀(i:Nat) (x:Str),Γ.tbs[i]? = some x->∃a t,mg x=some (.ref a)/\P.tabs[i]? = some t/\oG prog w K a t)
 (h2:Fun K t.x t.qual t.st fa fd) (hF:P.fns[f]? = some F) (hc:kA Γ F t=true) :
 dG prog w K mg base (CX1 prog w) (k+1) fa fd (t.N.take F.np) (spF K P (k+1) f):=by
 unfold kA at hc
 simp only[bA,beq_iff_eq,Bo,CD,A9,BZ,bne_iff_ne,ne_eq] at hc
 obtain⟨⟨⟨⟨⟨⟨⟨⟨c1,c2⟩,c3⟩,c4⟩,c5⟩,c6⟩,c7⟩,c8⟩,c9⟩:=hc
 have lt:(t.N.take F.np).length=F.np:=by rw[AI];omega
 have sc:iJ t.N (t.N.take F.np) (aQ t.st):=⟨c4,c5,c6,c3,by rw[lt],c7,c8⟩
 obtain⟨oc,od,kV,doc,pm,an,cdv,ct,osl,rfl,lk,q8⟩:=h2.ex
 refine aFD lk q8 sc (λvs H Q E h=>by rw[lt];exact yF hF h) λA' outer s H vs Q E hr h=>?_
 have L:=yF hF h
 obtain⟨ds,Y,hY,r,l⟩:=h
 have M:Mc (lH (CX1 prog w) prog w K mg base t.N t.qual (aQ t.st) fa cdv A' outer s H E) P { Γ with N:=t.N,sc:=(aQ t.st).names,fn:=true } k:={
  md:=⟨A.fn,q3,q4,q6,A.obj,A.mkr,A.exc,A.rsd,A.cls⟩
  N:=rfl
  nd:=c3
  sc:=rfl
  calm:=rfl
  room:=hr
  own:=KD
  st:=λ_ _=>.inl rfl
  fk:=c4
  stk:=λ_=>rfl }
 have l:REx (xE K H E) (gP P (call P k) f ds) _:=l
 unfold gP at l
 rw[hF] at l
 have G:ds.length=F.np:=by rw[r.length];exact L
 have l:REx (xE K H E) (if ds.length=F.np then (match exs P (call P k) ((ds.map λd=>Sl.sh true d)++Ag (F.ns-F.np) Sl.dead) F.body with
  | .ret v=>R.ok (v.d,v.fr,v.pa)
  | .next _=>R.ok (.non,false,false)
  | .exc x _=>R.exc x
  | _=>R.bad) else R.bad) λr=>∀u H',Tk K H'->aE H H'->Rr K H H' Y r u->Q u H':=l
 rw[if_pos G] at l
 have ok:(∀x σ',exs P (call P k) ((ds.map λd=>Sl.sh true d)++Ag (F.ns-F.np) Sl.dead) F.body≠.exc x σ')->∃res,(match exs P (call P k) ((ds.map λd=>Sl.sh true d)++Ag (F.ns-F.np) Sl.dead) F.body with
  | .ret v=>R.ok (v.d,v.fr,v.pa)
  | .next _=>R.ok (.non,false,false)
  | .exc x _=>R.exc x
  | _=>R.bad)=R.ok res/\∀u H',Tk K H'->aE H H'->Rr K H H' Y res u->Q u H':=λn=>by
  revert l n
  cases exs P (call P k) ((ds.map λd=>Sl.sh true d)++Ag (F.ns-F.np) Sl.dead) F.body with
  | ret v=>exact λl _=>⟨_,rfl,l⟩
  | next σ'=>exact λl _=>⟨_,rfl,l⟩
  | exc x σ'=>exact λ_ n=>absurd rfl (n x σ')
  | _=>exact λl _=>l.elim
 rcases c9 with(c9|c9)|c9
 . refine⟨_,dI (t':=λD σV H'=>Tk K H'->wS _ (λ_=>False) Y (λb=>H b≠none) ((ds.map λd=>Sl.sh true d)++Ag (F.ns-F.np) Sl.dead) (exs P (call P k) ((ds.map λd=>Sl.sh true d)++Ag (F.ns-F.np) Sl.dead) F.body) D σV H') (sSs (Y:=Y) (J:=λb=>H b≠none) F.body M c9 (λ_=>False) ((ds.map λd=>Sl.sh true d)++Ag (F.ns-F.np) Sl.dead)) (λD σV H' tk hw=>⟨(hw tk).1,OE.tkE (hw tk).2⟩),λtk=>⟨?_,?_⟩⟩
   . have e:L2.start t.N vs=vs.map some++Ag (F.ns-F.np) none:=by unfold L2.start;rw[L,c1]
     rw[e]
     exact nA hY tk r
   . have same:∀{H':Hp},Kp (λ_=>False) H H'->aE H H':=λk b o e=>k b o e id
     show OE K (XW _) (λ_=>False) Y (λb=>H b≠none) H (exs P (call P k) ((ds.map λd=>Sl.sh true d)++Ag (F.ns-F.np) Sl.dead) F.body) _
     cases q:exs P (call P k) ((ds.map λd=>Sl.sh true d)++Ag (F.ns-F.np) Sl.dead) F.body with
     | next σ'=>
      rw[q] at l
      exact λq7 U H' kp sub S'=>l .non H' S'.tk (same kp) (show(if false=true then _ else _) from aGO rfl)
     | ret v=>
      rw[q] at l
      refine λu H' kp q0 rt=>l u H' q0 (same kp) ?_
      unfold Rr
      unfold Rtv at rt
      cases q5:v.fr with
      | true=>
       rw[q5,if_pos rfl] at rt
       obtain⟨a,xs,ds',e1,e2,e3,e4,rr⟩:=rt
       exact aMh ⟨a,xs,ds',e1,e2,KF.mp e3,e4,rr⟩
      | false=>
       rw[q5,if_neg bN] at rt
       exact aGO rt
     | exc e σ'=>
      rw[q] at l
      have l:xE K H E e:=l
      obtain⟨c,rfl,w3⟩:=l
      intro q7 U H' kp sub S'
      exact⟨c,rfl,λcls hn pins s1 a I fl=>vC pins U H' s1 a cls I fl (w3 cls H' hn S'.tk (same kp))⟩
     | bad=>rw[q] at l;exact l.elim
 . obtain⟨⟨⟨b1,b2⟩,b3⟩,b4⟩:=c9
   have eb:F.body=.cons (.ret (.grp 0)) .nil:=by
    revert b1
    cases F.body with
    | nil=>intro z;cases z
    | cons s ss=>
     unfold aFR
     split
     . rename_i h;intro _;exact h
     . intro z;cases z
   rw[eb] at ok
   obtain⟨res,B,q9⟩:=ok λx σ' z=>by
    have z:(O.from ((ds.map λd=>Sl.sh true d)++Ag (F.ns-F.np) Sl.dead) (ev P (call P k) ((ds.map λd=>Sl.sh true d)++Ag (F.ns-F.np) Sl.dead) (.grp 0)) O.ret).on (λσ'=>.next σ')=.exc x σ':=z
    revert z
    cases ev P (call P k) ((ds.map λd=>Sl.sh true d)++Ag (F.ns-F.np) Sl.dead) (.grp 0) <;> intro z <;> cases z
   cases ds with
   | nil=>rw[b2] at G;cases G
   | cons d0 dr=>
   cases dr with
   | cons _ _=>rw[b2] at G;cases G
   | nil=>
   cases d0 with
   | lst ls=>
    have B:(match (O.from ([Sl.sh true (.lst ls)]++Ag (F.ns-F.np) Sl.dead) ((match gN ls with
     | some ps=>R.iff (decide (ps.length<lim)) (R.ok (Vl.cl (uZ (dR ps))))
     | none=>R.bad):R Vl) O.ret).on (λσ'=>.next σ') with
     | .ret v=>R.ok (v.d,v.fr,v.pa)
     | .next _=>R.ok (.non,false,false)
     | .exc x _=>R.exc x
     | _=>R.bad)=R.ok res:=B
    cases hp:gN ls with
    | none=>rw[hp] at B;cases B
    | some ps=>
     rw[hp] at B
     by_cases hl:ps.length<lim
     . have B:(match (O.from ([Sl.sh true (.lst ls)]++Ag (F.ns-F.np) Sl.dead) (R.iff (decide (ps.length<lim)) (R.ok (Vl.cl (uZ (dR ps))))) O.ret).on (λσ'=>.next σ') with
        | .ret v=>R.ok (v.d,v.fr,v.pa)
        | .next _=>R.ok (.non,false,false)
        | .exc x _=>R.exc x
        | _=>R.bad)=R.ok res:=B
       rw[AR hl] at B
       have B:R.ok (uZ (dR ps),false,false)=R.ok res:=B
       cases B
       obtain⟨v0,r',rfl,⟨sa,xs,rfl,q1,_,q2⟩,rfl⟩:=r
       obtain⟨t0,g1,g2⟩:=aKz (Z:=tkE K { nx:=λ_ H'=>Q .non H',rt:=Q }) M b4 q1 q2 hp hl λu H' s' rr q0=>q9 u H' q0 s' (show(if false=true then _ else Rep K H' (λb=>Y b\/(false=false/\H b≠none)) (uZ (dR ps)) u) from aGO (rr.weak λb z=>z.elim (hY b) λz=>z.2))
       refine⟨_,dI (t':=λD σV H'=>t0 (tkE K D) σV H') g1 λD σV H' _ hw=>hw,?_⟩
       have e:L2.start t.N [.ref sa]=[some (.ref sa),none,none,none]:=by
        unfold L2.start
        rw[c1,b3]
        rfl
       rw[e]
       exact g2
     . have B:(match (O.from ([Sl.sh true (.lst ls)]++Ag (F.ns-F.np) Sl.dead) (R.iff (decide (ps.length<lim)) (R.ok (Vl.cl (uZ (dR ps))))) O.ret).on (λσ'=>.next σ') with
        | .ret v=>R.ok (v.d,v.fr,v.pa)
        | .next _=>R.ok (.non,false,false)
        | .exc x _=>R.exc x
        | _=>R.bad)=R.ok res:=B
       rw[Be hl] at B;cases B
   | _=>cases B
 . obtain⟨z1,z3,z2⟩:=iX (W:=call P k) F.body (defBody t.st) ((ds.map λd=>Sl.sh true d)++Ag (F.ns-F.np) Sl.dead) c9
   exfalso
   obtain⟨res,B,_⟩:=ok z3
   cases q:exs P (call P k) ((ds.map λd=>Sl.sh true d)++Ag (F.ns-F.np) Sl.dead) F.body with
   | next σ'=>exact z1 σ' q
   | ret v=>
    obtain⟨p,c,fs,e0⟩:=z2 v q
    cases ds with
    | nil=>
     rw[mN,Ge,A7] at e0
     split at e0 <;> cases e0
    | cons d0 dr=>
     cases(show some (Sl.sh true d0)=some (.sh p (.err 0 (.int 0::.str c::fs))) from e0)
     obtain⟨_,_,_,z,_⟩:=r
     exact z
   | exc e σ'=>rw[q] at B;cases B
   | bad=>rw[q] at B;cases B
theorem aCI{k f:Nat}{c:Str}{q:List Str×List (Str×Nat)}{t:Tx}{F:Fn}{fa:Addr}{fd:Cs}(A:All prog w K mg base P Γ k)
 (B:∀x∈bltNames,mg x=none) (G:∀(x:Str) (d:D),Γ.cns.lookup x=some d->∃u v,mg x=some u/\aP v u/\∀H ex,Rep K H ex d v) (L:∀(i:Nat) (x:Str),Γ.tbs[i]? = some x->∃a t,mg x=some (.ref a)/\P.tabs[i]? = some t/\oG prog w K a t)
 (hq:P.objs.lookup c=some q) (hb:aHZ F.body=true) (h2:Fun K t.x t.qual t.st fa fd) (hF:P.fns[f]? = some F) (hc:kA Γ F t=true) :
 dG prog w K mg base CX0 (k+1) fa fd (t.N.take F.np) (spI K P (k+1) f c):=by
 unfold kA at hc
 simp only[bA,beq_iff_eq,Bo,CD,A9,BZ,bne_iff_ne,ne_eq] at hc
 obtain⟨⟨⟨⟨⟨⟨⟨⟨c1,c2⟩,c3⟩,c4⟩,c5⟩,c6⟩,c7⟩,c8⟩,Z⟩:=hc
 have lt:(t.N.take F.np).length=F.np:=by rw[AI];omega
 have sc:iJ t.N (t.N.take F.np) (aQ t.st):=⟨c4,c5,c6,c3,by rw[lt],c7,c8⟩
 have run:∀{ds:List D} {r:Rt},call P (k+1) f (.err 0 [.int 0,.str c]::ds)=.ok r->ds.length+1=F.np/\(match exs P (call P k) (Sl.sh true (.err 0 [.int 0,.str c])::((ds.map λd=>Sl.sh true d)++Ag (F.ns-F.np) Sl.dead)) F.body with
  | .ret v=>R.ok (v.d,v.fr,v.pa)
  | .next _=>R.ok (.non,false,false)
  | .exc x _=>R.exc x
  | _=>R.bad)=R.ok r:=λ{ds r} e=>by
  have e:gP P (call P k) f (.err 0 [.int 0,.str c]::ds)=.ok r:=e
  unfold gP at e
  rw[hF] at e
  have e:(if ds.length+1=F.np then _ else R.bad)=R.ok r:=e
  split at e
  . rename_i hl;exact⟨hl,e⟩
  . cases e
 have Z:gU { Γ with N:=t.N,sc:=(aQ t.st).names,fn:=true } F.body (defBody t.st)=true:=by
  revert Z hb
  cases F.body with
  | nil=>intro z;cases z
  | cons s ss=>
   cases s with
   | sfl f e=>
    rintro _ ((z|z)|z)
    . revert z
      cases defBody t.st with
      | nil=>intro z;cases z
      | cons a b=>intro z;exact absurd (show(false&&_)=true from z) bN
    . cases z.1.1.1
    . exact z
   | ini=>
    rintro _ ((z|z)|z)
    . revert z
      cases defBody t.st with
      | nil=>intro z;cases z
      | cons a b=>intro z;exact absurd (show(false&&_)=true from z) bN
    . cases z.1.1.1
    . exact z
   | _=>intro z;cases z
 refine h2.ok sc (λvs H Q E h=>?_) λcdv A' outer s H vs Q E hr h=>?_
 . obtain⟨C,x,dx,ds,us,r,rfl,hl,_,_,l,_⟩:=h
   rw[lt,<-(run l).1,lC,hl]
 obtain⟨C,x,dx,ds,us,r,rfl,hl,hx,hn,l,hT⟩:=h
 obtain⟨q2,l⟩:=run l
 have M:Mc (lH CX0 prog w K mg base t.N t.qual (aQ t.st) fa cdv A' outer s H E).nox P { Γ with N:=t.N,sc:=(aQ t.st).names,fn:=true } k:={
  md:=⟨A.fn,B,G,L,A.obj,A.mkr,A.exc,A.rsd,A.cls⟩
  N:=rfl
  nd:=c3
  sc:=rfl
  calm:=rfl
  room:=hr
  own:=Iw
  st:=λ_ _=>.inl rfl
  fk:=c4
  stk:=λ_=>rfl }
 obtain⟨C',I,q0,q1,_⟩:=A.obj c q hq
 rw[hn] at I
 cases I
 have e:L2.start t.N (.ref x::us)=some (.ref x)::(us.map some++Ag (F.ns-F.np) none):=by
  unfold L2.start
  rw[c1,<-q2,hl]
  rfl
 by_cases tk:Tk K H
 . obtain⟨Y,hY,q3,rr,hQ⟩:=hT tk
   refine⟨_,yG (Y:=Y) (J:=λb=>H b≠none) M q3 hq hn q0 q1 F.body (defBody t.st) Z,?_⟩
   rw[e]
   cases U:exs P (call P k) (Sl.sh true (.err 0 [.int 0,.str c])::((ds.map λd=>Sl.sh true d)++Ag (F.ns-F.np) Sl.dead)) F.body with
   | ret v=>
    rw[U] at l
    cases l
    exact⟨Sl.sh true (.err 0 [.int 0,.str c])::((ds.map λd=>Sl.sh true d)++Ag (F.ns-F.np) Sl.dead),true,[],[],dx,v,rfl,rfl,hx,rfl,As 0,(nA hY tk rr).cons0,U,λq5 H' t' kp rep=>hQ H' t' kp rep⟩
   | next σ'=>exact((iX (W:=call P k) F.body (defBody t.st) _ Z).1 σ' U).elim
   | exc e σ'=>rw[U] at l;cases l
   | bad=>rw[U] at l;cases l
 . exact⟨_,dI (t':=λD σV H'=>H'=H) (zH) (λD σV H' q4 e=>(tk (by rw[<-e];exact q4)).elim),rfl⟩
theorem aER{f:Nat}{fa:Addr}{fd:Cs}{ps:List Str}:dG prog w K mg base (CX1 prog w) 0 fa fd ps (spF K P 0 f):=by
 have no:∀vs H Q E,¬ spF K P 0 f vs H Q E:=λvs H Q E h=>by obtain⟨ds,Y,_,r,l⟩:=h;exact l
 exact⟨λvs H Q E h=>absurd h (no vs H Q E),λA outer s H args us vs Q E _ _ _ _ h=>absurd h (no vs H Q E)⟩
theorem aCJ{f:Nat}{c:Str}{fa:Addr}{fd:Cs}{ps:List Str}:dG prog w K mg base CX0 0 fa fd ps (spI K P 0 f c):=by
 have no:∀vs H Q E,¬ spI K P 0 f c vs H Q E:=λvs H Q E h=>by obtain⟨_,_,_,_,_,_,_,_,_,_,l,_⟩:=h;cases l
 exact⟨λvs H Q E h=>absurd h (no vs H Q E),λA outer s H args us vs Q E _ _ _ _ h=>absurd h (no vs H Q E)⟩
theorem qV(T:Top prog w K mg P Γ txs):∀(k:Nat),All prog w K mg base P Γ k:=λk=>by
 have one:∀{f:Nat} {t:Tx} {fa:Addr} {fd:Cs},txs[f]? = some t->Fun K t.x t.qual t.st fa fd->∃F,P.fns[f]? = some F/\dG prog w K mg base (CX1 prog w) k fa fd (t.N.take F.np) (spF K P k f):=λ{f t fa fd} L G=>by
  obtain⟨F,I,hc⟩:=eQ T.chk L;refine⟨F,I,?_⟩;cases k with
  | zero=>exact aER|succ k=>exact yH (qV T k) T.blt T.cns T.tab G I hc
 refine⟨λf x hf=>?_,λc q hc=>?_,λj c hj=>?_,λj c hj=>?_,T.exc,T.rsd,T.cls⟩;obtain⟨t,L,rfl⟩:=T.fns f x hf;obtain⟨fa,fd,h1,G,h3⟩:=T.fn f t L hf;obtain⟨F,I,hk⟩:=one L G;exact⟨fa,fd,_,h1,G.kp,h3 F I,hk⟩;obtain⟨C,g1,g2,g3,B⟩:=T.obj c q hc;refine⟨C,g1,g2,g3,λm f hm=>?_⟩;obtain⟨t,fa,fd,L,G,h3,h4⟩:=B m f hm;obtain⟨F,I,hk⟩:=one L G;exact⟨fa,fd,_,h3,h4 F I,hk⟩;obtain⟨q,C,fi,t,fa,fd,F,g1,g2,g3,B,U,W,g7,g8,g9,l,M⟩:=T.mkr j c hj;refine⟨q,C,fi,fa,fd,_,g1,g3,B,U,W,l,?_⟩;obtain⟨F',Z,hc⟩:=eQ T.chk g7;rw[g9] at Z;cases Z;cases k with
 | zero=>exact aCJ|succ k=>exact aCI (qV T k) T.blt T.cns T.tab g2 M g8 g9 hc
 cases k with
 | zero=>obtain⟨q,C,fi,t,fa,fd,F,g1,g2,g3,B,U,W,g7,g8,g9,l,M⟩:=T.mkr j c hj;exact⟨q,C,fi,fa,fd,_,g1,g3,B,U,W,l,λn' e=>(by cases e)⟩|succ k=>obtain⟨q,C,fi,fa,fd,ps,g1,g2,g3,B,U,W,g7⟩:=(qV T k).ini j c hj;exact⟨q,C,fi,fa,fd,ps,g1,g2,g3,B,U,W,λn' e=>(by cases e;exact g7)⟩
theorem aIa(T:Top prog w K mg P Γ txs){f:Nat}{t:Tx}{F:Fn}{fa:Addr}{fd:Cs}(L:txs[f]? = some t)(B:P.fns[f]? = some F)(G:Fun K t.x t.qual t.st fa fd)(k:Nat):dG prog w K mg base (CX1 prog w) (k+1) fa fd (t.N.take F.np) (spF K P (k+1) f):=by obtain⟨M,l,I⟩:=eQ T.chk L;rw[B] at l;cases l;exact yH (qV T k) T.blt T.cns T.tab G B I
theorem aIb{k f:Nat}{K:Fg}{H:Hp}{a:Addr}{ns:List Int}(L:aEd H)(B:SqL K H a (ns.map V.int))(h:∃fr pa,call P k f [.lst (ns.map D.int)]=.ok (.bl true,fr,pa)) :
 spF K P k f [.ref a] H (λv _=>v=.bl true) λ_ _ _=>False:=by
 obtain⟨fr,pa,e⟩:=h;have I:∀(ns:List Int),Reps K H (λ_=>False) (ns.map D.int) (ns.map V.int):=by
  intro ns
  induction ns with
  | nil=>exact .nil|cons i ns G=>exact .cons rfl G
 refine⟨[.lst (ns.map D.int)],λ_=>False,λ_ z=>z.elim,.cons ⟨a,_,rfl,B,id,I ns⟩ .nil,?_⟩;rw[e];intro u H' _ _ rr;unfold Rr at rr;cases fr with
 | true=>rw[if_pos rfl] at rr;obtain⟨_,_,_,_,l,_⟩:=rr;cases l|false=>rw[if_neg bN] at rr;exact rr
theorem aAB{H:Hp}{s:Ad}{e:Value}{l:Ad}{out:List GG}(h:CX1 prog w out H s (λ_ _ _=>False) e l):False:=by obtain⟨_,_,_,_,_,_,_,_,_,z⟩:=h;exact z
noncomputable def vU(K:Fg)(C:Addr)(cs:List (Addr×Bool))(ve:Bool):Bool:=
 Ci K C bmV "ValueError.__new__" && (PySem.W.clsIn K C).isSome&&(PySem.W.subIn K (.ref C) (.type "BaseException")==some true)&&(B7 K (.ref C) "__getattribute__" == some (some (.builtin "BaseException.__getattribute__"))) &&
 (B7 K (.ref C) "__getattr__" == some none)&&(B7 K (.ref C) "__class__" == some (some (.builtin "object.__class__")))&&(PySem.W.mroIn K C (.type "object")==some true)&&(CP K (.ref C) (.type "ValueError")==some ve) &&
 cs.all λp=>(CP K (.ref C) (.ref p.1)==some p.2)&&(!p.2||(oM K C p.1&&Ci K p.1 bmV "ValueError.__new__"))
noncomputable def tM(mg:Str->Option Value):List Str->List Addr->Prop
 | [],[]=>True|x::xs,a::as=>mg x=some (.ref a)/\tM mg xs as|_,_=>False
theorem jR{f:Str->Bool}:∀{xs:List Str} {as:List Addr},tM mg xs as->∀x∈xs,∃a,mg x=some (.ref a)/\(a,f x)∈as.zip (xs.map f)
 | [],_,_,x,l=>by cases l|y::ys,[],h,_,_=>h.elim|y::ys,a::as,h,x,l=>by rcases Ao.mp l with rfl|l;exact⟨a,h.1,Aj⟩;obtain⟨b,B,G⟩:=jR (f:=f) h.2 x l;exact⟨b,B,Ae _ G⟩
theorem aAC{xs:List Str}{as:List Addr}(h:tM mg xs as):∀x∈xs,∃C2,mg x=some (.ref C2):=λx l=>by obtain⟨a,q,_⟩:=jR (f:=λ_=>true) h x l;exact⟨a,q⟩
theorem aCK{cls:List Str}{c:Str}{ab:List Cl}{C:Addr}{as:List Addr}(hm:mg c=some (.ref C))(hn:Br K AB c=some (some (.ref C)))
 (h:vU K C (as.zip (cls.map λx=>ab.contains (.own x))) (ab.contains .tValueError)=true) (ha:tM mg cls as):oN K mg cls c ab C:=by unfold vU at h;simp only[bA,beq_iff_eq,A9] at h;obtain⟨⟨⟨⟨⟨⟨⟨⟨l,B⟩,G⟩,I⟩,L⟩,M⟩,U⟩,W⟩,Z⟩:=h;refine⟨hm,hn,l,⟨B,G,I,L,M,U⟩,W,λx hx=>?_⟩;obtain⟨a,q1,q2⟩:=jR (f:=λx=>ab.contains (.own x)) ha x hx;obtain⟨g1,g2⟩:=Z _ q2;refine⟨a,q1,g1,λz=>?_⟩;have g2:(!ab.contains (.own x)||(oM K C a&&Ci K a bmV "ValueError.__new__"))=true:=g2;rw[z] at g2;simpa using g2
end
end Hp
end
namespace Hp
open PySem PySem.Spec PyProof.Rows L2
noncomputable def ER(w:AH)(K:Fg)(e:EM)(p:Str×D):Prop:=e.hash=K1 w p.1/\(∃tk,e.key=.str p.1 tk)/\∃v,aP v e.val/\∀(H:Hp) (ex:Addr->Prop),Rep K H ex p.2 v
theorem pH{K:Fg}{H:Hp}{ex:Addr->Prop}:∀xs:List Str,Reps K H ex (xs.map D.str) (xs.map V.str)
 | []=>rfl|x::xs=>⟨.str x,xs.map V.str,rfl,rfl,pH xs⟩
theorem aCL{K:Fg}{b:Addr}{od:Option Addr}{its:Array Value}{n:Nat}{sl:Array (Option Value)}(h:K.lookup b=some ⟨.type "tuple",od,.seq its n,sl⟩)(xs:List Str)(hz:its.size<=1000)(l:aM (xs.map V.str) its.toList) :
 ∀(H:Hp) (ex:Addr->Prop),Rep K H ex (.tup (xs.map D.str)) (.ref b):=λH ex=>
 ⟨b,xs.map V.str,rfl,.inr ⟨_,its,n,h,rfl,rfl,AX hz (by rw[AS];decide),l⟩,pH xs⟩
theorem aCM{prog:A0}{w:AH}{K:Fg}:∀{es:List EM} {t:List (Str×D)},GR (ER w K) es t->∃vs:List (Key×Value),(∀e∈es,∃k:Key,(eJ prog w).is k e.key=true/\e.hash=(eJ prog w).hash k) /\
 Pairs (eJ prog w) es vs/\vs.map (·.1)=t.map (λp=>(Cd p.1:Key)) /\
 ∀k:Str,(t.lookup k=none/\FR vs (Cd k:Key)=none)\/∃d u v,t.lookup k=some d/\FR vs (Cd k:Key)=some u/\aP v u/\∀(H:Hp) (ex:Addr->Prop),Rep K H ex d v
 | _,_,.nil=>⟨[],λe B=>absurd B (by simp),.nil,rfl,λk=>.inl ⟨rfl,rfl⟩⟩
 | e::es,p::t,.cons ⟨h1,⟨tk,h2⟩,v,h3,h4⟩ r=>by
  obtain⟨vs,g1,g2,g3,L⟩:=aCM (prog:=prog) r;have G:rK (Cd p.1:Key) e.key=true:=by rw[h2];exact zF p.1 tk
  refine⟨(Cd p.1,e.val)::vs,λI B=>?_,.cons G rfl g2,by rw[mC,mC,g3],λk=>?_⟩;rcases Ao.mp B with rfl|B;exact⟨Cd p.1,G,h1⟩;exact g1 I B;by_cases l:k=p.1;subst l;refine .inr ⟨p.2,e.val,v,?_,?_,h3,h4⟩;obtain⟨a,b⟩:=p;simp[Bl];simp[FR];have M:(p::t).lookup k=t.lookup k:=by obtain⟨a,b⟩:=p;have:(k==a)=false:=beq_eq_false_iff_ne.mpr l;simp[Bl,this]
  have U:FR ((Cd p.1,e.val)::vs) (Cd k:Key)=FR vs (Cd k:Key):=by unfold FR;have:decide ((Cd p.1:Key)=Cd k)=false:=Be λz=>l (Ib z).symm;rw[Gc];simp only[this]
  rw[M,U];exact L k
theorem aIc{prog:A0}{w:AH}{K:Fg}{a:Addr}{es:Array EM}{ep:Nat}{t:List (Str×D)}(hs:(a==CH)=false)(h:K.lookup a=some ⟨.type "dict",none,.dict es ep,#[]⟩)(L:GR (ER w K) es.toList t)(B:(t.map (·.1)).Nodup):oG prog w K a t:=by
 obtain⟨vs,g1,g2,g3,G⟩:=aCM (prog:=prog) L;refine⟨hs,vs,λM X=>⟨_,es,ep,X a _ h,⟨rfl,rfl,rfl⟩,rfl,λe I=>g1 e (by simpa using I),g2,?_⟩,G⟩;rw[g3];have e:t.map (λp=>(Cd p.1:Key))=(t.map (·.1)).map Cd:=by rw[Bb];rfl
 rw[e];unfold Kx at B ⊢;rw[Di];exact B.imp λl z=>l (Ib z)
end Hp
namespace Hh
open PySem PySem.W PySem.Calls PyProof.Rows
noncomputable def go(st:G9->Jc->Option (G9×Jc))(ok:Jc->Bool)(n:Nat):G9->Jc->Option G9:=
 @Nat.rec (λ_=>G9->Jc->Option G9) (λ_ _=>none) (λ_ ih s t=>match KG t with
  | true=>some s|false=>match ok t with
   | false=>none|true=>match st s t with
    | some (s',t')=>ih s' t'|none=>none) n
theorem nU{tb:String->Option C4}{p:A0}{w:AH}{l:Nat}{B:Option Value}:∀(n:Nat) (s G:G9) (t:Jc),go (KH (JI tb) p w) (JJ l B) n s t=some G->topRun tb p w l B n s.abs t=some G.abs
 | 0,_,_,_,h=>by cases h|n+1,s,G,t,h=>by
  have h:(match KG t with
   | true=>some s|false=>match JJ l B t with
    | false=>none|true=>match KH (JI tb) p w s t with
     | some (G,t')=>go (KH (JI tb) p w) (JJ l B) n G t'|none=>none)=some G:=h
  unfold topRun;cases L:KG t with
  | true=>rw[L] at h;cases h;rfl|false=>
   rw[L] at h;cases I:JJ l B t with
   | false=>rw[I] at h;cases h|true=>
    rw[I] at h;cases hs:KH (JI tb) p w s t with
    | none=>rw[hs] at h;cases h|some r=>obtain⟨M,U⟩:=r;rw[hs] at h;rw[stepT_spec hs];exact nU n _ _ _ h
noncomputable def bt(l:List Obj)(n:Nat):Nat->Nat->BT:=
 @Nat.rec (λ_=>Nat->Nat->BT) (λ_ _=>.nil) (λ_ ih a b=>match l[b]? with
  | some o=>.node o (ih (2*a) (a+b)) (ih (2*a) (2*a+b))|none=>.nil) n
noncomputable def aCN{α:Type}(p q:A0)(loose:List Str)(Xt:Ad->Bool)(Yf:Ad->α)(h0:Heap)(s:Ad):=
 ((J6 (Gg p.main.body) h0 s.heap&&Jd p s.heap&&Kh s&&Ki h0 s.heap),openSeen q loose (Gg p.main.body) Xt true s,Yf s)
theorem aES{p q:A0}{B:List Str}{M:Ad->Bool}{α:Type}{W:Ad->α}{U:AH->α}{N l:Nat}{L:Option Value}{G:IP->BT}{I:Life}(e:opening p=plainProg p.main.scope.names)(hN:Nat.ble 600 N=true)(f:∀s,Jx p s=some s)
 (hb:∀P,absHeap (G P) l I=Cg P) (hz:∀P:IP,((Cg P).isNs AB,(Cg P).objs.size,(Cg P).nsMap AB "__annotations__")=(true,l,L))
 (h:∀(w:AH) (os:G8),(go (KH (JI HY) p w) (JJ l L) N ⟨G w.params,l,I,Je [],Ha,HZ,os⟩ (KI p)).map (λs=>aCN p q B M W (Cg w.params) s.abs)=some (true,Kj q B,U w)):KZ p q B M W U N:=λw=>by
 obtain⟨⟨hh,gs,d,k,os⟩,e1,Z⟩:=A1.mp (boot_open e hN f w);simp only[Ck] at Z;obtain⟨rfl,rfl,rfl,rfl⟩:=Z;obtain⟨s,g1,g2⟩:=A1.mp (h w os);have r:=nU N _ _ _ g1;have r:topRun HY p w l L N ⟨Cg w.params,Je [],Ha,HZ,os⟩ (KI p)=some s.abs:=by rw[<-hb];exact r
 have z:=hz w.params;simp only[Ck] at z;obtain⟨z1,z2,z3⟩:=z;unfold aCN at g2;simp only[Ck] at g2;obtain⟨l1,l2,l3⟩:=g2;have t:KJ HY p w N ⟨Cg w.params,Je [],Ha,HZ,os⟩=some s.abs:=by unfold KJ;dsimp only;rw[z1,z2,z3,r];show(match J6 (Gg p.main.body) (Cg w.params) s.abs.heap&&Jd p s.abs.heap&&Kh s.abs&&Ki (Cg w.params) s.abs.heap with|true=>_|false=>_)=_;rw[l1]
 unfold openEnds;rw[e1];show(KJ HY p w N _).map _=_;rw[t];exact congrArg some (JV l2 l3)
noncomputable def T0(P:IP):BT:=bt (Cg P).objs.toList 5 1 0
theorem aId:∀P,absHeap (T0 P) 11 {}=Cg P:=λP=>by kernel_rfl
theorem aET:∀P:IP,((Cg P).isNs AB,(Cg P).objs.size,(Cg P).nsMap AB "__annotations__")=(true,11,some (.ref 6)):=λP=>by kernel_rfl
abbrev aKM:=@PySem.W.Fast.tw10156331382660048174
abbrev qOk:=@PySem.W.Fast.tw6613529449190102663
abbrev aMI:=@PySem.W.Fast.tw11892475500146522536
abbrev aMJ:=@PySem.W.Fast.tw14364793385576792824
abbrev aKN:=@PySem.W.Fast.tw4187177175401517315
abbrev aKO:=@PySem.W.Fast.tw5923862056798008813
noncomputable def aKP{α:Type}(p q:A0)(loose:List Str)(Yf:Ad->α)(N:Nat)(w:AH)(os:G8):=
 (go (aKM (aMI aMJ) p w) (qOk 11 (some (.ref 6))) N ⟨T0 w.params,11,{},Je [],Ha,HZ,os⟩ (KI p)).map λs=>((J6 (aKO p.main.body) (Cg w.params) s.abs.heap&&Jd p s.abs.heap&&Kh s.abs&&Ki (Cg w.params) s.abs.heap),aKN q loose (aKO p.main.body) (λ_=>true) true s.abs,Yf s.abs)
theorem aIe{p q:A0}{l:List Str}{α:Type}{G:Ad->α}{B:AH->α}{N:Nat}(e:opening p=plainProg p.main.scope.names)(I:Nat.ble 600 N=true)(f:∀s,Jx p s=some s)
 (h:∀w os,aKP p q l G N w os=some (true,Kj q l,B w)):KZ p q l (λ_=>true) G B N:=by refine aES e I f aId aET λw os=>?_;unfold aCN;rw[GO,Hb,GP,GQ,Hd,He];exact h w os
end Hh
namespace Hh
open PySem PySem.W PySem.Calls PyProof.Rows L2 Hp
noncomputable def bK(h:Heap):An:=(AD h.objs.size).filterMap λa=>(h.get? a).map λo=>(a,o)
theorem nB{α:Type}(f:Nat->Option α)(a:Nat):∀n,((AD n).filterMap λi=>(f i).map λo=>(i,o)).lookup a=if a<n then f a else none
 | 0=>rfl|n+1=>by
  rw[List.range_succ,List.filterMap_append,List.lookup_append,nB f a n];by_cases h:a<n;rw[if_pos h,if_pos (BH h)];cases q:f a with
  | some o=>rfl|none=>
   have l:(a==n)=false:=beq_eq_false_iff_ne.mpr (Az h);cases B:f n with
   | none=>simp[B]|some o=>simp[B,Bl,l]
  rw[if_neg h];by_cases e:a=n;subst e;rw[if_pos (Bz _)];cases q:f a with
  | none=>simp[q]|some o=>simp[q,Bl]
  rw[if_neg (by omega)];have l:(a==n)=false:=beq_eq_false_iff_ne.mpr e;cases B:f n with
  | none=>simp[B]|some o=>simp[B,Bl,l]
theorem bB(h:Heap)(a:Addr):(bK h).lookup a=h.get? a:=by
 unfold bK;rw[nB];by_cases q:a<h.objs.size;rw[if_pos q];rw[if_neg q];cases e:h.get? a with
 | none=>rfl|some o=>exact absurd (Am e) q
theorem yI{h h':Heap}(k:∀b o,h.get? b=some o->h'.get? b=some o):(bK h).In h':=λa o e=>k a o (by rw[<-bB];exact e)
noncomputable def eR(h:Heap)(x:Str):Option (Option Value):=match h.get? AB with
 | some ⟨_,_,.dict es _,_⟩=>(match es.toList.find? (λe=>match e.key with|.str y _=>HG y x|_=>false) with
  | some e=>some (some e.val)|none=>if es.toList.any (·.refKey) then none else some none)
 | _=>none
theorem aCO(v:Value)(x:Str):v.isStr x=(match v with|.str y _=>HG y x|_=>false):=by
 cases v with
 | str y t=>show(y==x)=HG y x;rw[Ga,beq_iff_eq,JK]|_=>rfl
theorem cL(h:Heap)(x:Str):La (bK h) AB x=eR h x:=by unfold La eR;rw[bB];simp only[aCO];rfl
noncomputable def iY(h:Heap)(cd:Value):Option Str:=match cd with
 | .ref c=>(match h.get? c with
  | some ⟨_,_,.fields vs,_⟩=>(match vs.toList with|_::.str n _::_=>some n|_=>none)
  | _=>none)
 | _=>none
theorem pI{h:Heap}{l:Value}{q:Str}(e:iY h l=some q):codeIn (bK h) l q=true:=by unfold iY at e;unfold codeIn;split at e;rename_i c;simp only[bB];split at e;rename_i vs _ B;rw[B];split at e;rename_i a n t r G;cases e;simp only[G,beq_self_eq_true];cases e;cases e;cases e
abbrev Pin:=Str×Str×G5×FuncBody×Da×Addr×List (Str×Addr)×Value×Addr×Option Str
noncomputable def vV(h:Heap)(x:Str):Option Pin:=match eR h x with
 | some (some (.ref a))=>(match h.get? a with
  | some ⟨_,_,.func fd,_⟩=>some (fd.name,fd.qualname,fd.params,fd.body,fd.scope,fd.globals,fd.closure,fd.defaults,fd.builtins,iY h fd.code)|_=>none)
 | _=>none
noncomputable def aS(s:BR):Str:=match s with|.FunctionDef x _ _ _ _ _ _ _ _ _=>x|_=>⟨#[]⟩
noncomputable def aCP(st:BR):Pin:=(aS st,aS st,eN st,.stmts (defBody st),aQ st,AB,[],.none,FI,some (aS st))
theorem aEU{h:Heap}{st:BR}(e:vV h (aS st)=some (aCP st)):∃fa fd,La (bK h) AB (aS st)=some (some (.ref fa))/\Fun (bK h) (aS st) (aS st) st fa fd:=by unfold vV at e;split at e;rename_i a I;split at e;rename_i c d fd sl l;obtain⟨n,Z,ps,b,sc,g,W,U,L,doc,pm,an,B,ct,M⟩:=fd;unfold aCP at e;simp only[CB,Ck] at e;obtain⟨rfl,rfl,rfl,rfl,rfl,rfl,rfl,rfl,rfl,G⟩:=e;refine⟨a,_,by rw[cL];exact I,⟨⟨c,d,L,doc,pm,an,B,ct,sl,rfl,by rw[bB];exact l,pI G⟩,?_⟩⟩;unfold JL;simp only[bB,l];cases e;cases e
theorem tN{α:Type}{x:Str}{u:α}:∀{ps:List Str} {us:List α},ps.Nodup->ps.length=us.length->(x,u)∈ps.zip us->(ps.zip us).lookup x=some u
 | [],_,_,_,h=>by simp at h|p::ps,[],_,h,_=>by simp at h|p::ps,v::us,hn,hl,h=>by rw[B9] at h ⊢;obtain⟨l,B⟩:=AG.mp hn;rcases Ao.mp h with h|h;cases h;simp[Bl];have G:x∈ps:=(Et h).1;have:(x==p)=false:=beq_eq_false_iff_ne.mpr λz=>l (z▸G);simp only[Bl,this];exact tN B (by simpa using hl) h
theorem aCQ{α:Type}(L:List (Str×α)):∀{ps:List Str} {us:List α},ps.length=us.length->(∀p∈ps.zip us,L.lookup p.1=some p.2)->(ps.filterMap λn=>(L.lookup n).map (n,·))=ps.zip us
 | [],_,_,_=>by simp|p::ps,[],h,_=>by simp at h|p::ps,v::us,hl,h=>by rw[B9,BY,h (p,v) (by simp),aCQ L (ps:=ps) (us:=us) (by simpa using hl) λq l=>h q (by rw[B9];exact Ae _ l)];rfl
theorem aCR{α:Type}(L:List (Str×α)):∀{ps:List Str} {us:List α},ps.length=us.length->(∀p∈ps.zip us,L.lookup p.1=some p.2)->(ps.filter λn=>(L.lookup n).isNone)=[]
 | [],_,_,_=>by simp|p::ps,[],h,_=>by simp at h|p::ps,v::us,hl,h=>by rw[List.filter_cons,h (p,v) (by simp),aCR L (ps:=ps) (us:=us) (by simpa using hl) λq l=>h q (by rw[B9];exact Ae _ l)];rfl
noncomputable def gB(a:G5)(ps:List Str):Bool:=match a with|⟨[],as,none,[],[],none,[]⟩=>decide (as.map (·.arg)=ps)&&decide ps.Nodup|_=>false
theorem hZ{x q:Str}{a:G5}{b:List BR}{sc:Da}{kV doc pm:Value}{an:Option Addr}{cdv ct:Value}{ps:List Str}{us:List Value}(h:gB a ps=true)(hl:us.length=ps.length) :
 IH (fnOf x q a b sc .none kV doc pm an cdv ct) ⟨us,[]⟩=pure (ps.zip us):=by
 unfold gB at h;split at h;rename_i as;obtain⟨l,B⟩:=Bool.and_eq_true_iff.mp h;have l:=of_decide_eq_true l;have B:=of_decide_eq_true B;have z:∀p∈ps.zip us,(ps.zip us).lookup p.1=some p.2:=λp M=>tN B hl.symm M;have G:=aCR (ps.zip us) hl.symm z;have I:=aCQ (ps.zip us) hl.symm z;unfold IH;have L:∀s:Value,s=.none->(J4 s)=pure none:=λs e=>by subst e;rfl
 simp only[mN,Ge,l,L,Gx,pure_bind,hl,gt_iff_lt,AN,decide_false,ID,F1,lN,Nat.zero_sub,List.drop_nil,JG,FD,G,Ef,Fv,Eb,List.zip_nil_right,BB,I,if_false,bF];cases h
noncomputable def tP(s:BR):Bool:=match s with|.FunctionDef _ _ _ _ _ _ _ _ _ _=>true|_=>false
noncomputable def aCS:D->Value->Bool
 | .int i,.int j _=>decide (i=j)|.str a,.str b _=>HG a b|.non,.none=>true|.bl a,.bool b=>a==b|_,_=>false
noncomputable def vW(h:Heap)(c:Str×D):Bool:=match eR h c.1 with|some (some u)=>aCS c.2 u|_=>false
noncomputable def iZ:Value->Option Str
 | .str x _=>some x|_=>none
abbrev aCT:=Int×Option Str×Option (Value×List (Option Str))
noncomputable def kY(h:Heap)(e:EM):aCT:=(e.hash,iZ e.key,match e.val with
 | .ref b=>(match h.get? b with
  | some ⟨c,_,.seq its _,_⟩=>some (c,its.toList.map iZ)|_=>none)
 | _=>none)
noncomputable def qW(h:Heap)(x:Str):Option (Bool×Value×Option Addr×Array (Option Value)×List aCT):=match eR h x with
 | some (some (.ref a))=>(match h.get? a with
  | some ⟨c,d,.dict es _,sl⟩=>some (a==CH,c,d,sl,es.toList.map (kY h))|_=>none)
 | _=>none
noncomputable def qX(w:AH)(p:Str×List Str):aCT:=(K1 w p.1,some p.1,some (.type "tuple",p.2.map some))
noncomputable def vX(w:AH)(t:List (Str×List Str)):Option (Bool×Value×Option Addr×Array (Option Value)×List aCT):=some (false,.type "dict",none,#[],t.map (qX w))
noncomputable def aAD(t:List (Str×List Str)):List (Str×D):=t.map λp=>(p.1,.tup (p.2.map D.str))
theorem yJ:∀{us:List Value} {xs:List Str},us.map iZ=xs.map some->aM (xs.map V.str) us
 | [],[],_=>.nil|[],_::_,h=>by cases h|_::_,[],h=>by cases h|u::us,x::xs,h=>by rw[mC,mC] at h;obtain⟨l,B⟩:=Jy h;refine .cons ?_ (yJ B);unfold iZ at l;split at l;cases l;exact⟨_,rfl⟩;cases l
theorem aIf{h:Heap}{w:AH}{e:EM}{p:Str×List Str}(q:kY h e=qX w p)(hl:p.2.length<=1000):ER w (bK h) e (p.1,.tup (p.2.map D.str)):=by unfold kY qX at q;simp only[Ck] at q;obtain⟨U,B,l⟩:=q;refine⟨U,?_,?_⟩;unfold iZ at B;split at B;rename_i y tk G;exact⟨tk,by rw[G];exact congrArg (λz=>HI z tk) (Au B)⟩;cases B;split at l;rename_i b G;split at l;rename_i c d its n sl M;have l:=Au l;simp only[Ck] at l;obtain⟨L,I⟩:=l;subst L;have hz:=congrArg Fl I;rw[lM,lM] at hz;exact⟨.ref b,by rw[G];rfl,aCL (by rw[bB];exact M) p.2 (by rw[<-AM,hz];exact hl) (yJ I)⟩;cases l;cases l
theorem pJ{h:Heap}{w:AH}:∀{es:List EM} {t:List (Str×List Str)},es.map (kY h)=t.map (qX w)->(∀p∈t,p.2.length<=1000)->GR (ER w (bK h)) es (aAD t)
 | [],[],_,_=>.nil|[],_::_,q,_=>by cases q|_::_,[],q,_=>by cases q|e::es,p::t,q,hl=>by rw[mC,mC] at q;obtain⟨l,B⟩:=Jy q;exact .cons (aIf l (hl p (Aj ..))) (pJ B λI G=>hl I (Ae _ G))
noncomputable def yK(t:List (Str×List Str)):Bool:=(t.all λp=>decide (p.2.length<=1000))&&decide (t.map (·.1)).Nodup
theorem aCU{prog:A0}{h:Heap}{w:AH}{x:Str}{t:List (Str×List Str)}(e:qW h x=vX w t)(ok:yK t=true):∃a,La (bK h) AB x=some (some (.ref a))/\oG prog w (bK h) a (aAD t):=by unfold yK at ok;rw[bA,A9] at ok;unfold qW vX at e;split at e;rename_i a G;split at e;rename_i c d es ep sl I;have e:=Au e;simp only[Ck] at e;obtain⟨l,rfl,rfl,rfl,B⟩:=e;refine⟨a,(cL h x).trans G,aIc l (by rw[bB];exact I) (pJ B λp L=>of_decide_eq_true (ok.1 p L)) ?_⟩;unfold aAD;rw[Bb];exact of_decide_eq_true ok.2;cases e;cases e
noncomputable def eI(p:A0)(i:Nat):BR:=p.main.body.getD i (.Pass ⟨0,0,0,0⟩)
noncomputable def aKQ:BR:=.Pass ⟨0,0,0,0⟩
noncomputable def kM(p:A0)(i j:Nat):BR:=match eI p i with|.ClassDef _ _ _ b _ _ _ _ _ _ _=>b.getD j aKQ|_=>aKQ
noncomputable def cE(s:BR):Str:=match s with|.ClassDef x _ _ _ _ _ _ _ _ _ _=>x|_=>⟨#[]⟩
noncomputable def aCV(c m:Str):Str:=c++("." ++ m:Str)
noncomputable def vY(h:Heap)(C:Addr)(m:Str):Option Pin:=match DZ (bK h) (.ref C) m with
 | some (some (.ref a))=>(match h.get? a with
  | some ⟨c,_,.func fd,_⟩=>if c==.type "function" then some (fd.name,fd.qualname,fd.params,fd.body,fd.scope,fd.globals,fd.closure,fd.defaults,fd.builtins,iY h fd.code) else none|_=>none)
 | _=>none
noncomputable def aCW(st:BR)(q:Str):Pin:=(aS st,q,eN st,.stmts (defBody st),aQ st,AB,[],.none,FI,some q)
theorem aEV{h:Heap}{C:Addr}{m q:Str}{st:BR}(e:vY h C m=some (aCW st q)):∃fa fd,rM (bK h) C m fa/\Fun (bK h) (aS st) q st fa fd:=by
 unfold vY at e;split at e;rename_i a L;split at e;rename_i c d fd sl B;split at e;rename_i l;obtain⟨n,qn,ps,b,sc,g,W,Z,M,doc,pm,an,G,ct,U⟩:=fd;unfold aCW at e;simp only[CB,Ck] at e;obtain⟨rfl,rfl,rfl,rfl,rfl,rfl,rfl,rfl,rfl,I⟩:=e;have kp:JL (bK h) (.ref a)=true:=by unfold JL;simp only[bB,B]
 refine⟨a,_,⟨L,?_,kp⟩,⟨⟨c,d,M,doc,pm,an,G,ct,sl,rfl,by rw[bB];exact B,pI I⟩,kp⟩⟩;unfold isFn typeIn;simp only[bB,B];simpa using l;cases e;cases e;cases e
abbrev ObT:=Nat×List Str×List (Nat×Nat×List Str)
noncomputable def aEf(h:Heap)(C:Addr)(fl:List Str):Bool:=
 plainGet (bK h) C KN&&hasDictIn (bK h) C&&plainOver (bK h) C&&(match DZ (bK h) (.ref C) "__setattr__" with|some (some (.builtin b))=>b == "object.__setattr__" | _=>false)&&(fl.all λf=>(match DZ (bK h) (.ref C) f with|some none=>true|_=>false))&&makesIn (bK h) C&&JL (bK h) (.ref C)
noncomputable def vZ(p:A0)(h:Heap)(o:ObT):Option (Bool×List (Option Pin)):=match eR h (cE (eI p o.1)) with|some (some (.ref C))=>some (aEf h C o.2.1,o.2.2.map λm=>vY h C (aS (kM p o.1 m.1)))|_=>none
noncomputable def aCX(p:A0)(o:ObT):Option (Bool×List (Option Pin)):=some (true,o.2.2.map λm=>some (aCW (kM p o.1 m.1) (aCV (cE (eI p o.1)) (aS (kM p o.1 m.1)))))
theorem yL{p:A0}{h:Heap}{o:ObT}(e:vZ p h o=aCX p o):∃C,La (bK h) AB (cE (eI p o.1))=some (some (.ref C))/\Cls (bK h) C/\(∀f,o.2.1.contains f=true->cT (bK h) C f)/\makesIn (bK h) C=true/\JL (bK h) (.ref C)=true /\
 ∀m∈o.2.2,∃fa fd,rM (bK h) C (aS (kM p o.1 m.1)) fa/\Fun (bK h) (aS (kM p o.1 m.1)) (aCV (cE (eI p o.1)) (aS (kM p o.1 m.1))) (kM p o.1 m.1) fa fd:=by unfold vZ aCX at e;split at e;rename_i C hn;simp only[CB,Ck] at e;obtain⟨B,Z⟩:=e;unfold aEf at B;simp only[bA] at B;obtain⟨⟨⟨⟨⟨⟨G,I⟩,L⟩,l⟩,M⟩,U⟩,W⟩:=B;refine⟨C,by rw[cL];exact hn,⟨G,I,L,?_⟩,λf hf=>?_,U,W,λm hm=>aEV (B6.mp Z m hm)⟩;split at l;rename_i b hb;rw[hb,eq_of_beq l];cases l;have:=A9.mp M f (by simpa using hf);unfold cT;split at this;assumption;cases this;cases e
noncomputable def jA(h:Heap):List Str->Option (List Addr)
 | []=>some []|x::xs=>match eR h x,jA h xs with|some (some (.ref a)),some as=>some (a::as)|_,_=>none
noncomputable def yM(h:Heap)(above:List (Str×List Cl))(cls:List Str):Bool:=match jA h cls with
 | some as=>above.all λca=>match eR h ca.1 with|some (some (.ref C))=>vU (bK h) C (as.zip (cls.map λx=>ca.2.contains (.own x))) (ca.2.contains .tValueError)|_=>false
 | none=>false
structure Sn where
 cns:List (Str×D)
 tbs:List (Str×List (Str×List Str))
 obs:List ObT
 above:List (Str×List Cl)
 cls:List Str
abbrev aFS:=List (Option Pin)×List (Option (Option Value))×Bool×List (Option (Bool×Value×Option Addr×Array (Option Value)×List aCT))×List (Option (Bool×List (Option Pin)))×Bool
noncomputable def gC(p:A0)(n:Sn)(h:Heap):aFS:=
 ((p.main.body.filter tP).map (λst=>vV h (aS st)),bltNames.map (eR h),n.cns.all (vW h),n.tbs.map (λq=>qW h q.1),n.obs.map (vZ p h),yM h n.above n.cls)
noncomputable def jS(p:A0)(n:Sn)(w:AH):aFS:=
 ((p.main.body.filter tP).map (λst=>some (aCP st)),bltNames.map (λ_=>some none),true,n.tbs.map (λq=>vX w q.2),n.obs.map (aCX p),true)
abbrev mts(n:Sn):List (ObT×Nat×Nat×List Str):=n.obs.flatMap λo=>o.2.2.map λm=>(o,m)
noncomputable def nC(p:A0)(q:ObT×Nat×Nat×List Str):Tx:=⟨aS (kM p q.1.1 q.2.1),aCV (cE (eI p q.1.1)) (aS (kM p q.1.1 q.2.1)),kM p q.1.1 q.2.1,q.2.2.2⟩
noncomputable def aEW(p:A0)(n:Sn):List (Str×List Str×List (Str×Nat)):=n.obs.map λo=>(cE (eI p o.1),o.2.1,o.2.2.map λm=>(aS (kM p o.1 m.1),m.2.1))
theorem fM{α B:Type}[BEq α][LawfulBEq α]{a:α}{b:B}:∀{l:List (α×B)},l.lookup a=some b->(a,b)∈l
 | [],h=>by cases h|(x,y)::l,h=>by rw[Bl] at h;split at h;rename_i e;cases h;rw[eq_of_beq e];exact Aj;exact Ae _ (fM h)
noncomputable def gF(p:A0)(c:Nat×List Str):Tx:=⟨aS (eI p c.1),aS (eI p c.1),eI p c.1,c.2⟩
theorem aIg{p:A0}{i:Nat}(h:tP (eI p i)=true):eI p i∈p.main.body:=by
 unfold eI at h ⊢;rw[AJ] at h ⊢;cases e:p.main.body[i]? with
 | none=>rw[e] at h;cases h|some s=>exact mG e
theorem aEX{h:Heap}{c:Str×D}(e:vW h c=true):∃u v,La (bK h) AB c.1=some (some u)/\aP v u/\∀H ex,Rep (bK h) H ex c.2 v:=by unfold vW at e;split at e;rename_i u l;obtain⟨x,d⟩:=c;have e:aCS d u=true:=e;unfold aCS at e;split at e;cases of_decide_eq_true e;exact⟨_,.int _,(cL _ _).trans l,⟨_,rfl⟩,λ_ _=>rfl⟩;cases JK.mp e;exact⟨_,.str _,(cL _ _).trans l,⟨_,rfl⟩,λ_ _=>rfl⟩;exact⟨_,.non,(cL _ _).trans l,rfl,λ_ _=>rfl⟩;cases eq_of_beq e;exact⟨_,.bl _,(cL _ _).trans l,rfl,λ_ _=>rfl⟩;cases e;cases e
noncomputable def aCY(P:Pg):Bool:=decide ((P.objs.map (·.1)).Nodup)&&P.objs.all λo=>match o.2.2.lookup ("__init__" : Str) with
 | some fi=>(match P.fns[fi]? with|some F=>aHZ F.body|none=>false)
 | none=>false
theorem pK{α:Type}{c:Str}{q:α}:∀{l:List (Str×α)} {j:Nat},(l.map (·.1)).Nodup->l[j]? = some (c,q)->l.lookup c=some q
 | [],_,_,e=>by cases e|(a,b)::l,0,_,e=>by cases e;simp[Bl]|(a,b)::l,j+1,n,e=>by
  rw[mC,AG] at n;have e:l[j]? = some (c,q):=by simpa using e
  rw[Bl,show(c==a)=false from beq_eq_false_iff_ne.mpr λz=>n.1 (by rw[<-z];exact AA.mpr ⟨_,mG e,rfl⟩)];exact pK n.2 e
theorem yN{l h:Heap}{mg:Str->Option Value}(X:(bK l).In h)(G:h.Ns AB mg):∀{xs:List Str} {as:List Addr},jA l xs=some as->tM mg xs as
 | [],as,e=>by cases e;trivial|x::xs,as,e=>by unfold jA at e;split at e;rename_i a B I L;cases e;exact⟨mg_of X G ((cL l x).trans I),yN X G L⟩;cases e
theorem aIh{prog p:A0}{w:AH}{I h:Heap}{mg:Str->Option Value}{P:Pg}{Γ:Ct}{ix:List (Nat×List Str)}{n:Sn}(S:gC p n I=jS p n w)(k:∀b o,I.get? b=some o->h.get? b=some o)(G:h.Ns AB mg)
 (hi:(ix.all λc=>tP (eI p c.1))=true) (h1:Γ.fns=(ix.map (gF p)).map (·.x)) (h2:Γ.cns=n.cns) (h3:Γ.tbs=n.tbs.map (·.1)) (h4:P.tabs=n.tbs.map λq=>aAD q.2) (h5:(n.tbs.all λq=>yK q.2)=true) (h6:P.objs=aEW p n) (h8:Γ.obs=n.obs.map λo=>cE (eI p o.1)) (h9:aCY P=true) (h7:(mts n).map (·.2.2.1)=(AD (mts n).length).map (·+ix.length)) (q2:P.above=n.above) (W:Γ.cls=n.cls) (q3:(Γ.rsd.all λc=>(P.above.lookup c).isSome)=true)
 (hb:((P.fns.zip (ix.map (gF p)++(mts n).map (nC p))).all λq=>gB (eN q.2.st) (q.2.N.take q.1.np))=true) (chk:fL Γ P.fns (ix.map (gF p)++(mts n).map (nC p))=true) :
 Top prog w (bK I) mg P Γ (ix.map (gF p)++(mts n).map (nC p)):=by
 unfold gC jS at S;simp only[Ck] at S;obtain⟨s1,s2,s3,s4,s5,s6⟩:=S;have X:=yI k;have obj:∀(c:Str) (k:List Str×List (Str×Nat)),P.objs.lookup c=some k->∃C,Br (bK I) AB c=some (some (.ref C))/\Cls (bK I) C/\(∀f,k.1.contains f=true->cT (bK I) C f)/\∀m f,k.2.lookup m=some f->∃t fa fd,(ix.map (gF p)++(mts n).map (nC p))[f]? = some t/\Fun (bK I) t.x t.qual t.st fa fd/\rM (bK I) C m fa/\∀F,P.fns[f]? = some F->bZ (bK I) fd (t.N.take F.np) []:=λc kk e=>by
  rw[h6] at e;have hm:=fM e;unfold aEW at hm;obtain⟨o,ho,he⟩:=AA.mp hm;cases he;obtain⟨C,g1,g2,g3,_,_,g4⟩:=yL (B6.mp s5 o ho);refine⟨C,g1,g2,g3,λm f e2=>?_⟩;obtain⟨q,hq,q4⟩:=AA.mp (fM e2);cases q4;obtain⟨fa,fd,g5,g6⟩:=g4 q hq;have hM:(o,q)∈mts n:=HR.mpr ⟨o,ho,AA.mpr ⟨q,hq,rfl⟩⟩;obtain⟨i,Z⟩:=CC hM;have q0:i<(mts n).length:=(Ai.mp Z).1;have U:q.2.1=i+ix.length:=by have:=congrArg (λl:List Nat=>l[i]?) h7;simp only[Ak,Z,Dc,ED q0,CB] at this;exact this
  have M:(ix.map (gF p)++(mts n).map (nC p))[q.2.1]? = some (nC p (o,q)):=by rw[Ax (by rw[U,lM];omega),U,lM,Nat.add_sub_cancel,Ak,Z];rfl
  refine⟨_,fa,fd,M,g6,g5,λF hF=>g6.binds λkV doc pm an cdv ct us hl=>hZ (A9.mp hb (F,nC p (o,q)) (mG (i:=q.2.1) ?_)) hl⟩;rw[Dy];exact⟨hF,M⟩
 unfold yM at s6;split at s6;rename_i as hr;have ma:=yN X G hr;rw[A9] at s6;exact {
  fn:=λf t M B=>by
   have q0:f<(ix.map (gF p)).length:=by rw[h1] at B;have:=(Ai.mp B).1;rwa [lM] at this
   have q5:=M;rw[Aw q0,Ak] at M;obtain⟨c,hc,rfl⟩:=A1.mp M;have hd:=A9.mp hi c (mG hc);obtain⟨fa,fd,g1,g2⟩:=aEU (B6.mp s1 _ (D7.mpr ⟨aIg hd,hd⟩));refine⟨fa,fd,mg_of X G g1,g2,λF hF=>g2.binds λkV doc pm an cdv ct us hl=>hZ (A9.mp hb (F,gF p c) (mG (i:=f) ?_)) hl⟩;rw[Dy];exact⟨hF,q5⟩
  fns:=λf x B=>by rw[h1,Ak] at B;obtain⟨t,M,rfl⟩:=A1.mp B;exact⟨t,by rw[Aw (Ai.mp M).1];exact M,rfl⟩
  blt:=λx B=>mg_none_of X G ((cL I x).trans (B6.mp s2 x B))
  cns:=λx d B=>by rw[h2] at B;obtain⟨u,v,g1,g2⟩:=aEX (A9.mp s3 _ (B0 B));exact⟨u,v,mg_of X G g1,g2⟩
  tab:=λi x B=>by rw[h3,Ak] at B;obtain⟨q,hq,rfl⟩:=A1.mp B;have hm:=mG hq;obtain⟨a,g1,g2⟩:=aCU (prog:=prog) (B6.mp s4 q hm) (A9.mp h5 q hm);exact⟨a,aAD q.2,mg_of X G g1,by rw[h4,Ak,hq];rfl,g2⟩
  obj:=obj
  mkr:=λj c hj=>by
   rw[h8,Ak] at hj;obtain⟨o,ho,rfl⟩:=A1.mp hj;obtain⟨C,g1,_,_,g5,g6,_⟩:=yL (B6.mp s5 o (mG ho));have hP:P.objs[j]? = some (cE (eI p o.1),o.2.1,o.2.2.map λm=>(aS (kM p o.1 m.1),m.2.1)):=by rw[h6];unfold aEW;rw[Ak,ho];rfl
   unfold aCY at h9;rw[bA] at h9;have hl:=pK (of_decide_eq_true h9.1) hP;have L:=A9.mp h9.2 _ (mG hP);split at L;rename_i fi q1;split at L;rename_i F hF;obtain⟨C',n1,_,_,n2⟩:=obj _ _ hl;rw[g1] at n1;cases n1;obtain⟨t,fa,fd,k1,k2,k3,k4⟩:=n2 _ fi q1;exact⟨_,C,fi,t,fa,fd,F,hP,hl,g1,q1,mg_of X G g1,⟨g5,k3.at_,k3.fn,g6⟩,k1,k2,hF,k4 F hF,L⟩;cases L;cases L
  chk:=chk
  exc:=λc ab hc=>by rw[q2] at hc;have z:=s6 (c,ab) (B0 hc);split at z;rename_i C hn;refine⟨C,aCK (as:=as) (mg_of X G ((cL I c).trans hn)) ((cL I c).trans hn) ?_ ?_⟩;rw[W];exact z;rw[W];exact ma;cases z
  rsd:=λc hc=>CI.mp (A9.mp q3 c hc)
  cls:=λx B=>aAC ma x (by rw[<-W];exact B) }
 cases s6
theorem aCZ{l:Ix}{n k:Nat}{q:A0}{L:List Str}{XP:(Str->Option Value)->Heap->Prop}{YP:AH->Heap->Prop}{d:DefRec}{sp:An->Sp}{x:Str}(hn:l.most=some n)(Z:n<=sizeLine)(U:d.params.defaults=[])(hr:dQ k FQ)
 (F:∀(w:AH) (mg:Str->Option Value) (fa:Addr) (h:Heap),YP w h->h.Ns AB mg->mg d.name=some (.ref fa)->∃K:An,K.In h/\∃fd:Cs,(∀(s:Ad) (u:Value),J8 s fd ⟨[u],[]⟩ [(x,u)])/\∀base:Heap,K.In base->base.Ns AB mg->dG l.prog w K mg base (CX1 l.prog w) k fa fd [x] (sp K))
 (q0:∀(K:An) (H:Hp) (a:Addr) (ns:List Int),ns.length<=n->aEd H->SqL K H a (ns.map V.int)->sp K [.ref a] H (λv _=>v=.bl true) λ_ _ _=>False):PySem.W.WalkO q L XP YP l.row.toRowW d [] (λf vs=>IQ f vs):=by refine Att.attach_call hn U λw s₀ q1 mg mb fa o pm cd doc a vs ns G Y ho hd q2 W M I B hg=>?_;obtain⟨K,KX,fd,hb,hF⟩:=F w mg fa _ Y G.T.g W;exact aBo KX G.T.g G.T.b G.T.builtins G.T.nolimit hg M I (AX B Z) hr hF hb (λH hO hS=>q0 K H a ns B hO hS) λ_ _ _ z=>aAB z
noncomputable def lst(p:A0):BR:=p.main.body.getLastD (.Pass ⟨0,0,0,0⟩)
noncomputable def pL(p:A0):A0:={ p with main:={ p.main with body:=[lst p] } }
noncomputable def qY(p:A0):List Str:=(p.main.scope.names.map (·.1)).filter λx=>!(HG x (aS (lst p)))
noncomputable def aIi(s:BR):CF:=match s with|.FunctionDef _ _ _ _ _ _ _ _ _ p=>p|_=>⟨0,0,0,0⟩
noncomputable def iA(p:A0):DefRec:=⟨aS (lst p),eN (lst p),defBody (lst p),aQ (lst p),aIi (lst p)⟩
theorem aIj{l:Ix}{P:Pg}{n:Sn}{rsd:List Str}{ix:List (Nat×List Str)}{k f N:Nat}{x:Str}{sl:List Str}(Z:l.row.wellSaid=true)(W:KZ l.prog (pL l.prog) (qY l.prog) (λ_=>true) (λs=>gC l.prog n s.heap) (λw=>jS l.prog n w) N)
 (U:defOf (pL l.prog) l.name=some (iA l.prog,[])) (hp:l.prog.theDef l.name=some ((iA l.prog).params,(iA l.prog).body,(iA l.prog).scope)) (hk:kwWritten? (iA l.prog).params.kwonlyargs (iA l.prog).params.kw_defaults=some []) (q5:(!l.writes||([]:WRecords).isEmpty)=true)
 (ok:(chainsOk (pL l.prog)&&opensWell l.prog&&(frees l.row.toRowW&&l.row.within.isEmpty))=true) (hb:l.prog.bare) (hw:l.row.toRowW.promised) (hn:l.most=some 63) (q2:(iA l.prog).params.defaults=[])
 (hi:(ix.all λc=>tP (eI l.prog c.1))=true) (M:((P.fns.zip (ix.map (gF l.prog)++(mts n).map (nC l.prog))).all λq=>gB (eN q.2.st) (q.2.N.take q.1.np))=true) (chk:fL ⟨[],[],(ix.map (gF l.prog)).map (·.x),n.cns,n.cls,true,n.tbs.map (·.1),n.obs.map λo=>cE (eI l.prog o.1),rsd⟩ P.fns (ix.map (gF l.prog)++(mts n).map (nC l.prog))=true)
 (h4:P.tabs=n.tbs.map λq=>aAD q.2) (h5:(n.tbs.all λq=>yK q.2)=true) (h6:P.objs=aEW l.prog n) (h9:aCY P=true) (h7:(mts n).map (·.2.2.1)=(AD (mts n).length).map (·+ix.length)) (q0:P.above=n.above) (q1:(rsd.all λc=>(P.above.lookup c).isSome)=true) (hr:dQ (k+1) FQ) (hx:(ix.map (gF l.prog))[f]? = some ⟨aS (lst l.prog),aS (lst l.prog),lst l.prog,x::sl⟩) (q4:(P.fns[f]?).map (·.np)=some 1)
 (pure:∀ns:List Int,ns.length<=63->∃fr pa,Hp.call P (k+1) f [.lst (ns.map D.int)]=.ok (.bl true,fr,pa)):l.row.Holds:=by
 refine holds_open (XP:=λ_ _=>True) (YP:=λw h=>∃I,gC l.prog n I=jS l.prog n w/\∀b o,I.get? b=some o->h.get? b=some o) W (λw s e=>⟨s.heap,e,λ_ _ z=>z⟩) (λw h h' ⟨I,e,k⟩ k'=>⟨I,e,λb o z=>k' b o (k b o z)⟩) (λ_ _=>trivial) (λ_ _ _ _ _=>trivial) U hp hk (λ_ _=>recFacts_nil rfl) q5 Z ok hb hw ?_;obtain⟨F,hF,L⟩:=A1.mp q4;refine aCZ (sp:=λK=>spF K P (k+1) f) (x:=x) hn (by decide) q2 hr (λw mg fa h ⟨I,e,kk⟩ G q3=>?_) λK H a ns hl hO hS=>aIb hO hS (pure ns hl);have T:=aIh (prog:=l.prog) (w:=w) (P:=P) (Γ:=⟨[],[],(ix.map (gF l.prog)).map (·.x),n.cns,n.cls,true,n.tbs.map (·.1),n.obs.map λo=>cE (eI l.prog o.1),rsd⟩) e kk G hi rfl rfl rfl h4 h5 h6 rfl h9 h7 q0 rfl q1 M chk;have B:(ix.map (gF l.prog)++(mts n).map (nC l.prog))[f]? = some ⟨aS (lst l.prog),aS (lst l.prog),lst l.prog,x::sl⟩:=by rw[Aw (Ai.mp hx).1];exact hx
 obtain⟨q6,fd,g1,g2,g3⟩:=T.fn f _ B (by rw[Ak,hx];rfl);have e:=q3.symm.trans g1;cases e;have b:=g3 F hF;refine⟨bK I,yI kk,fd,λs u=>?_,λbase _ _=>?_⟩;obtain⟨oc,od,kV,doc,pm,an,cdv,ct,osl,rfl,lk,q7⟩:=g2.ex;refine .of_eq ((hZ (ps:=[x]) ?_ rfl).trans rfl);have:=A9.mp M (F,_) (mG (i:=f) (Dy.mpr ⟨hF,B⟩));rw[L] at this;exact this;have:=aIa (base:=base) T B hF g2 k;rw[L] at this;exact this
end Hh
namespace Hp
open PySem (Str Operator CmpOp)
section
variable {P:Pg} {W:Caller} {σ:Sg}
@[simp] theorem aG {α l:Type} (a:α) (f:α->R l):((R.ok a:R α) >>= f)=f a:=id rfl
@[simp] theorem aKR {α:Type} (x:R α):R.iff true x=x:=id rfl
@[simp] theorem aNj {α:Type} (x:α):R.of (some x)=.ok x:=id rfl
@[simp] theorem cM {α:Type} (a:α) (f:α->O):O.from σ (.ok a) f=f a:=id rfl
@[simp] theorem aMK (f:Sg->O):(O.next σ).on f=f σ:=id rfl
@[simp] theorem aNd (v:Vl) (f:Sg->O):(O.ret v).on f=.ret v:=id rfl
@[simp] theorem aIk (d:D):ev P W σ (.c d)=.ok (.cl d):=id rfl
@[simp] theorem aNk (i:Nat):ev P W σ (.v i)=bU σ i:=id rfl
@[simp] theorem aFT (o:Operator) (a b:E):ev P W σ (.op o a b)=(ev P W σ a >>= λx=>ev P W σ b >>= λy=>opD o x y):=id rfl
@[simp] theorem aML (a:E):ev P W σ (.neg a)=(ev P W σ a >>= λx=>match x.d with|.int i=>.ok (.cl (.int (-i)))|_=>.bad):=id rfl
@[simp] theorem aNe (a:E):ev P W σ (.nt a)=(ev P W σ a >>= λx=>cV x >>= λk=>.ok (.cl (.bl (!k)))):=id rfl
@[simp] theorem aKS (a b:E):ev P W σ (.an a b)=(ev P W σ a >>= λx=>match x.d with|.bl true=>ev P W σ b|.bl false=>.ok (.cl (.bl false))|_=>.bad):=id rfl
@[simp] theorem aIl (a b:E):ev P W σ (.orr a b)=(ev P W σ a >>= λx=>match x.d with|.bl true=>.ok (.cl (.bl true))|.bl false=>ev P W σ b|_=>.bad):=id rfl
@[simp] theorem aMM (t a b:E):ev P W σ (.ife t a b)=(tst P W σ t >>= λx=>if x then ev P W σ a else ev P W σ b):=id rfl
@[simp] theorem aIm (o:CmpOp) (a b:E):ev P W σ (.cmp o a b)=(ev P W σ a >>= λx=>ev P W σ b >>= λy=>match bL o x.d y.d with|some k=>.ok (.cl (.bl k))|none=>.bad):=id rfl
@[simp] theorem aLy (o o':CmpOp) (a b c:E):ev P W σ (.cmp2 o o' a b c)=(ev P W σ a >>= λx=>ev P W σ b >>= λy=>match bL o x.d y.d with
 | some true=>ev P W σ c >>= λz=>(match bL o' y.d z.d with|some k=>.ok (.cl (.bl k))|none=>.bad)
 | some false=>.ok (.cl (.bl false))|none=>.bad):=id rfl
@[simp] theorem iB (a b:E):ev P W σ (.idx a b)=(ev P W σ a >>= λx=>ev P W σ b >>= λy=>nO x y):=id rfl
@[simp] theorem aDa (es:Es):ev P W σ (.tup es)=(evs P W σ es >>= λvs=>.ok (wY vs)):=id rfl
@[simp] theorem wB (es:Es):ev P W σ (.lst es)=(evs P W σ es >>= λvs=>.ok (wZ vs)):=id rfl
@[simp] theorem yO (f:Nat) (es:Es):ev P W σ (.call f es)=(evs P W σ es >>= λvs=>W f (vs.map (·.d)) >>= λr=>.ok (aW vs r)):=id rfl
@[simp] theorem aKT (b:Bi) (es:Es):ev P W σ (.bi b es)=(evs P W σ es >>= λvs=>biD b vs):=id rfl
@[simp] theorem aIn (a:E) (cs:List Cl):ev P W σ (.isi a cs)=(ev P W σ a >>= λx=>match isI cs P x.d with|some k=>.ok (.cl (.bl k))|none=>.bad):=id rfl
@[simp] theorem aEY (a:E) (h:E):ev P W σ (.sli a .nil (.cons h .nil))=(ev P W σ a >>= λx=>ev P W σ h >>= λh=>match h.d with|.int h=>.iff (aT h) (gO x none (some h))|_=>.bad):=by
 show(ev P W σ a >>= λx=>evs P W σ .nil >>= λl=>evs P W σ (.cons h .nil) >>= λh=>_)=_;cases ev P W σ a with
 | ok x=>
  show(evs P W σ (.cons h .nil) >>= λh=>_)=(ev P W σ h >>= λh=>_)
  show((ev P W σ h >>= λx=>evs P W σ .nil >>= λxs=>R.ok (x::xs)) >>= λh=>_)=_;cases ev P W σ h <;> rfl
 | exc e=>rfl|bad=>rfl
theorem yP(k:Nat)(caps:List Nat)(t:T)(it:It)(cond:Es)(elt:E):ev P W σ (.comp k caps t it cond elt)=(walk P W σ it >>= λxs=>
 cD (λx=>aV (Ag k .dead++caps.map λi=>((freeze σ xs.2)[i]?).getD .dead) x t >>= λl=>tsts P W l cond >>= λk=>if k then (ev P W l elt >>= λy=>.ok (some y)) else .ok none) xs.1 >>= λvs=>
 .iff (decide (vs.length<=lim)) (.ok (fD k caps xs.2 vs))):=rfl
@[simp] theorem aEZ:evs P W σ .nil=.ok []:=id rfl
@[simp] theorem cN (e:E) (es:Es):evs P W σ (.cons e es)=(ev P W σ e >>= λx=>evs P W σ es >>= λxs=>.ok (x::xs)):=id rfl
@[simp] theorem aIo (a:E):tst P W σ (.nt a)=(tst P W σ a >>= λx=>.ok (!x)):=id rfl
@[simp] theorem aMN (a b:E):tst P W σ (.an a b)=(tst P W σ a >>= λx=>if x then tst P W σ b else .ok false):=id rfl
@[simp] theorem yQ (a b:E):tst P W σ (.orr a b)=(tst P W σ a >>= λx=>if x then .ok true else tst P W σ b):=id rfl
@[simp] theorem aNf (d:D):tst P W σ (.c d)=cV (.cl d):=id rfl
@[simp] theorem aNg (i:Nat):tst P W σ (.v i)=(bU σ i >>= λx=>cV x):=id rfl
@[simp] theorem aFa (o:CmpOp) (a b:E):tst P W σ (.cmp o a b)=(ev P W σ a >>= λx=>ev P W σ b >>= λy=>match bL o x.d y.d with|some k=>.ok k|none=>.bad):=id rfl
@[simp] theorem aKU (o o':CmpOp) (a b c:E):tst P W σ (.cmp2 o o' a b c)=(ev P W σ a >>= λx=>ev P W σ b >>= λy=>match bL o x.d y.d with
 | some true=>ev P W σ c >>= λz=>(match bL o' y.d z.d with|some k=>.ok k|none=>.bad)
 | some false=>.ok false|none=>.bad):=id rfl
@[simp] theorem aDb (f:Nat) (es:Es):tst P W σ (.call f es)=(evs P W σ es >>= λvs=>W f (vs.map (·.d)) >>= λr=>cV (aW vs r)):=id rfl
@[simp] theorem aFb (a:E) (cs:List Cl):tst P W σ (.isi a cs)=(ev P W σ a >>= λx=>match isI cs P x.d with|some k=>.ok k|none=>.bad):=id rfl
@[simp] theorem aLz (a b:E):tst P W σ (.idx a b)=(ev P W σ a >>= λx=>ev P W σ b >>= λy=>nO x y >>= λz=>cV z):=id rfl
@[simp] theorem tQ:tsts P W σ .nil=.ok true:=id rfl
@[simp] theorem aAE (e:E) (es:Es):tsts P W σ (.cons e es)=(tst P W σ e >>= λx=>if x then tsts P W σ es else .ok false):=id rfl
@[simp] theorem aDc (a b:E):walk P W σ (.rng a b)=(ev P W σ a >>= λx=>ev P W σ b >>= λy=>match x.d,y.d with|.int i,.int j=>.iff (aT i&&aT j) (.ok ((eO i j).map .cl,[]))|_,_=>.bad):=id rfl
@[simp] theorem tR (e:E):walk P W σ (.seq e)=(ev P W σ e >>= λx=>match x.d with
 | .lst ds=>.ok (items x ds,x.al)|.tup ds=>.ok (items x ds,x.al)|_=>.bad):=id rfl
@[simp] theorem aKV (a b:E):walk P W σ (.zip a b)=(ev P W σ a >>= λx=>ev P W σ b >>= λy=>match lO x.d,lO y.d with
 | some as,some bs=>.ok (items ⟨.non,false,x.pa||y.pa,x.al++y.al⟩ (kH as bs),x.al++y.al)|_,_=>.bad):=id rfl
@[simp] theorem aDd (t:T) (e:E):ex P W σ (.set t e)=O.from σ (ev P W σ e) λv=>O.from σ (aV (freeze σ v.al) v t) .next:=id rfl
@[simp] theorem aIp (i:Nat) (e:E):ex P W σ (.app i e)=O.from σ (ev P W σ e) λv=>put σ i v λds=>some (ds++[v.d]):=id rfl
@[simp] theorem aMO (i:Nat) (e:E):ex P W σ (.ext i e)=O.from σ (ev P W σ e) λv=>match xB v with|some (v',ds')=>put σ i v' λds=>some (ds++ds')|none=>.bad:=id rfl
@[simp] theorem aDe (i:Nat) (k e:E):ex P W σ (.setIx i k e)=O.from σ (ev P W σ e) λv=>O.from σ (ev P W σ k) λl=>match l.d with
 | .int k=>put σ i v λds=>(match ixN ds.length k with|some j=>some (ds.set j v.d)|none=>none)
 | _=>.bad:=id rfl
@[simp] theorem aIq (e:E):ex P W σ (.ret e)=O.from σ (ev P W σ e) .ret:=id rfl
@[simp] theorem aDf (c:E) (a b:Ss):ex P W σ (.iff c a b)=O.from σ (tst P W σ c) λk=>if k then exs P W σ a else exs P W σ b:=id rfl
theorem wD(t:T)(it:It)(b:Ss):ex P W σ (.for t it b)=O.from σ (walk P W σ it) λxs=>dE (λσ x=>O.from σ (aV σ x t) λσ'=>exs P W σ' b) xs.1 (freeze σ xs.2):=rfl
@[simp] theorem aMP (i j:Nat):ex P W σ (.mov i j)=(match σ[j]? with
 | some (.own pa ds)=>if i=j then .bad else .next ((σ.set j .dead).set i (.own pa ds))|some (.sh pa d)=>.next (σ.set i (.sh (pa&&!noL d) d))|_=>.bad):=id rfl
@[simp] theorem aFc (i:Nat):ex P W σ (.retv i)=(match σ[i]? with|some (.own pa ds)=>.ret ⟨.lst ds,true,pa,[]⟩|some (.own2 dss)=>.ret ⟨.lst (dss.map .lst),true,false,[]⟩|_=>O.from σ (bU σ i) .ret):=id rfl
@[simp] theorem aLA:exs P W σ .nil=.next σ:=id rfl
@[simp] theorem fN (s:S) (ss:Ss):exs P W σ (.cons s ss)=(ex P W σ s).on λσ'=>exs P W σ' ss:=id rfl
end
theorem aFd{P:Pg}{W:Caller}{f:Nat}{F:Fn}{ds:List D}(l:P.fns[f]? = some F)(hl:ds.length=F.np){v:Vl}
 (h:exs P W ((ds.map λd=>Sl.sh true d)++Ag (F.ns-F.np) Sl.dead) F.body=.ret v):gP P W f ds=.ok (v.d,v.fr,v.pa):=by unfold gP;rw[l];simp only[hl,if_true,h]
theorem tS{f:Sg->Vl->O}:∀(xs:List Vl) (I:Nat->Sg->Prop) (σ:Sg),I 0 σ->(∀(i:Nat) (h:i<xs.length) (σ:Sg),I i σ->∃σ',f σ xs[i]=.next σ'/\I (i+1) σ')->∃σ',dE f xs σ=.next σ'/\I xs.length σ'
 | [],I,σ,h0,_=>⟨σ,rfl,h0⟩
 | x::xs,I,σ,h0,hs=>by
  obtain⟨l,B,M⟩:=hs 0 (by simp) σ h0;obtain⟨G,L,U⟩:=tS xs (λi=>I (i+1)) l M λi h σ W=>by have:=hs (i+1) (by simpa using h) σ W;simpa using this
  refine⟨G,?_,by simpa using U⟩;have B:f σ x=.next l:=by simpa using B
  unfold dE;rw[B];exact L
theorem aIr(n:Nat):(eO 0 (n:Int)).map Vl.cl=(AD n).map λ(k:Nat)=>Vl.cl (.int (k:Int)):=by unfold eO;rw[Bb];simp
theorem aDg{P:Pg}{W:Caller}{σ:Sg}{t:T}{it:It}{b:Ss}{xs:List Vl}{al:List Nat}(I:Nat->Sg->Prop)(U:walk P W σ it=.ok (xs,al))(L:I 0 (freeze σ al))
 (hs:∀(i:Nat) (h:i<xs.length) (σ:Sg),I i σ->∃l σ',aV σ xs[i] t=.ok l/\exs P W l b=.next σ'/\I (i+1) σ'):∃σ',ex P W σ (.for t it b)=.next σ'/\I xs.length σ':=by rw[wD,U];refine tS xs I _ L λi h σ M=>?_;obtain⟨l,σ',B,G,h'⟩:=hs i h σ M;refine⟨σ',?_,h'⟩;show O.from σ (aV σ xs[i] t) _=_;rw[B];exact G
theorem aFe:aT 0=true:=by decide
theorem aFf{n:Nat}(l:n<=1000000):aT (n:Int)=true:=by unfold aT;rw[bA,Bo,Bo];exact⟨Int.le_trans (b:=0) (by decide) (Fb n),Int.lt_of_le_of_lt (b:=1000000) (by omega) (by decide)⟩
theorem iC{P:Pg}{W:Caller}{σ:Sg}{a:E}{v:Vl}{n:Nat}(h:ev P W σ a=.ok v)(hd:v.d=.int n)(l:n<=1000000):walk P W σ (.rng (.c (.int 0)) a)=.ok ((AD n).map λ(k:Nat)=>Vl.cl (.int (k:Int)),[]):=by rw[aDc,h,aIk,aG,aG,hd,<-aIr];show R.iff (aT 0&&aT (n:Int)) _=_;rw[aFe,aFf l];rfl
theorem aAF{k:Nat}{caps al:List Nat}{vs:List Vl}(h:noLs (vs.map (·.d))=true):fD k caps al vs=⟨.lst (vs.map (·.d)),true,false,[]⟩:=by unfold fD;rw[if_pos h]
end Hp
namespace Hp
open PySem (Str)
@[simp] theorem aLB (d:D):(⟨d,false,false,[]⟩:Vl)=.cl d:=id rfl
@[simp] theorem aNl (d:D):(Vl.cl d).d=d:=id rfl
@[simp] theorem aNh (d:D):(Vl.cl d).fr=false:=id rfl
@[simp] theorem aNi (d:D):(Vl.cl d).pa=false:=id rfl
@[simp] theorem aKW (d:D):(Vl.cl d).al=[]:=id rfl
@[simp] theorem yR (d:D):(Vl.cl d).slot=.sh false d:=by cases d <;> rfl
@[simp] theorem aLC (ds:List D) (pa:Bool) (al:List Nat):(⟨.lst ds,true,pa,al⟩:Vl).slot=.own pa ds:=id rfl
@[simp] theorem aLD (i:Nat) (d:D):Sl.val i (.sh false d)=.ok (.cl d):=id rfl
@[simp] theorem aLE (i:Nat) (pa:Bool) (k:Int):Sl.val i (.sh pa (.int k))=.ok (.cl (.int k)):=by cases pa <;> rfl
@[simp] theorem aLF (i:Nat) (pa:Bool) (k:Str):Sl.val i (.sh pa (.str k))=.ok (.cl (.str k)):=by cases pa <;> rfl
@[simp] theorem aMQ (i:Nat) (pa:Bool) (k:Bool):Sl.val i (.sh pa (.bl k))=.ok (.cl (.bl k)):=by cases pa <;> rfl
@[simp] theorem aLG (i:Nat) (pa:Bool):Sl.val i (.sh pa .non)=.ok (.cl .non):=by cases pa <;> rfl
@[simp] theorem aLH (i:Nat) (ds:List D):Sl.val i (.sh true (.lst ds))=.ok ⟨.lst ds,false,true,[]⟩:=id rfl
theorem aFg(i:Nat)(pa:Bool){d:D}(h:noL d=true):Sl.val i (.sh pa d)=.ok (.cl d):=by unfold Sl.val;simp[h]
@[simp] theorem aLI (i:Nat) (pa:Bool) (ds:List D):Sl.val i (.own pa ds)=.ok ⟨.lst ds,false,pa,[i]⟩:=id rfl
@[simp] theorem yS (σ:Sg) (v:Vl) (i:Nat):aV σ v (.n i)=.ok (σ.set i v.slot):=id rfl
@[simp] theorem qZ (σ:Sg):freeze σ []=σ:=id rfl
@[simp] theorem aMR (b:Bool):cV (.cl (.bl b))=.ok b:=id rfl
@[simp] theorem aMS (args:List Vl) (d:D):aW args (d,false,false)=.cl d:=id rfl
@[simp] theorem aMT (args:List Vl) (d:D):aW args (d,true,false)=⟨d,true,false,[]⟩:=id rfl
@[simp] theorem aIs (a b:D):bL .Eq a b=eqD a b:=id rfl
@[simp] theorem aDh (a b:D):bL .NotEq a b=(eqD a b).map (!·):=id rfl
@[simp] theorem aMU (a b:Int):bL .Lt (.int a) (.int b)=some (decide (a<b)):=id rfl
@[simp] theorem aDi (a b:Int):bL .Gt (.int a) (.int b)=some (decide (b<a)):=id rfl
@[simp] theorem aMV (a b:Int):bL .LtE (.int a) (.int b)=some (decide (a<=b)):=id rfl
theorem aFh(n:Nat)(a b:Int):eqF (n+1) (.int a) (.int b)=some (a==b):=rfl
theorem aFi(n:Nat)(a b:List D):eqF (n+1) (.tup a) (.tup b)=dH n a b:=uY n a b
@[simp] theorem rA (a b:Int):eqD (.int a) (.int b)=some (a==b):=id rfl
@[simp] theorem aLJ (a b:Str):eqD (.str a) (.str b)=some (a==b):=id rfl
@[simp] theorem aLK (P:Pg) (k:Int):isI [.tInt] P (.int k)=some true:=id rfl
@[simp] theorem aKX (P:Pg) (k:Int):isI [.tBool] P (.int k)=some false:=id rfl
@[simp] theorem aLL (P:Pg) (k:Str):isI [.tStr] P (.str k)=some true:=id rfl
@[simp] theorem aLM (P:Pg) (k:List D):isI [.tTuple] P (.tup k)=some true:=id rfl
@[simp] theorem aLN (P:Pg) (k:List D):isI [.tList] P (.lst k)=some true:=id rfl
@[simp] theorem aMW (P:Pg) (k:Bool):isI [.tBool] P (.bl k)=some true:=id rfl
@[simp] theorem add_int (i j:Int):opD .Add (.cl (.int i)) (.cl (.int j))=.ok (.cl (.int (i+j))):=id rfl
@[simp] theorem sub_int (i j:Int):opD .Sub (.cl (.int i)) (.cl (.int j))=.ok (.cl (.int (i-j))):=id rfl
theorem mul_int{i j:Int}(h:lK i j=true):opD .Mult (.cl (.int i)) (.cl (.int j))=.ok (.cl (.int (i*j))):=by show R.iff (lK i j) _=_;rw[h];rfl
@[simp] theorem aLO (ds:List D) (fr pa:Bool) (al:List Nat):biD .len [⟨.lst ds,fr,pa,al⟩]=.ok (.cl (.int ds.length)):=id rfl
@[simp] theorem aLP (ds:List D):biD .len [.cl (.tup ds)]=.ok (.cl (.int ds.length)):=id rfl
@[simp] theorem aKY (ds:List D):biD .len [.cl (.lst ds)]=.ok (.cl (.int ds.length)):=id rfl
end Hp
namespace HpS
open Hp PySem
section
variable {P:Pg} {W:Caller} {σ σ':Sg}
theorem cs{s:S}{ss:Ss}{o:O}(h:ex P W σ s=.next σ')(r:exs P W σ' ss=o):exs P W σ (.cons s ss)=o:=by rw[fN,h,aMK,r]
theorem aKZ{i:Nat}{e:E}{d:D}(h:ev P W σ e=.ok (.cl d)):ex P W σ (.set (.n i) e)=.next (σ.set i (.sh false d)):=by rw[aDd,h,cM,aKW,qZ,yS,cM,yR]
theorem aDj{e:E}{ss:Ss}{v:Vl}(h:ev P W σ e=.ok v):exs P W σ (.cons (.ret e) ss)=.ret v:=by rw[fN,aIq,h];rfl
theorem aMX{c:E}{a:Ss}(h:tst P W σ c=.ok false):ex P W σ (.iff c a .nil)=.next σ:=by rw[aDf,h];rfl
theorem aMY{a b:E}{x y z:Vl}(h:ev P W σ a=.ok x)(k:ev P W σ b=.ok y)(e:nO x y=.ok z):ev P W σ (.idx a b)=.ok z:=by rw[iB,h,aG,k,aG,e]
theorem aIt{o:Operator}{a b:E}{x y z:Vl}(h:ev P W σ a=.ok x)(k:ev P W σ b=.ok y)(e:opD o x y=.ok z):ev P W σ (.op o a b)=.ok z:=by rw[aFT,h,aG,k,aG,e]
theorem aLa{o:CmpOp}{a b:E}{x y:Vl}{k:Bool}(h:ev P W σ a=.ok x)(g:ev P W σ b=.ok y)(e:bL o x.d y.d=some k):ev P W σ (.cmp o a b)=.ok (.cl (.bl k)):=by rw[aIm,h,aG,g,aG,e]
theorem pM{b:Bi}{a:E}{x z:Vl}(h:ev P W σ a=.ok x)(e:biD b [x]=.ok z):ev P W σ (.bi b (.cons a .nil))=.ok z:=by
 have l:evs P W σ (.cons a .nil)=.ok [x]:=by rw[cN,h];rfl
 rw[aKT,l,aG,e]
end
end HpS
namespace Hp
open PySem (Str)
theorem fO{α:Type}{g:α->D}(l:∀t,noL (g t)=true):∀ts:List α,noLs (ts.map g)=true
 | []=>rfl|t::ts=>by rw[mC,noLs,l t,fO l ts];rfl
theorem tU{α:Type}{F:Vl->R (Option Vl)}{f:α->Vl}{g:α->D}{p:α->Bool}:∀{ts:List α},(∀t∈ts,F (f t)=.ok (if p t then some (.cl (g t)) else none))->cD F (ts.map f)=.ok ((ts.filter p).map λt=>.cl (g t))
 | [],_=>rfl|t::ts,h=>by
  have B:=h t Aj;have G:=tU (F:=F) (f:=f) (g:=g) (p:=p) (ts:=ts) λy I=>h y (Ae _ I);show(F (f t) >>= λy=>cD F (ts.map f) >>= λys=>(match y with|some y=>R.ok (y::ys)|none=>R.ok ys))=_;rw[B,G];cases l:p t with
  | true=>rw[List.filter_cons_of_pos l];rfl|false=>rw[List.filter_cons_of_neg (by rw[l];exact bN)];rfl
theorem aFj{α:Type}{g:α->D}(l:∀t,noL (g t)=true){k:Nat}{caps al:List Nat}(ts:List α):fD k caps al (ts.map λt=>Vl.cl (g t))=⟨.lst (ts.map g),true,false,[]⟩:=by
 have e:(ts.map λt=>Vl.cl (g t)).map (·.d)=ts.map g:=by rw[Bb];rfl
 rw[aAF (by rw[e];exact fO l ts),e]
theorem aIu{P:Pg}{W:Caller}{σ:Sg}{k:Nat}{caps al:List Nat}{T:T}{it:It}{c elt:E}{α:Type}{ts:List α}(f:α->Vl)(g:α->D)(p:α->Bool)(Z:∀t,noL (g t)=true)(U:walk P W σ it=.ok (ts.map f,al))(hl:ts.length<=lim)
 (hb:∀t∈ts,∃l,aV (Ag k .dead++caps.map λi=>((freeze σ al)[i]?).getD .dead) (f t) T=.ok l/\tst P W l c=.ok (p t)/\ev P W l elt=.ok (.cl (g t))):ev P W σ (.comp k caps T it (.cons c .nil) elt)=.ok ⟨.lst ((ts.filter p).map g),true,false,[]⟩:=by
 rw[yP,U,aG,tU (f:=f) (g:=g) (p:=p) λt M=>by
  obtain⟨l,G,I,L⟩:=hb t M;show(aV _ (f t) T >>= λl=>_)=_;rw[G];show(tsts P W l (.cons c .nil) >>= λk=>if k then (ev P W l elt >>= λy=>R.ok (some y)) else R.ok none)=_;rw[aAE,I,aG];cases hp:p t with
  | true=>rw[if_pos rfl,tQ,aG,if_pos rfl,L];rfl|false=>rfl]
 have B:decide (((ts.filter p).map λt=>Vl.cl (g t)).length<=lim)=true:=AR (by rw[lM];exact AX (List.length_filter_le _ _) hl);rw[aG,B,aKR,aFj Z]
theorem aAG{α:Type}{v:Vl}{g:α->D}(l:∀t,noL (g t)=true)(ts:List α):items v (ts.map g)=ts.map λt=>Vl.cl (g t):=by unfold items;rw[Bb];refine CN λt _=>?_;show Vl.sub v (g t)=_;unfold Vl.sub;rw[if_pos (l t)]
end Hp
namespace K39
open Hp
noncomputable def f0:Hp.Fn:=⟨3,6,
 (.cons (.set (.n 3) (.idx (.v 0) (.c (.int 0))))
 (.cons (.iff (.cmp .Eq (.v 3) (.c (.str "number")))
  (.cons (.ret (.idx (.v 0) (.c (.int 1))))
  .nil)
  .nil)
 (.cons (.iff (.cmp .Eq (.v 3) (.c (.str "box")))
  (.cons (.ret (.idx (.v 1) (.idx (.v 0) (.c (.int 1)))))
  .nil)
  .nil)
 (.cons (.iff (.cmp .Eq (.v 3) (.c (.str "after")))
  (.cons (.ret (.idx (.v 2) (.idx (.v 0) (.c (.int 1)))))
  .nil)
  .nil)
 (.cons (.set (.n 4) (.call 0 (.cons (.idx (.v 0) (.c (.int 1))) (.cons (.v 1) (.cons (.v 2) .nil)))))
 (.cons (.set (.n 5) (.call 0 (.cons (.idx (.v 0) (.c (.int 2))) (.cons (.v 1) (.cons (.v 2) .nil)))))
 (.cons (.ret (.ife (.cmp .Eq (.v 3) (.c (.str "plus"))) (.op .Add (.v 4) (.v 5)) (.op .Sub (.v 4) (.v 5))))
 .nil)))))))⟩
noncomputable def f1:Hp.Fn:=⟨3,6,
 (.cons (.set (.n 3) (.idx (.v 0) (.c (.int 0))))
 (.cons (.iff (.cmp .Eq (.v 3) (.c (.str "yes")))
  (.cons (.ret (.c (.bl true)))
  .nil)
  .nil)
 (.cons (.iff (.cmp .Eq (.v 3) (.c (.str "not")))
  (.cons (.ret (.nt (.call 1 (.cons (.idx (.v 0) (.c (.int 1))) (.cons (.v 1) (.cons (.v 2) .nil))))))
  .nil)
  .nil)
 (.cons (.iff (.cmp .Eq (.v 3) (.c (.str "both")))
  (.cons (.ret (.an (.call 1 (.cons (.idx (.v 0) (.c (.int 1))) (.cons (.v 1) (.cons (.v 2) .nil)))) (.call 1 (.cons (.idx (.v 0) (.c (.int 2))) (.cons (.v 1) (.cons (.v 2) .nil))))))
  .nil)
  .nil)
 (.cons (.iff (.cmp .Eq (.v 3) (.c (.str "either")))
  (.cons (.ret (.orr (.call 1 (.cons (.idx (.v 0) (.c (.int 1))) (.cons (.v 1) (.cons (.v 2) .nil)))) (.call 1 (.cons (.idx (.v 0) (.c (.int 2))) (.cons (.v 1) (.cons (.v 2) .nil))))))
  .nil)
  .nil)
 (.cons (.set (.n 4) (.call 0 (.cons (.idx (.v 0) (.c (.int 1))) (.cons (.v 1) (.cons (.v 2) .nil)))))
 (.cons (.set (.n 5) (.call 0 (.cons (.idx (.v 0) (.c (.int 2))) (.cons (.v 1) (.cons (.v 2) .nil)))))
 (.cons (.ret (.ife (.cmp .Eq (.v 3) (.c (.str "is"))) (.cmp .Eq (.v 4) (.v 5)) (.cmp .Lt (.v 4) (.v 5))))
 .nil))))))))⟩
noncomputable def f2:Hp.Fn:=⟨3,7,
 (.cons (.iff (.nt (.call 1 (.cons (.idx (.v 1) (.c (.int 0))) (.cons (.v 2) (.cons (.c .non) .nil)))))
  (.cons (.ret (.c .non))
  .nil)
  .nil)
 (.cons (.set (.n 3) (.bi .list (.cons (.v 2) .nil)))
 (.cons (.for (.t [4,5]) (.seq (.idx (.v 1) (.c (.int 1))))
  (.cons (.set (.n 6) (.call 0 (.cons (.v 5) (.cons (.v 2) (.cons (.c .non) .nil)))))
  (.cons (.iff (.nt (.cmp2 .LtE .LtE (.c (.int 0)) (.v 6) (.idx (.idx (.v 0) (.v 4)) (.c (.int 1)))))
   (.cons (.ret (.c .non))
   .nil)
   .nil)
  (.cons (.setIx 3 (.v 4) (.v 6))
  .nil))))
 (.cons (.ret (.bi .tuple (.cons (.v 3) .nil)))
 .nil))))⟩
noncomputable def f3:Hp.Fn:=⟨1,1,
 (.cons (.ret (.an (.isi (.v 0) [.tInt]) (.nt (.isi (.v 0) [.tBool]))))
 .nil)⟩
noncomputable def f4:Hp.Fn:=⟨3,3,
 (.cons (.ret (.an (.call 3 (.cons (.v 0) .nil)) (.cmp2 .LtE .LtE (.v 1) (.v 0) (.v 2))))
 .nil)⟩
noncomputable def f5:Hp.Fn:=⟨1,6,
 (.cons (.set (.n 1) (.lst (.cons (.tup .nil) .nil)))
 (.cons (.for (.t [2,3]) (.seq (.v 0))
  (.cons (.set (.n 4) (.lst .nil))
  (.cons (.for (.n 5) (.seq (.v 1))
   (.cons (.ext 4 (.comp 1 [5] (.n 0) (.rng (.c (.int 0)) (.op .Add (.v 3) (.c (.int 1)))) .nil (.op .Add (.v 1) (.tup (.cons (.v 0) .nil)))))
   .nil))
  (.cons (.mov 1 4)
  .nil))))
 (.cons (.retv 1)
 .nil)))⟩
noncomputable def f6:Hp.Fn:=⟨2,2,
 (.cons (.iff (.orr (.nt (.isi (.v 1) [.tTuple])) (.cmp .NotEq (.bi .len (.cons (.v 1) .nil)) (.bi .len (.cons (.v 0) .nil))))
  (.cons (.ret (.c (.bl false)))
  .nil)
  .nil)
 (.cons (.ret (.bi .all (.cons (.comp 2 [] (.t [0,1]) (.zip (.v 0) (.v 1)) .nil (.call 4 (.cons (.v 1) (.cons (.c (.int 0)) (.cons (.idx (.v 0) (.c (.int 1))) .nil))))) .nil)))
 .nil))⟩
noncomputable def f7:Hp.Fn:=⟨2,2,
 (.cons (.ret (.comp 1 [1] (.n 0) (.seq (.call 5 (.cons (.v 0) .nil))) (.cons (.call 1 (.cons (.v 1) (.cons (.v 0) (.cons (.c .non) .nil)))) .nil) (.v 0)))
 .nil)⟩
noncomputable def f8:Hp.Fn:=⟨2,2,
 (.cons (.ret (.ife (.cmp2 .LtE .Lt (.c (.int 0)) (.v 1) (.bi .len (.cons (.v 0) .nil))) (.idx (.v 0) (.v 1)) (.lst .nil)))
 .nil)⟩
noncomputable def f9:Hp.Fn:=⟨1,1,
 (.cons (.ret (.op .Add (.bi .len (.cons (.v 0) .nil)) (.c (.int 1))))
 .nil)⟩
noncomputable def f10:Hp.Fn:=⟨1,4,
 (.cons (.ret (.grp 0)) .nil)⟩
noncomputable def f11:Hp.Fn:=⟨7,7,
 (.cons (.retC 12 (.cons (.mk 0 (.cons (.v 0) (.cons (.v 1) (.cons (.v 2) (.cons (.v 3) (.cons (.v 4) .nil)))))) (.cons (.v 5) (.cons (.v 6) .nil))))
 .nil)⟩
noncomputable def f12:Hp.Fn:=⟨3,8,
 (.cons (.exC 13 (.cons (.v 0) (.cons (.v 2) .nil)))
 (.cons (.for (.n 3) (.seq (.call 7 (.cons (.fld 0 "boxes") (.cons (.v 1) .nil))))
  (.cons (.iff (.cmp .NotIn (.v 3) (.idx (.v 2) (.c (.int 0))))
   (.cons (.ret (.tup (.cons (.c (.str "begin")) (.cons (.v 3) .nil))))
   .nil)
   .nil)
  .nil))
 (.cons (.for (.t [4,5]) (.enum (.v 2))
  (.cons (.for (.n 6) (.seq (.v 5))
   (.cons (.set (.n 7) (.call 15 (.cons (.v 0) (.cons (.v 2) (.cons (.v 4) (.cons (.v 6) .nil))))))
   (.cons (.iff (.cmp .IsNot (.v 7) (.c .non))
    (.cons (.retv 7)
    .nil)
    .nil)
   .nil)))
  .nil))
 (.cons (.ret (.c .non))
 .nil))))⟩
noncomputable def f13:Hp.Fn:=⟨2,3,
 (.cons (.iff (.orr (.nt (.isi (.v 1) [.tList])) (.cmp .NotEq (.bi .len (.cons (.v 1) .nil)) (.call 9 (.cons (.fld 0 "hand") .nil))))
  (.cons (.rse "NoPaper" (.c (.str "a paper is a list with a list of stands for each place")))
  .nil)
  .nil)
 (.cons (.for (.n 2) (.seq (.v 1))
  (.cons (.exC 14 (.cons (.fld 0 "boxes") (.cons (.v 2) .nil)))
  .nil))
 .nil))⟩
noncomputable def f14:Hp.Fn:=⟨2,2,
 (.cons (.iff (.orr (.nt (.isi (.v 1) [.tList])) (.nt (.bi .all (.cons (.comp 1 [0] (.n 0) (.seq (.v 1)) .nil (.call 6 (.cons (.v 1) (.cons (.v 0) .nil)))) .nil))))
  (.cons (.rse "NoPaper" (.c (.str "a paper has a list of stands of the boxes for each place")))
  .nil)
  .nil)
 (.cons (.iff (.cmp .NotEq (.v 1) (.sset (.v 1)))
  (.cons (.rse "NoPaper" (.c (.str "a paper's stands are rising, each once")))
  .nil)
  .nil)
 .nil))⟩
noncomputable def f15:Hp.Fn:=⟨4,8,
 (.cons (.iff (.nt (.mcl 0 "noted" (.cons (.v 2) (.cons (.v 3) .nil))))
  (.cons (.ret (.tup (.cons (.c (.str "note")) (.cons (.v 2) (.cons (.v 3) .nil)))))
  .nil)
  .nil)
 (.cons (.for (.t [4,5,6]) (.seq (.mcl 0 "own_from" (.cons (.v 2) (.cons (.v 3) .nil))))
  (.cons (.iff (.cmp .NotIn (.v 6) (.idx (.v 1) (.v 5)))
   (.cons (.ret (.tup (.cons (.c (.str "own")) (.cons (.v 2) (.cons (.v 3) (.cons (.v 4) .nil))))))
   .nil)
   .nil)
  (.cons (.iff (.nt (.mcl 0 "keeps" (.cons (.v 3) (.cons (.v 6) .nil))))
   (.cons (.ret (.tup (.cons (.c (.str "promise")) (.cons (.v 2) (.cons (.v 3) (.cons (.v 4) .nil))))))
   .nil)
   .nil)
  .nil)))
 (.cons (.for (.t [7,6]) (.seq (.mcl 0 "others_from" (.cons (.v 3) .nil)))
  (.cons (.iff (.cmp .NotIn (.v 6) (.idx (.v 1) (.v 2)))
   (.cons (.ret (.tup (.cons (.c (.str "other")) (.cons (.v 2) (.cons (.v 3) (.cons (.v 7) (.cons (.v 6) .nil)))))))
   .nil)
   .nil)
  .nil))
 (.cons (.ret (.c .non))
 .nil))))⟩
noncomputable def f16:Hp.Fn:=⟨2,6,
 (.cons (.set (.n 2) (.call 5 (.cons (.v 0) .nil)))
 (.cons (.set (.n 3) (.lst .nil))
 (.cons (.for (.n 4) (.seq (.v 2))
  (.cons (.for (.n 5) (.seq (.v 2))
   (.cons (.iff (.an (.cmp .NotEq (.v 4) (.v 5)) (.call 1 (.cons (.v 1) (.cons (.v 4) (.cons (.v 5) .nil)))))
    (.cons (.app 3 (.tup (.cons (.v 4) (.cons (.v 5) .nil))))
    .nil)
    .nil)
   .nil))
  .nil))
 (.cons (.retv 3)
 .nil))))⟩
noncomputable def f17:Hp.Fn:=⟨1,6,
 (.cons (.set (.n 1) (.comp 1 [0] (.n 0) (.seq (.idx (.v 0) (.c (.int 3)))) .nil (.call 16 (.cons (.idx (.v 1) (.c (.int 0))) (.cons (.v 0) .nil)))))
 (.cons (.set (.n 2) (.lst .nil))
 (.cons (.for (.t [3,4]) (.enum (.idx (.v 0) (.c (.int 2))))
  (.cons (.set (.n 5) (.op .Add (.sli (.v 1) .nil (.cons (.v 3) .nil)) (.sli (.v 1) (.cons (.op .Add (.v 3) (.c (.int 1))) .nil) .nil)))
  (.cons (.app 2 (.mk 0 (.cons (.idx (.v 0) (.c (.int 0))) (.cons (.v 4) (.cons (.idx (.v 1) (.v 3)) (.cons (.v 5) (.cons (.idx (.idx (.v 0) (.c (.int 4))) (.v 3)) .nil)))))))
  .nil)))
 (.cons (.retv 2)
 .nil))))⟩
noncomputable def f18:Hp.Fn:=⟨2,5,
 (.cons (.iff (.orr (.nt (.isi (.v 1) [.tList])) (.cmp .NotEq (.bi .len (.cons (.v 1) .nil)) (.bi .len (.cons (.idx (.v 0) (.c (.int 2))) .nil))))
  (.cons (.rse "NoPaper" (.c (.str "the papers of a house are a list with one for each hand")))
  .nil)
  .nil)
 (.cons (.for (.t [2,3]) (.enum (.call 17 (.cons (.v 0) .nil)))
  (.cons (.setC 4 12 (.cons (.v 3) (.cons (.idx (.v 0) (.c (.int 1))) (.cons (.idx (.v 1) (.v 2)) .nil))))
  (.cons (.iff (.cmp .IsNot (.v 4) (.c .non))
   (.cons (.ret (.tup (.cons (.v 2) (.cons (.v 4) .nil))))
   .nil)
   .nil)
  .nil)))
 (.cons (.ret (.c .non))
 .nil)))⟩
noncomputable def f19:Hp.Fn:=⟨2,3,
 (.cons (.set (.n 2) (.op .Mod (.op .Mult (.op .Add (.op .Add (.v 0) (.v 1)) (.c (.int 1))) (.op .Add (.c (.int 48271)) (.op .Mult (.op .Mult (.c (.int 2)) (.v 1)) (.v 1)))) (.c (.int 2147483647))))
 (.cons (.ret (.op .Mod (.op .Mult (.v 2) (.v 2)) (.c (.int 2147483629))))
 .nil))⟩
noncomputable def f20:Hp.Fn:=⟨1,6,
 (.cons (.set (.n 1) (.lst (.cons (.tup .nil) .nil)))
 (.cons (.for (.n 2) (.seq (.v 0))
  (.cons (.set (.n 3) (.lst .nil))
  (.cons (.for (.n 4) (.seq (.v 1))
   (.cons (.for (.n 5) (.rng (.c (.int 0)) (.op .Add (.v 2) (.c (.int 1))))
    (.cons (.app 3 (.op .Add (.v 4) (.tup (.cons (.v 5) .nil))))
    .nil))
   .nil))
  (.cons (.mov 1 3)
  .nil))))
 (.cons (.retv 1)
 .nil)))⟩
noncomputable def f21:Hp.Fn:=⟨1,4,
 (.cons (.set (.n 1) (.lst .nil))
 (.cons (.set (.n 2) (.op .Mod (.v 0) (.c (.int 4))))
 (.cons (.for (.n 3) (.rng (.c (.int 0)) (.v 2))
  (.cons (.app 1 (.lst (.cons (.tup (.cons (.tup (.cons (.c (.str "yes")) .nil)) (.cons (.tup .nil) (.cons (.op .Mod (.call 19 (.cons (.v 0) (.cons (.v 3) .nil))) (.op .Add (.v 2) (.c (.int 1)))) .nil)))) .nil)))
  .nil))
 (.cons (.retv 1)
 .nil))))⟩
noncomputable def f22:Hp.Fn:=⟨3,5,
 (.cons (.set (.n 3) (.lst .nil))
 (.cons (.for (.n 4) (.rng (.c (.int 0)) (.v 2))
  (.cons (.app 3 (.comp 1 [0,4] (.n 0) (.seq (.v 1)) (.cons (.cmp .Gt (.op .Mod (.op .Add (.op .Add (.call 19 (.cons (.v 1) (.cons (.v 2) .nil))) (.idx (.v 0) (.c (.int 0)))) (.op .Mult (.c (.int 3)) (.idx (.v 0) (.neg (.c (.int 1)))))) (.c (.int 3))) (.c (.int 0))) .nil) (.v 0)))
  .nil))
 (.cons (.retv 3)
 .nil)))⟩
noncomputable def f23:Hp.Fn:=⟨2,4,
 (.cons (.set (.n 2) (.bi .tuple (.cons (.comp 1 [] (.n 0) (.seq (.v 0)) .nil (.c (.int 0))) .nil)))
 (.cons (.set (.n 3) (.lst (.cons (.op .Add (.tup (.cons (.op .Add (.idx (.v 0) (.c (.int 0))) (.c (.int 1))) .nil)) (.sli (.v 2) (.cons (.c (.int 1)) .nil) .nil)) (.cons (.op .Add (.tup (.cons (.neg (.c (.int 1))) .nil)) (.sli (.v 2) (.cons (.c (.int 1)) .nil) .nil)) (.cons (.op .Add (.sli (.v 2) .nil (.cons (.neg (.c (.int 1))) .nil)) (.tup (.cons (.op .Add (.op .Add (.idx (.v 0) (.neg (.c (.int 1)))) (.c (.int 1))) (.op .Mod (.v 1) (.c (.int 9)))) .nil))) .nil)))))
 (.cons (.set (.n 3) (.op .Add (.v 3) (.lst (.cons (.sli (.v 2) (.cons (.c (.int 1)) .nil) .nil) (.cons (.op .Add (.v 2) (.tup (.cons (.c (.int 0)) .nil))) (.cons (.bi .list (.cons (.v 2) .nil)) (.cons (.op .Add (.tup (.cons (.c (.bl false)) .nil)) (.sli (.v 2) (.cons (.c (.int 1)) .nil) .nil)) (.cons (.op .Add (.sli (.v 2) .nil (.cons (.neg (.c (.int 1))) .nil)) (.tup (.cons (.c .non) .nil))) .nil))))))))
 (.cons (.set (.n 3) (.op .Add (.v 3) (.lst (.cons (.c .non) (.cons (.c (.int 0)) (.cons (.c (.str "0")) (.cons (.op .Add (.sli (.v 2) .nil (.cons (.neg (.c (.int 1))) .nil)) (.tup (.cons (.c (.str "0")) .nil))) .nil)))))))
 (.cons (.ret (.idx (.v 3) (.op .Mod (.op .FloorDiv (.v 1) (.c (.int 16))) (.c (.int 12)))))
 .nil)))))⟩
noncomputable def f24:Hp.Fn:=⟨4,8,
 (.cons (.set (.n 4) (.op .Mod (.v 3) (.c (.int 8))))
 (.cons (.set (.n 5) (.op .Mod (.op .FloorDiv (.v 3) (.c (.int 8))) (.bi .len (.cons (.v 0) .nil))))
 (.cons (.set (.n 6) (.op .FloorDiv (.v 3) (.c (.int 64))))
 (.cons (.set2 7 0)
 (.cons (.iff (.cmp .Eq (.v 4) (.c (.int 0)))
  (.cons (.thaw 7)
  (.cons (.ret (.idx (.lst (.cons (.sli (.v 7) (.cons (.c (.int 1)) .nil) .nil) (.cons (.op .Add (.v 7) (.lst (.cons (.lst .nil) .nil))) (.cons (.lst .nil) (.cons (.bi .tuple (.cons (.v 7) .nil)) (.cons (.c .non) (.cons (.c (.int 0)) (.cons .emp (.cons (.op .Add (.v 7) (.v 7)) .nil))))))))) (.op .Mult (.op .Mod (.v 6) (.c (.int 8))) (.bi .int (.cons (.cmp .Gt (.bi .len (.cons (.v 7) .nil)) (.c (.int 0))) .nil)))))
  .nil))
  .nil)
 (.cons (.iff (.cmp .Eq (.v 4) (.c (.int 1)))
  (.cons (.thaw 7)
  (.cons (.setIx 7 (.v 5) (.idx (.lst (.cons (.bi .tuple (.cons (.idx (.v 7) (.v 5)) .nil)) (.cons (.c .non) (.cons (.idx (.v 1) (.c (.int 0))) (.cons (.c (.int 0)) (.cons .emp .nil)))))) (.op .Mod (.v 6) (.c (.int 5)))))
  (.cons (.retv 7)
  .nil)))
  .nil)
 (.cons (.iff (.cmp .Eq (.v 4) (.c (.int 2)))
  (.cons (.thaw 7)
  (.cons (.setIx 7 (.v 5) (.lrv (.v 1)))
  (.cons (.retv 7)
  .nil)))
  .nil)
 (.cons (.iff (.cmp .Eq (.v 4) (.c (.int 3)))
  (.cons (.thaw 7)
  (.cons (.setIx 7 (.v 5) (.op .Add (.sli (.v 1) .nil (.cons (.c (.int 2)) .nil)) (.sli (.v 1) (.cons (.c (.int 1)) .nil) .nil)))
  (.cons (.retv 7)
  .nil)))
  .nil)
 (.cons (.chg 7 (.v 5) (.hid 7 (.op .Mod (.v 6) (.op .Add (.bi .len (.cons (.idx (.v 7) (.v 5)) .nil)) (.c (.int 1))))) (.cons (.call 23 (.cons (.v 2) (.cons (.v 6) .nil))) .nil))
 (.cons (.retv 7)
 .nil))))))))))⟩
noncomputable def f25:Hp.Fn:=⟨1,2,
 (.cons (.set (.n 1) (.isx (.v 0) [.own "NoBoxes",.own "NoCond",.own "NoHand",.own "NoHouse",.own "NoName",.own "NoProgram",.own "NoRow",.own "NoStart",.own "NoStep",.own "NoText"]))
 (.cons (.set (.n 1) (.orr (.v 1) (.orr (.isx (.v 0) [.own "TooMany"]) (.nt (.isx (.v 0) [.tValueError])))))
 (.cons (.ret (.an (.isx (.v 0) [.own "NoPaper"]) (.nt (.v 1))))
 .nil)))⟩
noncomputable def f26:Hp.Fn:=⟨4,6,
 (.cons (.set (.n 4) (.c .non))
 (.cons (.tryAs (.cons (.exC 11 (.cons (.v 0) (.cons (.v 1) (.cons (.lst .nil) (.cons (.lst (.cons (.lst .nil) .nil)) (.cons (.v 2) (.cons (.tup (.cons (.c (.str "yes")) .nil)) (.cons (.v 3) .nil))))))))
  .nil) "PromiseError" 4 5)
 (.cons (.ret (.call 25 (.cons (.v 4) .nil)))
 .nil)))⟩
noncomputable def f27:Hp.Fn:=⟨2,4,
 (.cons (.set (.n 2) (.c .non))
 (.cons (.tryAs (.cons (.exC 18 (.cons (.v 0) (.cons (.v 1) .nil)))
  .nil) "PromiseError" 2 3)
 (.cons (.ret (.call 25 (.cons (.v 2) .nil)))
 .nil)))⟩
noncomputable def f28:Hp.Fn:=⟨6,11,
 (.cons (.set (.n 6) (.comp 1 [] (.n 0) (.seq (.v 3)) .nil (.tup (.cons (.c (.str "yes")) .nil))))
 (.cons (.set (.n 7) (.tup (.cons (.v 0) (.cons (.tup (.cons (.c (.str "yes")) .nil)) (.cons (.lst (.cons (.v 2) (.cons (.v 2) .nil))) (.cons (.lst (.cons (.tup (.cons (.c (.str "yes")) .nil)) (.cons (.tup (.cons (.c (.str "yes")) .nil)) .nil))) (.cons (.lst (.cons (.v 6) (.cons (.bi .list (.cons (.v 6) .nil)) .nil))) .nil)))))))
 (.cons (.set (.n 8) (.comp 1 [1] (.n 0) (.rng (.c (.int 0)) (.op .Add (.bi .len (.cons (.v 2) .nil)) (.c (.int 1)))) .nil (.bi .list (.cons (.v 1) .nil))))
 (.cons (.iff (.orr (.nt (.call 27 (.cons (.v 7) (.cons (.lst (.cons (.v 8) (.cons (.v 4) .nil))) .nil)))) (.nt (.call 27 (.cons (.v 7) (.cons (.lst (.cons (.v 4) (.cons (.v 8) .nil))) .nil)))))
  (.cons (.ret (.c (.bl false)))
  .nil)
  .nil)
 (.cons (.iff (.nt (.call 27 (.cons (.v 7) (.cons (.idx (.lst (.cons (.lst (.cons (.v 8) .nil)) (.cons (.lst (.cons (.v 8) (.cons (.v 8) (.cons (.v 8) .nil)))) (.cons (.tup (.cons (.v 8) (.cons (.v 8) .nil))) (.cons (.c .non) (.cons (.c (.int 5)) (.cons .emp .nil))))))) (.op .Mod (.v 5) (.c (.int 6)))) .nil))))
  (.cons (.ret (.c (.bl false)))
  .nil)
  .nil)
 (.cons (.set2 9 8)
 (.cons (.chg 9 (.c (.int 0)) (.hid 9 (.op .Mod (.op .FloorDiv (.v 5) (.c (.int 6))) (.bi .len (.cons (.idx (.v 9) (.c (.int 0))) .nil)))) .nil)
 (.cons (.setC 10 18 (.cons (.v 7) (.cons (.lst (.cons (.v 9) (.cons (.v 4) .nil))) .nil)))
 (.cons (.ret (.an (.isi (.v 10) [.tTuple]) (.an (.cmp .Eq (.bi .len (.cons (.v 10) .nil)) (.c (.int 2))) (.an (.cmp .Eq (.idx (.v 10) (.c (.int 0))) (.c (.int 0))) (.cmp .Is (.call 18 (.cons (.v 7) (.cons (.lst (.cons (.v 8) (.cons (.v 8) .nil))) .nil))) (.c .non))))))
 .nil)))))))))⟩
noncomputable def f29:Hp.Fn:=⟨1,12,
 (.cons (.set (.n 1) (.op .Add (.bi .list (.cons (.sli (.v 0) .nil (.cons (.c (.int 40)) .nil)) .nil)) (.comp 1 [] (.n 0) (.rng (.c (.int 0)) (.c (.int 6))) .nil (.op .Mult (.v 0) (.v 0)))))
 (.cons (.for (.n 2) (.rng (.c (.int 0)) (.bi .len (.cons (.v 1) .nil)))
  (.cons (.set (.n 3) (.call 19 (.cons (.idx (.v 1) (.v 2)) (.cons (.v 2) .nil))))
  (.cons (.set (.n 4) (.idx (.lst (.cons (.lst (.cons (.c (.int 1)) .nil)) (.cons (.lst (.cons (.c (.int 3)) .nil)) (.cons (.lst (.cons (.c (.int 1)) (.cons (.c (.int 2)) .nil))) (.cons (.lst (.cons (.c (.int 2)) (.cons (.c (.int 1)) .nil))) (.cons (.lst (.cons (.c (.int 4)) .nil)) (.cons (.lst (.cons (.c (.int 1)) (.cons (.c (.int 1)) .nil))) .nil))))))) (.op .Mod (.v 3) (.c (.int 6)))))
  (.cons (.set (.n 5) (.comp 1 [4] (.n 0) (.rng (.c (.int 0)) (.bi .len (.cons (.v 4) .nil))) .nil (.tup (.cons (.idx (.c (.str "ab")) (.v 0)) (.cons (.idx (.v 1) (.v 0)) .nil)))))
  (.cons (.set (.n 6) (.call 20 (.cons (.v 4) .nil)))
  (.cons (.set (.n 7) (.call 21 (.cons (.op .FloorDiv (.v 3) (.c (.int 6))) .nil)))
  (.cons (.set (.n 8) (.call 22 (.cons (.op .FloorDiv (.v 3) (.c (.int 24))) (.cons (.v 6) (.cons (.op .Add (.bi .len (.cons (.v 7) .nil)) (.c (.int 1))) .nil)))))
  (.cons (.set (.n 9) (.lst (.cons (.tup (.cons (.c (.str "yes")) .nil)) (.cons (.tup (.cons (.c (.str "not")) (.cons (.tup (.cons (.c (.str "yes")) .nil)) .nil))) .nil))))
  (.cons (.set (.n 10) (.comp 1 [3,9] (.n 0) (.rng (.c (.int 0)) (.op .Add (.bi .len (.cons (.v 7) .nil)) (.c (.int 1)))) .nil (.idx (.v 2) (.op .Mod (.call 19 (.cons (.v 1) (.cons (.v 0) .nil))) (.c (.int 2))))))
  (.cons (.set (.n 11) (.call 24 (.cons (.v 8) (.cons (.v 6) (.cons (.v 4) (.cons (.call 19 (.cons (.v 3) (.cons (.c (.int 50)) .nil))) .nil))))))
  (.cons (.iff (.nt (.call 26 (.cons (.v 5) (.cons (.v 7) (.cons (.v 10) (.cons (.v 11) .nil))))))
   (.cons (.ret (.c (.bl false)))
   .nil)
   .nil)
  (.cons (.set (.n 3) (.call 19 (.cons (.v 3) (.cons (.c (.int 60)) .nil))))
  (.cons (.iff (.cmp .Eq (.op .Mod (.v 2) (.c (.int 3))) (.c (.int 0)))
   (.cons (.iff (.nt (.call 28 (.cons (.v 5) (.cons (.v 6) (.cons (.v 7) (.cons (.v 10) (.cons (.v 11) (.cons (.v 3) .nil))))))))
    (.cons (.ret (.c (.bl false)))
    .nil)
    .nil)
   .nil)
   .nil)
  .nil)))))))))))))
 (.cons (.ret (.c (.bl true)))
 .nil)))⟩
noncomputable def f30:Hp.Fn:=⟨6,6,
 (.cons (.sfl "boxes" (.v 1))
 (.cons (.sfl "hand" (.v 2))
 (.cons (.sfl "promised" (.call 10 (.cons (.v 3) .nil)))
 (.cons (.sfl "others" (.comp 1 [] (.n 0) (.seq (.v 4)) .nil (.call 10 (.cons (.v 0) .nil))))
 (.cons (.sfl "notes" (.v 5))
 (.cons .ini .nil))))))⟩
noncomputable def f31:Hp.Fn:=⟨3,3,
 (.cons (.ret (.call 1 (.cons (.idx (.fld 0 "notes") (.v 1)) (.cons (.v 2) (.cons (.c .non) .nil)))))
 .nil)⟩
noncomputable def f32:Hp.Fn:=⟨3,3,
 (.cons (.ret (.orr (.cmp .Eq (.v 1) (.v 2)) (.cmp .In (.v 2) (.dgl (.fld 0 "promised") (.v 1)))))
 .nil)⟩
noncomputable def f33:Hp.Fn:=⟨3,7,
 (.cons (.set (.n 3) (.lst .nil))
 (.cons (.for (.t [4,5]) (.enum (.call 8 (.cons (.fld 0 "hand") (.cons (.v 1) .nil))))
  (.cons (.set (.n 6) (.call 2 (.cons (.fld 0 "boxes") (.cons (.v 5) (.cons (.v 2) .nil)))))
  (.cons (.iff (.cmp .IsNot (.v 6) (.c .non))
   (.cons (.app 3 (.tup (.cons (.v 4) (.cons (.idx (.v 5) (.c (.int 2))) (.cons (.v 6) .nil)))))
   .nil)
   .nil)
  .nil)))
 (.cons (.retv 3)
 .nil)))⟩
noncomputable def f34:Hp.Fn:=⟨2,5,
 (.cons (.set (.n 2) (.lst .nil))
 (.cons (.for (.t [3,4]) (.enum (.fld 0 "others"))
  (.cons (.ext 2 (.comp 1 [3] (.n 0) (.seq (.dgl (.v 4) (.v 1))) .nil (.tup (.cons (.v 1) (.cons (.v 0) .nil)))))
  .nil))
 (.cons (.retv 2)
 .nil)))⟩
noncomputable def pg:Hp.Pg:=⟨[f0,f1,f2,f3,f4,f5,f6,f7,f8,f9,f10,f11,f12,f13,f14,f15,f16,f17,f18,f19,f20,f21,f22,f23,f24,f25,f26,f27,f28,f29,f30,f31,f32,f33,f34],[("NoPaper",[.own "NoPaper",.own "PromiseError",.tValueError]),("PromiseError",[.own "PromiseError",.tValueError])],[],[("Duty",["boxes", "hand", "promised", "others", "notes"],[("__init__",30),("noted",31),("keeps",32),("own_from",33),("others_from",34)])]⟩
end K39
noncomputable section
set_option maxRecDepth 100000
set_option maxHeartbeats 0
namespace K39
open PySem PySem.W L2 Hp Hh
noncomputable def ix:List (Nat×List Str):=(21,["one", "ahead", "behind", "word", "left", "right"]) ::
 (22,["cond", "ahead", "behind", "word", "left", "right"]) ::
 (29,["boxes", "way", "stand", "held", "box", "one", "amount"]) ::
 (15,["thing"]) ::
 (16,["thing", "least", "most"]) ::
 (18,["boxes", "found", "name", "top", "longer", "begun"]) ::
 (19,["boxes", "thing"]) ::
 (23,["boxes", "cond"]) ::
 (30,["hand", "place"]) ::
 (37,["hand"]) ::
 (40,["steps", "found", "stand", "further"]) ::
 (42,["boxes", "hand", "promise", "others", "notes", "begin", "paper"]) ::
 (44,["duty", "begin", "paper", "start", "place", "listed", "stand", "found"]) ::
 (45,["duty", "paper", "listed"]) ::
 (46,["boxes", "listed"]) ::
 (47,["duty", "paper", "place", "stand", "way", "next_place", "further", "number"]) ::
 (24,["boxes", "cond", "every", "found", "ahead", "behind"]) ::
 (41,["house", "promised", "found", "number", "hand", "others"]) ::
 (43,["house", "papers", "number", "duty", "found"]) ::
 (49,["_law_cell", "_law_k", "_law_number"]) ::
 (50,["_law_tops", "_law_found", "_law_top", "_law_longer", "_law_stand", "_law_number"]) ::
 (51,["_law_cell", "_law_hand_here", "_law_rows", "_law_k"]) ::
 (52,["_law_cell", "_law_every_here", "_law_places", "_law_paper_here", "_law_k"]) ::
 (53,["_law_tops", "_law_cell", "_law_stand", "_law_some"]) ::
 (54,["_law_paper_here", "_law_every_here", "_law_tops", "_law_cell", "_law_way", "_law_at", "_law_more", "_law_built"]) ::
 (55,["_law_caught", "_law_other"]) ::
 (56,["_law_boxes", "_law_hand_here", "_law_notes", "_law_paper_here", "_law_caught", "error"]) ::
 (57,["_law_house", "_law_papers", "_law_caught", "error"]) ::
 (58,["_law_boxes", "_law_every_here", "_law_hand_here", "_law_notes", "_law_bad", "_law_cell", "_law_free", "_law_house", "_law_full", "_law_few", "_law_found"]) ::
 (59,["_law_script", "_law_cells", "_law_k", "_law_cell", "_law_tops", "_law_boxes", "_law_every_here", "_law_hand_here", "_law_paper_here", "_law_some", "_law_notes", "_law_bad"])::[]
noncomputable def sn:Sn:=⟨[("GUARD",(.int 0)),("PUTS",(.int 1)),("NEXT",(.int 2)),("BOXES",(.int 0)),("BEGIN",(.int 1)),("HANDS",(.int 2)),("PROMISES",(.int 3)),("NOTES",(.int 4))],[],[(39,["boxes", "hand", "promised", "others", "notes"],[(0,30,["self", "boxes", "hand", "promise", "others", "notes"]),(1,31,["self", "place", "stand"]),(2,32,["self", "stand", "further"]),(3,33,["self", "place", "stand", "found", "number", "way", "further"]),(4,34,["self", "stand", "found", "number", "steps"])])],[("NoPaper",[.own "NoPaper",.own "PromiseError",.tValueError]),("PromiseError",[.own "PromiseError",.tValueError])],["NoBoxes", "NoCond", "NoHand", "NoHouse", "NoName", "NoProgram", "NoRow", "NoStart", "NoStep", "NoText", "TooMany", "NoPaper", "PromiseError"]⟩
noncomputable def rsd:List Str:=["NoPaper", "PromiseError"]
abbrev pw:=FE
theorem chk:fL ⟨[],[],(ix.map (gF pw)).map (·.x),sn.cns,sn.cls,true,sn.tbs.map (·.1),sn.obs.map λo=>cE (eI pw o.1),rsd⟩ pg.fns (ix.map (gF pw)++(mts sn).map (nC pw))=true:=by decide +kernel
abbrev Lq(w:AH)(os:G8):Prop:=aKP pw (pL pw) (qY pw) (λs=>gC pw sn s.heap) 100000 w os=some (true,Kj (pL pw) (qY pw),jS pw sn w)
theorem lf1(os:G8)(w:AH):Lq (w.withFollow "special-get-raises" false) os:=by kernel_rfl
theorem lf2(os:G8)(w:AH):Lq (w.withFollow "special-get-raises" true) os:=by kernel_rfl
theorem lft:KZ pw (pL pw) (qY pw) (λ_=>true) (λs=>gC pw sn s.heap) (λw=>jS pw sn w) 100000:=aIe (by kernel_rfl) rfl (λ_=>by kernel_rfl) λw os=>byRow2 "special-get-raises" (P:=λw=>Lq w os) (lf1 os) (lf2 os) w
abbrev rr:=CV
theorem w0:looksOpen rr.row.prog=true:=by kernel_rfl
theorem w1:rr.row.wellSaid=true:=by unfold OpenRow.wellSaid OpenRow.partSaid;rw[w0];kernel_rfl
theorem ws:rr.wellSaid=true:=by unfold OpenLaw.wellSaid;rw[w1];kernel_rfl
end K39
end
namespace K39
open Hp HpS PySem
noncomputable def nQ:Nat->List Int
 | 0=>[1]|1=>[3]|2=>[1,2]|3=>[2,1]|4=>[4]|_=>[1,1]
noncomputable def es:Nat->List (List Int)
 | 0=>[[0],[1]]|1=>[[0],[1],[2],[3]]|2=>[[0,0],[0,1],[0,2],[1,0],[1,1],[1,2]]|3=>[[0,0],[0,1],[1,0],[1,1],[2,0],[2,1]]
 | 4=>[[0],[1],[2],[3],[4]]|_=>[[0,0],[0,1],[1,0],[1,1]]
abbrev dN(s:Nat):D:=.lst ((nQ s).map D.int)
abbrev esD(s:Nat):D:=.lst ((es s).map tupK)
abbrev bxD(s:Nat):D:=.lst (((nQ s).zip ["a", "b"]).map λp=>.tup [.str p.2,.int p.1])
theorem sh6{P:Nat->Prop}{s:Nat}(h:s<6)(l:P 0)(B:P 1)(G:P 2)(I:P 3)(L:P 4)(M:P 5):P s:=by
 match s,h with
 | 0,_=>exact l|1,_=>exact B|2,_=>exact G|3,_=>exact I|4,_=>exact L|5,_=>exact M
abbrev yesD:D:=.tup [.str "yes"]
theorem aAH(n:Nat){s:Nat}(h:s<6):call pg (n+1) 20 [dN s]=.ok (esD s,true,false):=by apply sh6 (P:=λs=>call pg (n+1) 20 [dN s]=.ok (esD s,true,false)) h <;> kernel_rfl
theorem gI(n:Nat){s:Nat}(h:s<6):call pg (n+2) 7 [bxD s,yesD]=.ok (esD s,true,false):=by apply sh6 (P:=λs=>call pg (n+2) 7 [bxD s,yesD]=.ok (esD s,true,false)) h <;> kernel_rfl
noncomputable def eD(s:Nat):D:=.err 0 (.non::(es s).flatMap λa=>[tupK a,.lst (((es s).filter λb=>a != b).map tupK)])
noncomputable def bY(b h p o nt:D):D:=.err 0 [.str "Duty",.str "boxes",b,.str "hand",h,.str "promised",p,.str "others",o,.str "notes",nt]
theorem aFk(n:Nat)(b h nt:List D):call pg (n+3) 35 [.lst b,.lst h,.lst [],.lst [.lst []],.lst nt]=.ok (bY (.lst b) (.lst h) (.err 0 [.non]) (.lst [.err 0 [.non]]) (.lst nt),false,true):=by kernel_rfl
theorem pN(n:Nat):call pg (n+1) 25 [dS "NoPaper"]=.ok (.bl true,false,false):=by kernel_rfl
structure En (σ:Sg) (ds:List (Option D)):Prop where
 len:σ.length=ds.length
 «at»:∀(i:Nat) (d:D),ds[i]? = some (some d)->∃v,bU σ i=.ok v/\v.d=d
 no2:rS σ=true
noncomputable def Ed(W:Caller)(σ:Sg)(e:E)(d:D):Prop:=∃v,ev pg W σ e=.ok v/\v.d=d
noncomputable def Eds(W:Caller)(σ:Sg)(es:Es)(ds:List D):Prop:=∃vs,evs pg W σ es=.ok vs/\vs.map (·.d)=ds
noncomputable def Td(W:Caller)(σ:Sg)(e:E)(b:Bool):Prop:=tst pg W σ e=.ok b
noncomputable def Wd(W:Caller)(σ:Sg)(it:It)(ds:List D):Prop:=∃xs al,walk pg W σ it=.ok (xs,al)/\xs.map (·.d)=ds
section
variable {W:Caller} {σ:Sg} {ds:List (Option D)}
theorem yT(σ:Sg)(al:List Nat)(i:Nat):(freeze σ al)[i]? = (σ[i]?).map λs=>if i∈al then s.freeze else s:=by
 induction al generalizing σ with
 | nil=>simp[freeze]|cons a al l=>
  unfold freeze;rw[l];by_cases h:a=i;subst h;cases q:σ[a]? with
  | none=>simp[q]|some s=>have hl:=(Ai.mp q).1;simp only[Ar hl,Dc,Ao,true_or,if_true];cases s <;> simp[Sl.freeze]
  cases q:σ[a]? with
  | none=>have:i≠a:=λz=>h z.symm;simp[this]|some s=>have:i≠a:=λz=>h z.symm;simp[Ah h,this]
theorem aDk{al:List Nat}{i:Nat}{v:Vl}(h:bU σ i=.ok v):∃w,bU (freeze σ al) i=.ok w/\w.d=v.d:=by
 unfold bU at h ⊢;rw[yT];cases q:σ[i]? with
 | none=>rw[q] at h;cases h|some s=>
  rw[q] at h;have h:s.val i=.ok v:=h;show ∃w,(if i∈al then s.freeze else s).val i=.ok w/\_;by_cases hm:i∈al;rw[if_pos hm];cases s with
  | own pa d=>cases h;exact⟨_,rfl,rfl⟩|sh pa d=>cases h;exact⟨_,rfl,rfl⟩|_=>cases h
  rw[if_neg hm];exact⟨v,h,rfl⟩
theorem aFl(al:List Nat):(freeze σ al).length=σ.length:=by
 induction al generalizing σ with
 | nil=>rfl|cons a al l=>unfold freeze;rw[l];split;rw[Ay];rfl
theorem eS{σ:Sg}:rS σ=true↔∀(i:Nat) (dss:List (List D)),σ[i]?≠some (Sl.own2 dss):=by
 unfold rS;rw[A9];constructor;intro h i dss e;have:=h _ (mG e);cases this;intro h s hs;obtain⟨i,hi⟩:=CC hs;cases s with
 | own2 dss=>exact absurd hi (h i dss)|_=>rfl
theorem En.frz(E:En σ ds)(al:List Nat):En (freeze σ al) ds where
 len:=(aFl al).trans E.len
 «at»:=λi d e=>by obtain⟨v,l,B⟩:=E.at i d e;obtain⟨w,g1,g2⟩:=aDk (al:=al) l;exact⟨w,g1,g2.trans B⟩
 no2:=eS.mpr λi dss e=>by rw[yT] at e;obtain⟨s,hs,e⟩:=A1.mp e;have:=eS.mp E.no2 i;split at e;cases s <;> cases e;exact absurd hs (this _);subst e;exact absurd hs (this _)
theorem aDl(v:Vl)(i:Nat):∃w,v.slot.val i=.ok w/\w.d=v.d:=by obtain⟨d,fr,pa,al⟩:=v;cases fr <;> cases d <;> exact⟨_,rfl,rfl⟩
theorem aDm(v:Vl)(dss:List (List D)):v.slot≠.own2 dss:=by obtain⟨d,fr,pa,al⟩:=v;cases fr <;> cases d <;> intro z <;> cases z
theorem En.put(E:En σ ds)(v:Vl)(i:Nat):En (σ.set i v.slot) (ds.set i (some v.d)) where
 len:=by rw[Ay,Ay];exact E.len
 «at»:=λj d e=>by unfold bU;by_cases h:i=j;subst h;have hl:=(Ai.mp e).1;rw[Ay] at hl;rw[Ar hl] at e;cases e;rw[Ar (by rw[E.len];exact hl)];exact aDl v i;rw[Ah h] at e ⊢;exact E.at j d e
 no2:=eS.mpr λj dss e=>by by_cases h:i=j;subst h;have hl:=(Ai.mp e).1;rw[Ay] at hl;rw[Ar hl] at e;exact aDm v dss (Au e);rw[Ah h] at e;exact eS.mp E.no2 j dss e
theorem En.less{ds':List (Option D)}(E:En σ ds)(hl:ds'.length=ds.length)(h:∀(i:Nat) (d:D),ds'[i]? = some (some d)->ds[i]? = some (some d)):En σ ds':=⟨E.len.trans hl.symm,λi d e=>E.at i d (h i d e),E.no2⟩
theorem d_c(d:D):Ed W σ (.c d) d:=⟨_,rfl,rfl⟩
theorem d_v(E:En σ ds)(i:Nat){d:D}(h:ds[i]? = some (some d)):Ed W σ (.v i) d:=E.at i d h
theorem aH:Eds W σ .nil []:=⟨[],rfl,rfl⟩
theorem aA{e:E}{es:Es}{d:D}{r:List D}(h:Ed W σ e d)(t:Eds W σ es r):Eds W σ (.cons e es) (d::r):=by obtain⟨v,l,rfl⟩:=h;obtain⟨vs,B,rfl⟩:=t;exact⟨v::vs,by rw[cN,l,aG,B];rfl,rfl⟩
theorem bH{f:Nat}{es:Es}{r:List D}{d:D}{fr pa:Bool}(h:Eds W σ es r)(c:W f r=.ok (d,fr,pa)):Ed W σ (.call f es) d:=by obtain⟨vs,l,rfl⟩:=h;refine⟨aW vs (d,fr,pa),by rw[yO,l,aG,c];rfl,?_⟩;unfold aW;split <;> rfl
theorem aMZ{j:Nat}{es:Es}{r:List D}{d:D}{fr pa:Bool}(h:Eds W σ es r)(c:W (pg.fns.length+j) r=.ok (d,fr,pa)):Ed W σ (.mk j es) d:=by obtain⟨vs,l,rfl⟩:=h;refine⟨aW vs (d,fr,pa),?_,?_⟩;show(evs pg W σ es >>= λvs=>W (pg.fns.length+j) (vs.map (·.d)) >>= λr=>R.ok (aW vs r))=_;rw[l,aG,c];rfl;unfold aW;split <;> rfl
theorem aFU{i f:Nat}{m:Str}{es:Es}{o:D}{r:List D}{d:D}{fr pa:Bool}(E:En σ ds)(B:ds[i]? = some (some o))(h:Eds W σ es r)(hm:kI pg m o=some f)(c:W f (o::r)=.ok (d,fr,pa)):Ed W σ (.mcl i m es) d:=by obtain⟨x,g1,rfl⟩:=E.at i o B;obtain⟨vs,l,rfl⟩:=h;refine⟨aW (x::vs) (d,fr,pa),?_,?_⟩;show(bU σ i >>= λx=>evs pg W σ es >>= λvs=>(match kI pg m x.d with|some f=>W f (x.d::vs.map (·.d)) >>= λr=>R.ok (aW (x::vs) r)|none=>.bad))=_;rw[g1,aG,l,aG,hm];show(W f (x.d::vs.map (·.d)) >>= λr=>R.ok (aW (x::vs) r))=_;rw[c];rfl;unfold aW;split <;> rfl
theorem aFV{i f:Nat}{m:Str}{es:Es}{o:D}{r:List D}{k fr pa:Bool}(E:En σ ds)(B:ds[i]? = some (some o))(h:Eds W σ es r)(hm:kI pg m o=some f)(c:W f (o::r)=.ok (.bl k,fr,pa)):Td W σ (.mcl i m es) k:=by obtain⟨x,g1,rfl⟩:=E.at i o B;obtain⟨vs,l,rfl⟩:=h;show(bU σ i >>= λx=>evs pg W σ es >>= λvs=>(match kI pg m x.d with|some f=>W f (x.d::vs.map (·.d)) >>= λr=>cV (aW (x::vs) r)|none=>.bad))=_;rw[g1,aG,l,aG,hm];show(W f (x.d::vs.map (·.d)) >>= λr=>cV (aW (x::vs) r))=_;rw[c];unfold aW;cases pa <;> rfl
theorem aDn{i:Nat}{f:Str}{o:D}{k:(List Str×List (Str×Nat))}{l:List D}{d:D}(E:En σ ds)(L:ds[i]? = some (some o))(I:zU pg o=some (k,l))(B:k.1.contains f=true)(G:qJ f l=some d):Ed W σ (.fld i f) d:=by obtain⟨x,g1,rfl⟩:=E.at i o L;refine⟨x.sub d,?_,?_⟩;show(bU σ i >>= λx=>aBr pg f x)=_;rw[g1,aG];unfold aBr;rw[I];show R.iff (k.1.contains f) (match qJ f l with|some d=>.ok (x.sub d)|none=>.bad)=_;rw[B,G];rfl;unfold Vl.sub;split <;> rfl
theorem gJ(x:Vl)(d:D):(x.sub d).d=d:=by unfold Vl.sub;split <;> rfl
theorem cO{a b:E}{l:List D}{k:Int}{j:Nat}{d:D}(h:Ed W σ a (.lst l))(g:Ed W σ b (.int k))(L:ixN l.length k=some j)(hd:l[j]? = some d):Ed W σ (.idx a b) d:=by obtain⟨⟨_,f1,M,B⟩,G,I⟩:=h;obtain⟨⟨_,f2,Z,U⟩,g1,g2⟩:=g;cases I;cases g2;refine⟨Vl.sub ⟨.lst l,f1,M,B⟩ d,?_,gJ _ _⟩;rw[iB,G,aG,g1,aG];show(match ixN l.length k with|some j=>(match l[j]? with|some d=>R.ok (Vl.sub _ d)|none=>.bad)|none=>.bad)=_;rw[L];show(match l[j]? with|some d=>R.ok (Vl.sub _ d)|none=>.bad)=_;rw[hd]
theorem dO{a b:E}{l:List D}{k:Int}{j:Nat}{d:D}(h:Ed W σ a (.tup l))(g:Ed W σ b (.int k))(L:ixN l.length k=some j)(hd:l[j]? = some d):Ed W σ (.idx a b) d:=by obtain⟨⟨_,f1,M,B⟩,G,I⟩:=h;obtain⟨⟨_,f2,Z,U⟩,g1,g2⟩:=g;cases I;cases g2;refine⟨Vl.sub ⟨.tup l,f1,M,B⟩ d,?_,gJ _ _⟩;rw[iB,G,aG,g1,aG];show(match ixN l.length k with|some j=>(match l[j]? with|some d=>R.ok (Vl.sub _ d)|none=>.bad)|none=>.bad)=_;rw[L];show(match l[j]? with|some d=>R.ok (Vl.sub _ d)|none=>.bad)=_;rw[hd]
theorem nD{es:Es}{r:List D}(h:Eds W σ es r):Ed W σ (.tup es) (.tup r):=by obtain⟨vs,l,rfl⟩:=h;exact⟨_,by rw[aDa,l,aG],rfl⟩
theorem bS{es:Es}{r:List D}(h:Eds W σ es r):Ed W σ (.lst es) (.lst r):=by obtain⟨vs,l,rfl⟩:=h;exact⟨_,by rw[wB,l,aG],rfl⟩
theorem dP{a:E}{l:List D}(h:Ed W σ a (.lst l)):Ed W σ (.bi .len (.cons a .nil)) (.int l.length):=by obtain⟨⟨_,f1,L,I⟩,B,G⟩:=h;cases G;exact⟨_,pM B rfl,rfl⟩
theorem aIv{a:E}{l:List D}(h:Ed W σ a (.tup l)):Ed W σ (.bi .len (.cons a .nil)) (.int l.length):=by obtain⟨⟨_,f1,L,I⟩,B,G⟩:=h;cases G;exact⟨_,pM B rfl,rfl⟩
theorem yU{o:Operator}{a b:E}{x y z:Int}(h:Ed W σ a (.int x))(g:Ed W σ b (.int y))(e:∀f1 G l f2 I B,opD o ⟨.int x,f1,G,l⟩ ⟨.int y,f2,I,B⟩=.ok (.cl (.int z))):Ed W σ (.op o a b) (.int z):=by obtain⟨⟨_,f1,G,l⟩,L,M⟩:=h;obtain⟨⟨_,f2,I,B⟩,g1,g2⟩:=g;cases M;cases g2;exact⟨_,aIt L g1 (e _ _ _ _ _ _),rfl⟩
theorem gK{a b:E}{x y:Int}(h:Ed W σ a (.int x))(g:Ed W σ b (.int y)):Ed W σ (.op .Add a b) (.int (x+y)):=yU h g λ_ _ _ _ _ _=>rfl
theorem dF{a b:E}{x y:Int}(h:Ed W σ a (.int x))(g:Ed W σ b (.int y))(l:0<y):Ed W σ (.op .Mod a b) (.int (x % y)):=yU h g λ_ _ _ _ _ _=>by show R.iff (decide (0<y)) _=_;rw[AR l];rfl
theorem pO{a b:E}{x y:Int}(h:Ed W σ a (.int x))(g:Ed W σ b (.int y))(l:wX y=true):Ed W σ (.op .FloorDiv a b) (.int (x / y)):=yU h g λ_ _ _ _ _ _=>by show R.iff (wX y) _=_;rw[l];rfl
theorem aLb{a b:E}{x y:Int}(h:Ed W σ a (.int x))(g:Ed W σ b (.int y))(l:lK x y=true):Ed W σ (.op .Mult a b) (.int (x*y)):=yU h g λ_ _ _ _ _ _=>by show R.iff (lK x y) _=_;rw[l];rfl
theorem wF{a b:E}{x y:List D}(h:Ed W σ a (.lst x))(g:Ed W σ b (.lst y))(hl:x.length+y.length<=lim):Ed W σ (.op .Add a b) (.lst (x++y)):=by obtain⟨⟨_,f1,L,G⟩,l,B⟩:=h;obtain⟨⟨_,f2,M,I⟩,g1,g2⟩:=g;cases B;cases g2;refine⟨_,aIt l g1 (show R.iff (decide (x.length+y.length<=lim)) _=_ by rw[AR hl];rfl),rfl⟩
theorem tV{o:CmpOp}{a b:E}{x y:D}{k:Bool}(h:Ed W σ a x)(g:Ed W σ b y)(e:bL o x y=some k):Ed W σ (.cmp o a b) (.bl k):=by obtain⟨v,l,rfl⟩:=h;obtain⟨w,g1,rfl⟩:=g;exact⟨_,aLa l g1 e,rfl⟩
theorem cK{o:CmpOp}{a b:E}{x y:D}{k:Bool}(h:Ed W σ a x)(g:Ed W σ b y)(e:bL o x y=some k):Td W σ (.cmp o a b) k:=by obtain⟨v,l,rfl⟩:=h;obtain⟨w,g1,rfl⟩:=g;show tst pg W σ (.cmp o a b)=_;rw[aFa,l,aG,g1,aG,e]
theorem eC{a:E}{k:Bool}(h:Td W σ a k):Td W σ (.nt a) (!k):=by show tst pg W σ (.nt a)=_;rw[aIo,show tst pg W σ a=.ok k from h];rfl
theorem kB{a b:E}{k:Bool}(h:Td W σ a false)(g:Td W σ b k):Td W σ (.orr a b) k:=by show tst pg W σ (.orr a b)=_;rw[yQ,show tst pg W σ a=.ok false from h];exact g
theorem aDo{a b:E}(h:Td W σ a true):Td W σ (.orr a b) true:=by show tst pg W σ (.orr a b)=_;rw[yQ,show tst pg W σ a=.ok true from h];rfl
theorem aIw{f:Nat}{es:Es}{r:List D}{k fr pa:Bool}(h:Eds W σ es r)(c:W f r=.ok (.bl k,fr,pa)):Td W σ (.call f es) k:=by obtain⟨vs,l,rfl⟩:=h;show tst pg W σ (.call f es)=_;rw[aDb,l,aG,c];show cV (aW vs (.bl k,fr,pa))=_;unfold aW;split <;> rfl
theorem gL{a:E}{cs:List Cl}{d:D}{k:Bool}(h:Ed W σ a d)(e:isI cs pg d=some k):Td W σ (.isi a cs) k:=by obtain⟨v,l,rfl⟩:=h;show tst pg W σ (.isi a cs)=_;rw[aFb,l,aG,e]
theorem aLc{a:E}{cs:List Cl}{d:D}{k:Bool}(h:Ed W σ a d)(e:isI cs pg d=some k):Ed W σ (.isi a cs) (.bl k):=by obtain⟨v,l,rfl⟩:=h;exact⟨_,by rw[aIn,l,aG,e],rfl⟩
theorem aDp{a b:E}{d:D}(h:Ed W σ a (.bl true))(g:Ed W σ b d):Ed W σ (.an a b) d:=by obtain⟨v,l,B⟩:=h;obtain⟨w,g1,g2⟩:=g;exact⟨w,by rw[aKS,l,aG,B];exact g1,g2⟩
theorem aDq(x:Vl)(l:List D):(items x l).map (·.d)=l:=by unfold items;rw[Bb,show(λv:Vl=>v.d)∘x.sub=id from funext (gJ x),Fp]
theorem jB{a:E}{l:List D}(h:Ed W σ a (.lst l)):Wd W σ (.seq a) l:=by obtain⟨⟨_,f1,L,I⟩,B,G⟩:=h;cases G;exact⟨_,_,by rw[tR,B,aG],aDq _ _⟩
theorem tW{a:E}{n:Nat}(h:Ed W σ a (.int n))(G:n<=1000000):Wd W σ (.rng (.c (.int 0)) a) ((AD n).map λ(k:Nat)=>D.int k):=by obtain⟨v,l,B⟩:=h;refine⟨_,_,iC l B G,?_⟩;rw[Bb];exact CN λk _=>rfl
theorem rB{a:E}{l:List D}(h:Ed W σ a (.lst l)):Wd W σ (.enum a) (dA 0 l):=by obtain⟨⟨_,f1,L,B⟩,G,I⟩:=h;cases I;refine⟨items ⟨.lst l,f1,L,B⟩ (dA 0 l),B,?_,aDq _ _⟩;show(ev pg W σ a >>= λx=>(match lO x.d with|some as=>R.ok (items x (dA 0 as),x.al)|none=>.bad))=_;rw[G];rfl
theorem cA{i:Nat}{e:E}{d:D}(E:En σ ds)(h:Ed W σ e d):∃σ',ex pg W σ (.set (.n i) e)=.next σ'/\En σ' (ds.set i (some d)):=by obtain⟨v,l,rfl⟩:=h;exact⟨_,by rw[aDd,l];rfl,(E.frz v.al).put v i⟩
theorem rC{i f:Nat}{es:Es}{r:List D}{d:D}{fr pa:Bool}(E:En σ ds)(h:Eds W σ es r)(c:W f r=.ok (d,fr,pa)):∃σ',ex pg W σ (.setC i f es)=.next σ'/\En σ' (ds.set i (some d)):=by
 obtain⟨vs,l,rfl⟩:=h;have hd:(aW vs (d,fr,pa)).d=d:=by unfold aW;split <;> rfl
 refine⟨(freeze σ (aW vs (d,fr,pa)).al).set i (aW vs (d,fr,pa)).slot,?_,by have:=(E.frz (aW vs (d,fr,pa)).al).put (aW vs (d,fr,pa)) i;rwa [hd] at this⟩;show O.from σ (evs pg W σ es) (λvs=>O.frX σ (W f (vs.map (·.d))) λr=>O.from σ (aV (freeze σ (aW vs r).al) (aW vs r) (.n i)) .next)=_;rw[l,cM,c];rfl
theorem aIx{i f:Nat}{es:Es}{r:List D}{x:D}(h:Eds W σ es r)(c:W f r=.exc x):ex pg W σ (.setC i f es)=.exc x σ:=by obtain⟨vs,l,rfl⟩:=h;show O.from σ (evs pg W σ es) (λvs=>O.frX σ (W f (vs.map (·.d))) λr=>O.from σ (aV (freeze σ (aW vs r).al) (aW vs r) (.n i)) .next)=_;rw[l,cM,c];rfl
theorem yV{f:Nat}{es:Es}{r:List D}{q:Rt}(h:Eds W σ es r)(c:W f r=.ok q):ex pg W σ (.exC f es)=.next σ:=by obtain⟨vs,l,rfl⟩:=h;show O.from σ (evs pg W σ es) (λvs=>O.frX σ (W f (vs.map (·.d))) λ_=>.next σ)=_;rw[l,cM,c];rfl
theorem yW{f:Nat}{es:Es}{r:List D}{x:D}(h:Eds W σ es r)(c:W f r=.exc x):ex pg W σ (.exC f es)=.exc x σ:=by obtain⟨vs,l,rfl⟩:=h;show O.from σ (evs pg W σ es) (λvs=>O.frX σ (W f (vs.map (·.d))) λ_=>.next σ)=_;rw[l,cM,c];rfl
theorem aIy{f:Nat}{es:Es}{r:List D}{x:D}(h:Eds W σ es r)(c:W f r=.exc x):ex pg W σ (.retC f es)=.exc x σ:=by obtain⟨vs,l,rfl⟩:=h;show O.from σ (evs pg W σ es) (λvs=>O.frX σ (W f (vs.map (·.d))) λr=>.ret (aW vs r))=_;rw[l,cM,c];rfl
theorem cG{c:E}{a:Ss}(h:Td W σ c false):ex pg W σ (.iff c a .nil)=.next σ:=aMX h
theorem fP{c:E}{a:Ss}(h:Td W σ c true):ex pg W σ (.iff c a .nil)=exs pg W σ a:=by rw[aDf,show tst pg W σ c=.ok true from h];rfl
theorem nE{c:Str}{e:E}{d:D}(h:Ed W σ e d):ex pg W σ (.rse c e)=.exc (dS c) σ:=by obtain⟨v,l,_⟩:=h;show O.from σ (ev pg W σ e) (λ_=>.exc (dS c) σ)=_;rw[l];rfl
theorem cB{s:S}{ss:Ss}{x:D}{σ':Sg}(h:ex pg W σ s=.exc x σ'):exs pg W σ (.cons s ss)=.exc x σ':=by rw[fN,h];rfl
theorem tX{s:S}{ss:Ss}{v:Vl}(h:ex pg W σ s=.ret v):exs pg W σ (.cons s ss)=.ret v:=by rw[fN,h];rfl
theorem eZ{e:E}{ss:Ss}{d:D}(h:Ed W σ e d):∃v,exs pg W σ (.cons (.ret e) ss)=.ret v/\v.d=d:=by obtain⟨v,l,B⟩:=h;exact⟨v,aDj l,B⟩
theorem tY{n f:Nat}{F:Fn}{as:List D}{v:Vl}(l:pg.fns[f]? = some F)(hl:as.length=F.np)(h:exs pg (call pg n) ((as.map λd=>Sl.sh true d)++Ag (F.ns-F.np) Sl.dead) F.body=.ret v):call pg (n+1) f as=.ok (v.d,v.fr,v.pa):=aFd l hl h
theorem fQ{n f:Nat}{F:Fn}{as:List D}{x:D}{σ':Sg}(l:pg.fns[f]? = some F)(hl:as.length=F.np)(h:exs pg (call pg n) ((as.map λd=>Sl.sh true d)++Ag (F.ns-F.np) Sl.dead) F.body=.exc x σ'):call pg (n+1) f as=.exc x:=by show gP pg (call pg n) f as=_;unfold gP;rw[l];show(if as.length=F.np then _ else _)=_;rw[if_pos hl,h]
theorem aFW{n f:Nat}{F:Fn}{as:List D}{σ':Sg}(l:pg.fns[f]? = some F)(hl:as.length=F.np)(h:exs pg (call pg n) ((as.map λd=>Sl.sh true d)++Ag (F.ns-F.np) Sl.dead) F.body=.next σ'):call pg (n+1) f as=.ok (.non,false,false):=by show gP pg (call pg n) f as=_;unfold gP;rw[l];show(if as.length=F.np then _ else _)=_;rw[if_pos hl,h]
theorem aO(as:List D)(m:Nat):En ((as.map λd=>Sl.sh true d)++Ag m Sl.dead) (as.map some++Ag m none) where
 len:=by simp
 «at»:=λi d e=>by
  have hi:i<as.length:=by by_cases h:i<as.length;exact h;rw[Ax (by simpa using h),A7] at e;split at e <;> cases e
  rw[Aw (by simpa using hi),Ak,Ac hi] at e;cases e;unfold bU;rw[Aw (by simpa using hi),Ak,Ac hi];exact⟨_,rfl,rfl⟩
 no2:=eS.mpr λi dss e=>by by_cases h:i<as.length;rw[Aw (by simpa using h),Ak,Ac h] at e;cases e;rw[Ax (by simpa using h),A7] at e;split at e <;> cases e
theorem st1(E:En σ ds)(x:Vl)(i:Nat):∃l,aV σ x (.n i)=.ok l/\En l (ds.set i (some x.d)):=⟨_,rfl,E.put x i⟩
theorem st2(E:En σ ds){x:Vl}{a b:D}(h:x.d=.tup [a,b])(i j:Nat):∃l,aV σ x (.t [i,j])=.ok l/\En l ((ds.set i (some a)).set j (some b)):=by refine⟨(σ.set i (x.sub a).slot).set j (x.sub b).slot,?_,?_⟩;unfold aV;rw[h];rfl;have:=(E.put (x.sub a) i).put (x.sub b) j;rwa [gJ,gJ] at this
theorem st3(E:En σ ds){x:Vl}{a b c:D}(h:x.d=.tup [a,b,c])(i j k:Nat):∃l,aV σ x (.t [i,j,k])=.ok l/\En l (((ds.set i (some a)).set j (some b)).set k (some c)):=by refine⟨((σ.set i (x.sub a).slot).set j (x.sub b).slot).set k (x.sub c).slot,?_,?_⟩;unfold aV;rw[h];rfl;have:=((E.put (x.sub a) i).put (x.sub b) j).put (x.sub c) k;rwa [gJ,gJ,gJ] at this
theorem yX{f:Sg->Vl->O}:∀(xs:List Vl) (I:Nat->Sg->Prop) (σ:Sg),I 0 σ->(∀(i:Nat) (h:i<xs.length) (σ:Sg),I i σ->∃σ',f σ xs[i]=.next σ'/\I (i+1) σ')->∃σ',dE f xs σ=.next σ'/\I xs.length σ'
 | [],I,σ,h0,_=>⟨σ,rfl,h0⟩
 | x::xs,I,σ,h0,h=>by obtain⟨l,G,M⟩:=h 0 (Cj _) σ h0;obtain⟨B,L,U⟩:=yX xs (λi=>I (i+1)) l M λi hi τ Z=>h (i+1) (FF hi) τ Z;refine⟨B,?_,U⟩;show(match f σ x with|.next σ'=>dE f xs σ'|o=>o)=_;rw[show f σ x=.next l from G];exact L
noncomputable def aLd:O->Bool
 | .ret _=>true|.exc _ _=>true|_=>false
theorem yY{f:Sg->Vl->O}{p:O->Prop}(L:∀o,p o->aLd o=true):∀(xs:List Vl) (I:Nat->Sg->Prop) (σ:Sg) (j:Nat) (B:j<xs.length),I 0 σ->(∀(i:Nat) (h:i<xs.length) (σ:Sg),i<j->I i σ->∃σ',f σ xs[i]=.next σ'/\I (i+1) σ')->(∀σ,I j σ->p (f σ xs[j]))->p (dE f xs σ)
 | [],_,_,_,B,_,_,_=>absurd B (Ca _)|x::xs,I,σ,0,_,h0,_,he=>by
  have h:=he σ h0;show p (match f σ x with|.next σ'=>dE f xs σ'|o=>o);have h:p (f σ x):=h;have e:=L _ h;revert h e;cases f σ x with
  | ret v=>exact λh _=>h|exc z M=>exact λh _=>h|_=>intro _ e;cases e
 | x::xs,I,σ,j+1,B,h0,h,he=>by obtain⟨l,U,Z⟩:=h 0 (Cj _) σ (Cj _) h0;have ih:=yY L xs (λi=>I (i+1)) l j (Nat.lt_of_succ_lt_succ B) Z (λi hi M G hI=>h (i+1) (FF hi) M (FF G) hI) he;show p (match f σ x with|.next σ'=>dE f xs σ'|o=>o);rw[show f σ x=.next l from U];exact ih
theorem kC{t:T}{it:It}{b:Ss}{xs:List D}(E:En σ ds)(M:Wd W σ it xs)(I:Nat->Sg->Prop)(h0:∀σ',En σ' ds->I 0 σ')
 (h:∀(i:Nat) (hi:i<xs.length) (G:Sg) (x:Vl),x.d=xs[i]->I i G->∃B l,aV G x t=.ok B/\exs pg W B b=.next l/\I (i+1) l):∃σ',ex pg W σ (.for t it b)=.next σ'/\I xs.length σ':=by
 obtain⟨vs,al,M,rfl⟩:=M;obtain⟨σ',e,L⟩:=yX (f:=λσ x=>O.from σ (aV σ x t) λσ'=>exs pg W σ' b) vs I (freeze σ al) (h0 _ (E.frz al)) λi hi G L=>by obtain⟨B,l,U,Z,h2⟩:=h i (by simpa using hi) G vs[i] (by simp) L;exact⟨l,by show O.from G (aV G vs[i] t) _=_;rw[U];exact Z,h2⟩
 exact⟨σ',by rw[wD,M];exact e,by simpa using L⟩
theorem rD{t:T}{it:It}{b:Ss}{xs:List D}{p:O->Prop}(hp:∀o,p o->aLd o=true)(E:En σ ds)(hw:Wd W σ it xs)(I:Nat->Sg->Prop)(h0:∀σ',En σ' ds->I 0 σ')(j:Nat)(hj:j<xs.length)
 (h:∀(i:Nat) (hi:i<xs.length) (B:Sg) (x:Vl),i<j->x.d=xs[i]->I i B->∃l G,aV B x t=.ok l/\exs pg W l b=.next G/\I (i+1) G)
 (he:∀(B:Sg) (x:Vl),x.d=xs[j]->I j B->∃l,aV B x t=.ok l/\p (exs pg W l b)):p (ex pg W σ (.for t it b)):=by
 obtain⟨vs,al,hw,rfl⟩:=hw;rw[wD,hw];refine yY (f:=λσ x=>O.from σ (aV σ x t) λσ'=>exs pg W σ' b) hp vs I (freeze σ al) j (by simpa using hj) (h0 _ (E.frz al)) (λi hi B Z U=>?_) λB U=>?_;obtain⟨l,G,L,M,h2⟩:=h i (by simpa using hi) B vs[i] Z (by simp) U;exact⟨G,by show O.from B (aV B vs[i] t) _=_;rw[L];exact M,h2⟩;have q0:j<vs.length:=by simpa using hj
 obtain⟨l,L,M⟩:=he B vs[j] (by simp) U;show p (O.from B (aV B vs[j] t) _);rw[L];exact M
theorem aFm{s:Sl}{i:Nat}(j:Nat){v:Vl}(h:s.val i=.ok v):∃w,s.val j=.ok w/\w.d=v.d:=by
 cases s with
 | sh pa d=>cases h;exact⟨_,rfl,rfl⟩|own pa d=>cases h;exact⟨_,rfl,rfl⟩|_=>cases h
theorem aLe(E:En σ ds)(k:Nat)(caps al:List Nat):En (Ag k .dead++caps.map λi=>((freeze σ al)[i]?).getD .dead) (Ag k none++caps.map λj=>(ds[j]?).getD none) where
 len:=by simp
 «at»:=λi d e=>by
  have hi:k<=i:=by by_cases h:k<=i;exact h;rw[Aw (by simpa using h),A7] at e;split at e <;> cases e
  rw[Ax (by simpa using hi),A4,Ak] at e;obtain⟨c,B,e⟩:=A1.mp e;have hd:ds[c]? = some (some d):=by
   cases q:ds[c]? with
   | none=>rw[q] at e;cases e|some o=>rw[q] at e;rw[show o=some d from e]
  obtain⟨v,l,G⟩:=(E.frz al).at c d hd;unfold bU at l ⊢;rw[Ax (by simpa using hi),A4,Ak,B];cases q:(freeze σ al)[c]? with
  | none=>rw[q] at l;cases l|some s=>rw[q] at l;obtain⟨w,g1,g2⟩:=aFm i (show s.val c=.ok v from l);refine⟨w,?_,g2.trans G⟩;show((freeze σ al)[c]?.getD .dead).val i=_;rw[q];exact g1
 no2:=eS.mpr λi dss e=>by
  by_cases hi:k<=i;rw[Ax (by simpa using hi),A4,Ak] at e;obtain⟨c,B,e⟩:=A1.mp e;have:=eS.mp (E.frz al).no2 c dss;cases q:(freeze σ al)[c]? with
  | none=>rw[q] at e;cases e|some s=>rw[q] at e;exact this (by rw[q,show s=.own2 dss from e])
  rw[Aw (by simpa using hi),A7] at e;split at e <;> cases e
theorem tZ{f:Vl->R (Option Vl)}:∀(xs:List Vl) (ys:List D),xs.length=ys.length->(∀(i:Nat) (x:Vl) (y:D),xs[i]? = some x->ys[i]? = some y->∃v,f x=.ok (some v)/\v.d=y)->∃vs,cD f xs=.ok vs/\vs.map (·.d)=ys
 | [],[],_,_=>⟨[],rfl,rfl⟩
 | [],_::_,h,_=>by cases h|_::_,[],h,_=>by cases h|x::xs,y::ys,hl,h=>by obtain⟨v,l,B⟩:=h 0 x y rfl rfl;obtain⟨vs,g1,g2⟩:=tZ xs ys (by simpa using hl) λi x y G I=>h (i+1) x y G I;refine⟨v::vs,?_,by rw[mC,B,g2]⟩;unfold cD;rw[l,aG,g1];rfl
theorem jT{k:Nat}{caps:List Nat}{t:T}{it:It}{elt:E}{xs ys:List D}(E:En σ ds)(B:Wd W σ it xs)(hl:xs.length=ys.length)(M:ys.length<=lim)
 (h:∀(i:Nat) (x:Vl) (y:D),xs[i]? = some x.d->ys[i]? = some y->∀I,En I (Ag k none++caps.map λj=>(ds[j]?).getD none)->∃l,aV I x t=.ok l/\Ed W l elt y):Ed W σ (.comp k caps t it .nil elt) (.lst ys):=by
 obtain⟨vs,al,B,rfl⟩:=B;obtain⟨us,L,G⟩:=tZ (f:=λx=>do
  let σ1<-aV (Ag k .dead++caps.map λi=>((freeze σ al)[i]?).getD .dead) x t
  let k<-tsts pg W σ1 .nil
  if k then do let y<-ev pg W σ1 elt;.ok (some y) else .ok none) vs ys (by simpa using hl) λi x y U Z=>by obtain⟨l,g1,v,g2,g3⟩:=h i x y (by rw[Ak,U];rfl) Z _ (aLe E k caps al);refine⟨v,?_,g3⟩;rw[g1,aG,tQ,aG,if_pos rfl,g2];rfl
 refine⟨fD k caps al us,?_,?_⟩;rw[yP,B,aG];show(cD _ vs >>= λvs=>R.iff (decide (vs.length<=lim)) (.ok (fD k caps al vs)))=_;rw[L,aG,AR (by rw[<-lM (f:=(·.d)) (as:=us),G];exact M)];rfl;unfold fD;split <;> exact congrArg D.lst G
end
theorem aFX(n:Nat){s:Nat}(h:s<6){st:List Int}(hs:st∈es s):call pg (n+3) 6 [bxD s,tupK st]=.ok (.bl true,false,false):=by
 have:(es s).map (λst=>call pg (n+3) 6 [bxD s,tupK st])=(es s).map λ_=>R.ok (.bl true,false,false):=by apply sh6 (P:=λs=>(es s).map (λst=>call pg (n+3) 6 [bxD s,tupK st])=(es s).map λ_=>R.ok (.bl true,false,false)) h <;> kernel_rfl
 exact B6.mp this st hs
noncomputable def bads(s:Nat)(m:Int):List D:=match nQ s with
 | [a]=>[.tup [.int (a+1)],.tup [.int (-1)],.tup [.int (a+1+m)],.tup [],.tup [.int 0,.int 0],.lst [.int 0],.tup [.bl false],.tup [.non],.non,.int 0,.str "0",.tup [.str "0"]]
 | [a,b]=>[.tup [.int (a+1),.int 0],.tup [.int (-1),.int 0],.tup [.int 0,.int (b+1+m)],.tup [.int 0],.tup [.int 0,.int 0,.int 0],.lst [.int 0,.int 0],.tup [.bl false,.int 0],.tup [.int 0,.non],.non,.int 0,.str "0",.tup [.int 0,.str "0"]]
 | _=>[]
abbrev noR:R Rt:=.ok (.bl false,false,false)
theorem aFn(n:Nat){s:Nat}(h:s<6){m:Nat}(hm:m<9):call pg (n+3) 6 [bxD s,(bads s m).getD 2 .non]=noR:=by
 have:(AD 9).map (λm=>call pg (n+3) 6 [bxD s,(bads s (m:Nat)).getD 2 .non])=(AD 9).map λ_=>noR:=by apply sh6 (P:=λs=>(AD 9).map (λm=>call pg (n+3) 6 [bxD s,(bads s (m:Nat)).getD 2 .non])=(AD 9).map λ_=>noR) h <;> kernel_rfl
 exact B6.mp this m (AQ.mpr hm)
theorem aFo(n:Nat){s:Nat}(h:s<6){m:Nat}(hm:m<9){d:D}(hd:d∈bads s m):call pg (n+3) 6 [bxD s,d]=noR:=by
 have e:((bads s m).eraseIdx 2).map (λd=>call pg (n+3) 6 [bxD s,d])=((bads s m).eraseIdx 2).map λ_=>noR:=by apply sh6 (P:=λs=>((bads s m).eraseIdx 2).map (λd=>call pg (n+3) 6 [bxD s,d])=((bads s m).eraseIdx 2).map λ_=>noR) h <;> kernel_rfl
 have sp:d=(bads s m).getD 2 .non\/d∈(bads s m).eraseIdx 2:=by
  clear e;revert hd;generalize bads s m=l;intro hd
  match l,hd with
  | [],hd=>cases hd|[a],hd=>exact .inr hd|[a,b],hd=>exact .inr hd|a::b::c::r,hd=>rcases Ao.mp hd with rfl|hd;exact .inr (by simp);rcases Ao.mp hd with rfl|hd;exact .inr (by simp);rcases Ao.mp hd with rfl|hd;exact .inl rfl;exact .inr (by simp[hd])
 rcases sp with rfl|hd;exact aFn n h hm;exact B6.mp e d hd
theorem yZ:∀l:List (List Int),eV (l.map tupK)=some l
 | []=>rfl|x::l=>by
  have B:∀x:List Int,aU (x.map D.int)=some x:=λx=>by
   induction x with
   | nil=>rfl|cons i x G=>rw[mC,aU,G]
  rw[mC,eV,yZ l,show xA (tupK x)=some x from B x]
theorem aIz{W:Caller}{σ:Sg}{a:E}{l:List (List Int)}(h:Ed W σ a (.lst (l.map tupK)))(B:neK l=true)(G:(ssT l).length<=18):Ed W σ (.sset a) (.lst ((ssT l).map tupK)):=by
 obtain⟨⟨_,f1,L,I⟩,g1,g2⟩:=h;cases g2;refine⟨⟨.lst ((ssT l).map tupK),true,false,[]⟩,?_,rfl⟩;show(ev pg W σ a >>= λx=>(match x.d with
  | .lst ds=>(match eV ds with|some ks=>R.iff (neK ks&&decide ((ssT ks).length<=18)) (R.ok (⟨.lst ((ssT ks).map tupK),true,false,[]⟩:Vl))|none=>.bad)
  | _=>.bad))=_
 rw[g1,aG];show(match eV (l.map tupK) with|some ks=>R.iff (neK ks&&decide ((ssT ks).length<=18)) (R.ok (⟨.lst ((ssT ks).map tupK),true,false,[]⟩:Vl))|none=>.bad)=_;rw[yZ];show R.iff (neK l&&decide ((ssT l).length<=18)) _=_;rw[B,AR G];rfl
theorem aDr(n:Nat):∀as bs:List Int,dH (n+1) (as.map D.int) (bs.map D.int)=some (as==bs)
 | [],[]=>rfl|[],_::_=>rfl|_::_,[]=>rfl|a::as,b::bs=>by rw[mC,mC,dH,aFh,aDr n as bs];rfl
theorem aFY(n:Nat)(a b:List Int):eqF (n+2) (tupK a) (tupK b)=some (a==b):=by unfold tupK;rw[aFi,aDr]
theorem aDs(n:Nat):∀as bs:List (List Int),dH (n+2) (as.map tupK) (bs.map tupK)=some (as==bs)
 | [],[]=>rfl|[],_::_=>rfl|_::_,[]=>rfl|a::as,b::bs=>by rw[mC,mC,dH,aFY,aDs n as bs];rfl
theorem aLf(as bs:List (List Int)):eqD (.lst (as.map tupK)) (.lst (bs.map tupK))=some (as==bs):=by show(if (as.map tupK).length=(bs.map tupK).length then eqL (eqF 119) (as.map tupK) (bs.map tupK) else some false)=_;rw[uY,aDs];split;rfl;rename_i h;have:as≠bs:=λz=>h (by rw[z]);rw[beq_eq_false_iff_ne.mpr this]
theorem aLg{W:Caller}{σ:Sg}{a:E}{l:List Bool}(h:Ed W σ a (.lst (l.map D.bl))):Td W σ (.bi .all (.cons a .nil)) (l.all id):=by
 obtain⟨⟨_,f1,I,G⟩,g1,g2⟩:=h;cases g2;have hb:bO (l.map D.bl)=some l:=by
  clear g1
  induction l with
  | nil=>rfl|cons b l B=>rw[mC,bO,B]
 show(evs pg W σ (.cons a .nil) >>= λvs=>biD .all vs >>= λx=>cV x)=_;rw[cN,g1,aG,aEZ];show((match bO (l.map D.bl) with|some bs=>R.ok (Vl.cl (.bl (bs.all id)))|none=>.bad) >>= λx=>cV x)=_;rw[hb];rfl
abbrev npX:R Rt:=.exc (dS "NoPaper")
noncomputable def Gd(s:Nat)(x:D):Prop:=∀n,call pg (n+4) 14 [bxD s,x]=.ok (.non,false,false)
noncomputable def Bd(s:Nat)(x:D):Prop:=∀n,call pg (n+4) 14 [bxD s,x]=npX
theorem jC{s:Nat}{x:D}(h:isI [.tList] pg x=some false):Bd s x:=λn=>by have E:=aO [bxD s,x] 0;exact fQ (F:=f14) rfl rfl (cB ((fP (aDo (eC (gL (d_v E 1 rfl) h)))).trans (cB (nE (d_c _)))))
theorem aDt(n:Nat){s:Nat}{xs:List D}{bs:List Bool}(hl:xs.length=bs.length)(hm:xs.length<=lim)(h:∀(i:Nat) (x:D) (b:Bool),xs[i]? = some x->bs[i]? = some b->call pg (n+3) 6 [bxD s,x]=.ok (.bl b,false,false)){σ:Sg}(E:En σ [some (bxD s),some (.lst xs)]) :
 Td (call pg (n+3)) σ (.bi .all (.cons (.comp 1 [0] (.n 0) (.seq (.v 1)) .nil (.call 6 (.cons (.v 1) (.cons (.v 0) .nil)))) .nil)) (bs.all id):=by
 refine aLg (jT E (jB (d_v E 1 rfl)) (by rw[lM];exact hl) (by rw[lM,<-hl];exact hm) λi x y M I U l=>?_);obtain⟨b,hb,rfl⟩:=(by rw[Ak] at I;exact A1.mp I:∃b,bs[i]? = some b/\D.bl b=y)
 obtain⟨B,L,G⟩:=st1 l x 0;exact⟨B,L,bH (aA (d_v G 1 rfl) (aA (d_v G 0 rfl) aH)) (h i x.d b M hb)⟩
theorem aLh{s:Nat}{xs:List D}{bs:List Bool}(hl:xs.length=bs.length)(hm:xs.length<=lim)(h:∀(n i:Nat) (x:D) (b:Bool),xs[i]? = some x->bs[i]? = some b->call pg (n+3) 6 [bxD s,x]=.ok (.bl b,false,false))(l:bs.all id=false):Bd s (.lst xs):=λn=>by have E:=aO [bxD s,.lst xs] 0;have t:=aDt n hl hm (h n) E;rw[l] at t;exact fQ (F:=f14) rfl rfl (cB ((fP (kB (eC (gL (d_v E 1 rfl) rfl)) (eC t))).trans (cB (nE (d_c _)))))
theorem nF(n:Nat){s:Nat}(hs:s<6){l:List (List Int)}(h:∀x∈l,x∈es s)(M:neK l=true)(hl:l.length<=18)(G:(ssT l).length<=18):call pg (n+4) 14 [bxD s,.lst (l.map tupK)]=if l=ssT l then .ok (.non,false,false) else npX:=by
 have E:=aO [bxD s,.lst (l.map tupK)] 0;have t:=aDt n (s:=s) (xs:=l.map tupK) (bs:=l.map λ_=>true) (by simp) (by rw[lM];unfold lim;omega) (λi x b I hb=>by
  rw[Ak] at I hb;obtain⟨st,L,rfl⟩:=A1.mp I;obtain⟨_,G,rfl⟩:=A1.mp hb;exact aFX n hs (h st (mG L))) E
 rw[show(l.map λ_=>true).all id=true by simp] at t;have k1:=cG (a:=.cons (.rse "NoPaper" (.c (.str "a paper has a list of stands of the boxes for each place"))) .nil) (kB (eC (gL (cs:=[.tList]) (d_v (W:=call pg (n+3)) E 1 rfl) rfl)) (eC t));have B:Td (call pg (n+3)) _ (.cmp .NotEq (.v 1) (.sset (.v 1))) (!(l==ssT l)):=cK (d_v E 1 rfl) (aIz (d_v E 1 rfl) M G) (by rw[aDh,aLf];rfl);by_cases e:l=ssT l;rw[if_pos e];rw[beq_iff_eq.mpr e] at B;exact aFW (F:=f14) rfl rfl (cs k1 (cs (cG B) rfl));rw[if_neg e];rw[beq_eq_false_iff_ne.mpr e] at B;exact fQ (F:=f14) rfl rfl (cs k1 (cB ((fP B).trans (cB (nE (d_c _))))))
noncomputable def aDu{α:Type}:List α->List (List α)
 | []=>[[]]
 | x::xs=>aDu xs++(aDu xs).map (x::·)
theorem uA{α:Type}{a b:List α}(h:a.Sublist b):a∈aDu b:=by
 induction h with
 | slnil=>exact A3.mpr rfl|cons x h l=>exact AK _ l|cons_cons x h l=>exact AC _ (AA.mpr ⟨_,l,rfl⟩)
theorem zA{s:Nat}(h:s<6):(aDu (es s)).all (λl=>decide (l=ssT l)&&neK l&&decide (l.length<=6))=true:=by apply sh6 (P:=λs=>(aDu (es s)).all (λl=>decide (l=ssT l)&&neK l&&decide (l.length<=6))=true) h <;> decide +kernel
theorem wG{s:Nat}(hs:s<6){l:List (List Int)}(h:l.Sublist (es s)):Gd s (.lst (l.map tupK)):=λn=>by have:=A9.mp (zA hs) l (uA h);simp only[bA,Bo] at this;obtain⟨⟨B,G⟩,L⟩:=this;rw[nF n hs (λx I=>h.subset I) G (by omega) (by rw[<-B];omega),if_pos B]
theorem aFp{s:Nat}(h:s<6):([(es s).reverse,(es s).take 2++(es s).drop 1].all λl=>!decide (l=ssT l)&&neK l&&decide (l.length<=18)&&decide ((ssT l).length<=18))=true:=by apply sh6 (P:=λs=>([(es s).reverse,(es s).take 2++(es s).drop 1].all λl=>!decide (l=ssT l)&&neK l&&decide (l.length<=18)&&decide ((ssT l).length<=18))=true) h <;> decide +kernel
theorem aDv{s:Nat}(hs:s<6){l:List (List Int)}(h:l∈[(es s).reverse,(es s).take 2++(es s).drop 1]):Bd s (.lst (l.map tupK)):=λn=>by have:=A9.mp (aFp hs) l h;simp only[bA,Bo,CD,decide_eq_false_iff_not] at this;obtain⟨⟨⟨G,I⟩,L⟩,M⟩:=this;rw[nF n hs (λx B=>?_) I L M,if_neg G];rcases Ao.mp h with rfl|h;exact List.mem_reverse.mp B;rw[A3.mp h] at B;rcases Bx.mp B with z|z;exact Em z;exact List.mem_of_mem_drop z
theorem aIA{s:Nat}(hs:s<6){l:List (List Int)}(h:l.Sublist (es s)){m:Nat}(hm:m<9){d:D}(hd:d∈bads s m)(k:Nat):Bd s (.lst ((l.map tupK).take k++d::(l.map tupK).drop k)):=by
 have L:=A9.mp (zA hs) l (uA h);simp only[bA,Bo] at L;refine aLh (bs:=((l.map λ_=>true).take k++false::(l.map λ_=>true).drop k)) (by simp) ?_ (λn i x b B hb=>?_) (by simp);rw[lA,lC,AI,BO,lM];unfold lim;omega;have G:∀(j:Nat) (x:D) (b:Bool),(l.map tupK)[j]? = some x->(l.map λ_=>true)[j]? = some b->call pg (n+3) 6 [bxD s,x]=.ok (.bl b,false,false):=λj x b B hb=>by rw[Ak] at B hb;obtain⟨st,I,rfl⟩:=A1.mp B;obtain⟨_,U,rfl⟩:=A1.mp hb;exact aFX n hs (h.subset (mG I))
 by_cases I:i<min k l.length;rw[Aw (by rw[AI,lM];omega)] at B hb;rw[C0] at B hb;split at B;rename_i M;rw[if_pos M] at hb;exact G i x b B hb;cases B;rw[Ax (by rw[AI,lM];omega),AI,lM] at B hb;cases q:i-min k l.length with
 | zero=>rw[q] at B hb;cases B;cases hb;exact aFo n hs hm hd|succ j=>rw[q] at B hb;have B:((l.map tupK).drop k)[j]? = some x:=B;have hb:((l.map λ_=>true).drop k)[j]? = some b:=hb;rw[DD] at B hb;exact G _ x b B hb
abbrev gG(l:List Int):D:=.lst (l.map λx=>.lst [.tup [yesD,.tup [],.int x]])
noncomputable def aIB:D:=.tup [.str "not",yesD]
theorem nG(n:Nat)(hl:List D):call pg (n+1) 9 [.lst hl]=.ok (.int (hl.length+1),false,false):=by kernel_rfl
noncomputable def dtK:List Str×List (Str×Nat):=(["boxes", "hand", "promised", "others", "notes"],[("__init__",30),("noted",31),("keeps",32),("own_from",33),("others_from",34)])
theorem wH(b h p o nt:D):zU pg (bY b h p o nt)=some (dtK,[.str "boxes",b,.str "hand",h,.str "promised",p,.str "others",o,.str "notes",nt]):=by kernel_rfl
section
variable {W:Caller} {σ:Sg} {ds:List (Option D)} {b h p o nt:D} {i:Nat}
theorem uB(E:En σ ds)(e:ds[i]? = some (some (bY b h p o nt))):Ed W σ (.fld i "boxes") b:=aDn E e (wH b h p o nt) (by kernel_rfl) (by kernel_rfl)
theorem aDw(E:En σ ds)(e:ds[i]? = some (some (bY b h p o nt))):Ed W σ (.fld i "hand") h:=aDn E e (wH b h p o nt) (by kernel_rfl) (by kernel_rfl)
theorem aLi(E:En σ ds)(e:ds[i]? = some (some (bY b h p o nt))):Ed W σ (.fld i "notes") nt:=aDn E e (wH b h p o nt) (by kernel_rfl) (by kernel_rfl)
theorem En.un{x:Option D}(E:En σ (ds.set i x))(h:ds[i]? = some none):En σ ds:=E.less (by rw[Ay]) λj d e=>by by_cases z:i=j;subst z;rw[h] at e;cases e;rw[Ah z];exact e
theorem En.dead(E:En σ ds)(j:Nat):En (σ.set j .dead) (ds.set j none) where
 len:=by rw[Ay,Ay];exact E.len
 «at»:=λk d e=>by by_cases z:j=k;subst z;rw[Ar (by have:=(Ai.mp e).1;rwa [Ay] at this)] at e;cases e;rw[Ah z] at e;unfold bU;rw[Ah z];exact E.at k d e
 no2:=eS.mpr λk dss e=>by by_cases z:j=k;subst z;rw[Ar (by have:=(Ai.mp e).1;rwa [Ay] at this)] at e;cases e;rw[Ah z] at e;exact eS.mp E.no2 k dss e
theorem aFZ{s:S}{c x:Str}{i j:Nat}{l:Sg}(E:En l ds)(h:ex pg W σ s=.exc (dS x) l)(B:isX [.own c] pg (dS x)=some true):∃σ',ex pg W σ (.tryAs (.cons s .nil) c i j)=.next σ'/\En σ' ((ds.set i (some (dS x))).set j none):=by refine⟨(l.set i (.sh true (dS x))).set j .dead,?_,(E.put ⟨dS x,false,true,[]⟩ i).dead j⟩;show(match exs pg W σ (.cons s .nil) with|.exc x σ'=>(match isX [.own c] pg x with|some true=>O.next ((σ'.set i (.sh true x)).set j .dead)|_=>.bad)|o=>o)=_;rw[cB h];show(match isX [.own c] pg (dS x) with|some true=>O.next _|_=>.bad)=_;rw[B]
theorem nH:Ed W σ (.tup (.cons (.c (.str "yes")) .nil)) yesD:=nD (aA (d_c _) aH)
noncomputable def Rd(r:R Rt)(d:D):Prop:=∃fr pa,r=.ok (d,fr,pa)
theorem fA{n f:Nat}{F:Fn}{as:List D}{d:D}(l:pg.fns[f]? = some F)(hl:as.length=F.np)(h:∃v,exs pg (call pg n) ((as.map λd=>Sl.sh true d)++Ag (F.ns-F.np) Sl.dead) F.body=.ret v/\v.d=d):Rd (call pg (n+1) f as) d:=by obtain⟨v,h,rfl⟩:=h;exact⟨_,_,tY l hl h⟩
theorem cx{s:S}{ss:Ss}{σ':Sg}{d:D}(h:ex pg W σ s=.next σ')(r:∃v,exs pg W σ' ss=.ret v/\v.d=d):∃v,exs pg W σ (.cons s ss)=.ret v/\v.d=d:=by obtain⟨v,r,l⟩:=r;exact⟨v,cs h r,l⟩
theorem kZ(x y:Int):bL .NotEq (.int x) (.int y)=some (!(x==y)):=by rw[aDh,rA];rfl
end
noncomputable def aDx(s k:Nat)(x:D):Prop:=∃xs,x=.lst xs/\xs.length=k/\∀(i:Nat) (y:D),xs[i]? = some y->Gd s y
noncomputable def nR(s k:Nat)(x:D):Prop:=isI [.tList] pg x=some false\/∃xs,x=.lst xs/\(xs.length≠k\/∃(j:Nat) (y:D),xs[j]? = some y/\Bd s y/\∀(i:Nat) (z:D),i<j->xs[i]? = some z->Gd s z)
section
variable {s:Nat} {hl:List D} {p o nt x:D}
theorem aDy(n:Nat)(h:aDx s (hl.length+1) x):call pg (n+5) 13 [bY (bxD s) (.lst hl) p o nt,x]=.ok (.non,false,false):=by
 obtain⟨xs,rfl,Z,L⟩:=h;have E:=aO [bY (bxD s) (.lst hl) p o nt,.lst xs] 1;have t:=cK (o:=.NotEq) (dP (W:=call pg (n+4)) (d_v E 1 rfl)) (bH (aA (aDw E (i:=0) rfl) aH) (nG (n+3) hl)) (kZ _ _);rw[beq_iff_eq.mpr (by omega:(xs.length:Int)=(hl.length:Int)+1)] at t;obtain⟨σ',e,_⟩:=kC (t:=.n 2) (it:=.seq (.v 1)) (b:=.cons (.exC 14 (.cons (.fld 0 "boxes") (.cons (.v 2) .nil))) .nil) E (jB (d_v E 1 rfl)) (λ_ G=>En G [some (bY (bxD s) (.lst hl) p o nt),some (.lst xs),none]) (λ_ h=>h) λi hi G y U M=>by obtain⟨l,I,B⟩:=st1 M y 2;exact⟨l,l,I,cs (yV (aA (uB B rfl) (aA (d_v B 2 rfl) aH)) (L i y.d (by rw[U];exact Ac hi) n)) rfl,B.un rfl⟩
 exact aFW (F:=f13) rfl rfl (cs (cG (kB (eC (gL (d_v E 1 rfl) rfl)) t)) (cs e rfl))
theorem aFq(n:Nat)(h:nR s (hl.length+1) x):call pg (n+5) 13 [bY (bxD s) (.lst hl) p o nt,x]=npX:=by
 have E:=aO [bY (bxD s) (.lst hl) p o nt,x] 1;rcases h with h|⟨xs,rfl,h⟩
 exact fQ (F:=f13) rfl rfl (cB ((fP (aDo (eC (gL (d_v E 1 rfl) h)))).trans (cB (nE (d_c _)))));have t:=cK (o:=.NotEq) (dP (W:=call pg (n+4)) (d_v E 1 rfl)) (bH (aA (aDw E (i:=0) rfl) aH) (nG (n+3) hl)) (kZ _ _);by_cases hk:xs.length=hl.length+1;rw[beq_iff_eq.mpr (by omega:(xs.length:Int)=(hl.length:Int)+1)] at t;rcases h with h|⟨j,y,U,hb,Z⟩
 exact absurd hk h;obtain⟨σ',e⟩:=rD (W:=call pg (n+4)) (t:=.n 2) (it:=.seq (.v 1)) (b:=.cons (.exC 14 (.cons (.fld 0 "boxes") (.cons (.v 2) .nil))) .nil) (p:=λo=>∃σ',o=.exc (dS "NoPaper") σ') (λ_ ⟨_,e⟩=>by rw[e];rfl) E (jB (d_v E 1 rfl)) (λ_ M=>En M [some (bY (bxD s) (.lst hl) p o nt),some (.lst xs),none]) (λ_ h=>h) j (Ai.mp U).1 (λi hi M y L hy I=>by
  obtain⟨l,G,B⟩:=st1 I y 2;exact⟨l,l,G,cs (yV (aA (uB B rfl) (aA (d_v B 2 rfl) aH)) (Z i y.d L (by rw[hy];exact Ac hi) n)) rfl,B.un rfl⟩) λM z hz I=>by obtain⟨l,G,B⟩:=st1 I z 2;refine⟨l,G,l,cB (yW (aA (uB B rfl) (aA (d_v B 2 rfl) aH)) ?_)⟩;rw[hz,(Ai.mp U).2];exact hb n
 exact fQ (F:=f13) rfl rfl (cs (cG (kB (eC (gL (d_v E 1 rfl) rfl)) t)) (cB e));rw[beq_eq_false_iff_ne.mpr (by omega:(xs.length:Int)≠(hl.length:Int)+1)] at t;exact fQ (F:=f13) rfl rfl (cB ((fP (kB (eC (gL (d_v E 1 rfl) rfl)) t)).trans (cB (nE (d_c _)))))
theorem uC(n:Nat)(w:D)(h:nR s (hl.length+1) x):call pg (n+6) 12 [bY (bxD s) (.lst hl) p o nt,w,x]=npX:=by have E:=aO [bY (bxD s) (.lst hl) p o nt,w,x] 5;exact fQ (F:=f12) rfl rfl (cB (yW (aA (d_v E 0 rfl) (aA (d_v E 2 rfl) aH)) (aFq n h)))
theorem uD(n:Nat){nl:List D}(h:nR s (hl.length+1) x):Rd (call pg (n+8) 26 [bxD s,.lst hl,.lst nl,x]) (.bl true):=by
 have k:call pg (n+7) 11 [bxD s,.lst hl,.lst [],.lst [.lst []],.lst nl,yesD,x]=npX:=by have E:=aO [bxD s,.lst hl,.lst [],.lst [.lst []],.lst nl,yesD,x] 0;exact fQ (F:=f11) rfl rfl (cB (aIy (aA (aMZ (aA (d_v E 0 rfl) (aA (d_v E 1 rfl) (aA (d_v E 2 rfl) (aA (d_v E 3 rfl) (aA (d_v E 4 rfl) aH))))) (aFk (n+3) _ _ _)) (aA (d_v E 5 rfl) (aA (d_v E 6 rfl) aH))) (uC n _ h)))
 have E:=aO [bxD s,.lst hl,.lst nl,x] 2;obtain⟨L,G,l⟩:=cA (i:=4) (W:=call pg (n+7)) E (d_c .non);obtain⟨M,I,B⟩:=aFZ (c:= "PromiseError") (i:=4) (j:=5) l (yW (aA (d_v l 0 rfl) (aA (d_v l 1 rfl) (aA (bS aH) (aA (bS (aA (bS aH) aH)) (aA (d_v l 2 rfl) (aA nH (aA (d_v l 3 rfl) aH))))))) k) (by kernel_rfl);exact fA (F:=f26) rfl rfl (cx G (cx I (eZ (bH (aA (d_v B 4 rfl) aH) (pN (n+6))))))
end
noncomputable def tlS:Ss->Ss|.cons _ r=>r|.nil=>.nil
noncomputable def hdS:Ss->S|.cons s _=>s|.nil=>.ini
noncomputable def bdS:S->Ss|.for _ _ b=>b|.iff _ a _=>a|_=>.nil
abbrev cP(s:Nat)(hl nf:List D):D:=.tup [bxD s,yesD,.lst [.lst hl,.lst hl],.lst [yesD,yesD],.lst [.lst nf,.lst nf]]
abbrev dtF(s:Nat)(hl nf:List D):D:=bY (bxD s) (.lst hl) (eD s) (.lst [eD s]) (.lst nf)
theorem iD(n:Nat){s:Nat}(h:s<6)(hl nf:List D):call pg (n+4) 17 [cP s hl nf]=.ok (.lst [dtF s hl nf,dtF s hl nf],true,true):=by apply sh6 (P:=λs=>call pg (n+4) 17 [cP s hl nf]=.ok (.lst [dtF s hl nf,dtF s hl nf],true,true)) h <;> kernel_rfl
theorem wJ(n:Nat){s:Nat}(h:s<6){st:List Int}(hs:st∈es s)(b g p nt:D):call pg (n+1) 34 [bY b g p (.lst [eD s]) nt,tupK st]=.ok (.lst (((es s).filter λx=>st != x).map λx=>.tup [.int 0,tupK x]),true,false):=by
 have:(es s).map (λst=>call pg (n+1) 34 [bY b g p (.lst [eD s]) nt,tupK st])=(es s).map λst=>.ok (.lst (((es s).filter λx=>st != x).map λx=>.tup [.int 0,tupK x]),true,false):=by apply sh6 (P:=λs=>(es s).map (λst=>call pg (n+1) 34 [bY b g p (.lst [eD s]) nt,tupK st])=(es s).map λst=>.ok (.lst (((es s).filter λx=>st != x).map λx=>.tup [.int 0,tupK x]),true,false)) h <;> kernel_rfl
 exact B6.mp this st hs
theorem es_len{s:Nat}(h:s<6){st:List Int}(hs:st∈es s):(∃a,st=[a])\/∃a b,st=[a,b]:=by
 have:((es s).all λst=>decide (st.length=1\/st.length=2))=true:=by apply sh6 (P:=λs=>((es s).all λst=>decide (st.length=1\/st.length=2))=true) h <;> decide
 rcases of_decide_eq_true (A9.mp this st hs) with h|h;exact .inl (List.length_eq_one_iff.mp h)
 . match st,h with|[a,b],_=>exact .inr ⟨a,b,rfl⟩
abbrev aNa(l:List Int)(k:Nat)(st:D):D:=.lst (match l[k]? with
 | some x=>[.tup [.int 0,.int x,st]]
 | none=>[])
theorem aFr(n:Nat){s:Nat}(h:s<6){st:List Int}(hs:st∈es s){l:List Int}(hl:l.length<=3){k:Nat}(B:k<=l.length)(b p o nt:D):call pg (n+3) 33 [bY b (gG l) p o nt,.int k,tupK st]=.ok (aNa l k (tupK st),true,false):=by
 rcases es_len h hs with⟨a,rfl⟩|⟨a,c,rfl⟩ <;>
 match l,hl,k,B with
 | [],_,0,_=>kernel_rfl|[x],_,0,_=>kernel_rfl|[x],_,1,_=>kernel_rfl|[x,y],_,0,_=>kernel_rfl|[x,y],_,1,_=>kernel_rfl|[x,y],_,2,_=>kernel_rfl|[x,y,z],_,0,_=>kernel_rfl|[x,y,z],_,1,_=>kernel_rfl|[x,y,z],_,2,_=>kernel_rfl|[x,y,z],_,3,_=>kernel_rfl
theorem aFs(n:Nat)(x:D):call pg (n+1) 1 [yesD,x,.non]=.ok (.bl true,false,false):=by kernel_rfl
theorem cQ{n k:Nat}(h:k<n):ixN n k=some k:=by unfold ixN;rw[if_pos (Fb k),if_pos (by omega)];rfl
theorem aAI(n:Nat){nf:List D}{k:Nat}(l:nf[k]? = some yesD)(b g p o st:D):Rd (call pg (n+2) 31 [bY b g p o (.lst nf),.int k,st]) (.bl true):=by have E:=aO [bY b g p o (.lst nf),.int k,st] 0;exact fA (F:=f31) rfl rfl (eZ (bH (aA (cO (aLi E (i:=0) rfl) (d_v E 1 rfl) (cQ (Ai.mp l).1) l) (aA (d_v E 2 rfl) (aA (d_c _) aH))) (aFs n st)))
theorem aGa(a b:List Int):eqD (tupK a) (tupK b)=some (a==b):=aFY 118 a b
theorem aLj{W:Caller}{σ:Sg}{a b:E}(h:Ed W σ a (.bl true)):Ed W σ (.orr a b) (.bl true):=by obtain⟨v,l,B⟩:=h;exact⟨.cl (.bl true),by rw[aIl,l,aG,B],rfl⟩
theorem aAJ(n:Nat)(d:D)(st:List Int):Rd (call pg (n+1) 32 [d,tupK st,tupK st]) (.bl true):=by have E:=aO [d,tupK st,tupK st] 0;exact fA (F:=f32) rfl rfl (eZ (aLj (tV (d_v E 1 rfl) (d_v E 2 rfl) (by rw[aIs,aGa,BEq.rfl]))))
theorem aGb(a:List Int):∀l:List (List Int),nN (tupK a) (l.map tupK)=some (l.any (·==a))
 | []=>rfl|x::l=>by rw[mC,nN,aGa,aGb a l,Jo]
theorem uE:∀l:List Int,noDics (l.map D.int)=true
 | []=>rfl|x::l=>uE l
theorem uF:∀l:List (List Int),noDics (l.map tupK)=true
 | []=>rfl|x::l=>by rw[mC,noDics,uF l,show eU (tupK x)=true from uE x];rfl
theorem aLk(a:List Int)(l:List (List Int)):bL .NotIn (tupK a) (.lst (l.map tupK))=some (!(l.any (·==a))):=by show(if noDics (l.map tupK) then nN (tupK a) (l.map tupK) else none).map (!·)=_;rw[uF,if_pos rfl,aGb];rfl
theorem aFt{a:List Int}{l:List (List Int)}(h:a∈l):bL .NotIn (tupK a) (.lst (l.map tupK))=some false:=by rw[aLk,show l.any (·==a)=true from DX.mpr ⟨a,h,beq_self_eq_true a⟩];rfl
theorem aNb{a:List Int}{l:List (List Int)}(h:a∉l):bL .NotIn (tupK a) (.lst (l.map tupK))=some true:=by rw[aLk,show l.any (·==a)=false from Fi.mpr λx B e=>h ((eq_of_beq e:x=a)▸B)];rfl
theorem pP{s:Nat}(l:s<6)(k:Nat):aDx s k (.lst (Ag k (esD s))):=⟨_,rfl,A4,λi y e=>by
 rw[A7] at e;split at e;cases e;exact wG l (KL _);cases e⟩
theorem aFu{s:Nat}(h:s<6){i:Nat}(hi:i<(es s).length):(es s)[i]∉(es s).eraseIdx i/\∀(j:Nat) (l:j<i),(es s)[j]'(by omega)∈(es s).eraseIdx i:=by
 have d:(es s).Nodup:=by apply sh6 (P:=λs=>(es s).Nodup) h <;> decide
 refine⟨λz=>?_,λj l=>B3.mpr ⟨j,by rw[FY,if_pos l];exact Ac _⟩⟩;obtain⟨j,l⟩:=B3.mp z;rw[FY] at l;have B:=Ac hi;split at l;have:=(DS hi d).mp (B.trans l.symm);omega;have:=(DS hi d).mp (B.trans l.symm);omega
theorem zB:∀(l:List D) (k:Int) (i:Nat),(dA k l)[i]? = (l[i]?).map λd=>.tup [.int (k+i),d]
 | [],_,_=>by simp[dA]|d::l,k,0=>by simp[dA]|d::l,k,i+1=>by rw[dA,gS,gS,zB l (k+1) i,show k+1+(i:Int)=k+((i+1:Nat):Int) by omega]
abbrev dC(s k:Nat):D:=.lst (Ag k (esD s))
section
variable {s:Nat} (h6:s<6) {l:List Int} (h3:l.length<=3) (hx:∀x∈l,0<=x/\x<=(l.length:Int)) {nf:List D} (hn:∀k,k<=l.length->nf[k]? = some yesD)
include h6 h3 hx hn
theorem aAK(n:Nat){k:Nat}(hk:k<=l.length){st:List Int}(hs:st∈es s){b p:D}:Rd (call pg (n+4) 15 [bY b (gG l) p (.lst [eD s]) (.lst nf),dC s (l.length+1),.int k,tupK st]) .non:=by
 have E:=aO [bY b (gG l) p (.lst [eD s]) (.lst nf),dC s (l.length+1),.int k,tupK st] 4;obtain⟨_,_,c1⟩:=aAI (n+1) (hn k hk) b (gG l) p (.lst [eD s]) (tupK st);have t1:=eC (aFV (m:= "noted") E (i:=0) rfl (aA (d_v E 2 rfl) (aA (d_v E 3 rfl) aH)) (by kernel_rfl) c1);have U:∀{x:Int},0<=x->x<=(l.length:Int)->∃j,ixN (Ag (l.length+1) (esD s)).length x=some j/\(Ag (l.length+1) (esD s))[j]? = some (esD s):=λ{x} h0 h1=>by refine⟨x.toNat,?_,by rw[A7,if_pos (by omega)]⟩;have:=cQ (n:=(Ag (l.length+1) (esD s)).length) (k:=x.toNat) (by rw[A4];omega);rwa [EG h0] at this
 obtain⟨q2,e1,B⟩:=kC (W:=call pg (n+3)) (t:=.t [4,5,6]) (it:=.seq (.mcl 0 "own_from" (.cons (.v 2) (.cons (.v 3) .nil)))) (b:=bdS (hdS (tlS f15.body))) (xs:=match l[k]? with|some x=>[.tup [.int 0,.int x,tupK st]]|none=>[]) E
  (jB (aFU E (i:=0) rfl (aA (d_v E 2 rfl) (aA (d_v E 3 rfl) aH)) (by kernel_rfl) (aFr n h6 hs h3 hk _ _ _ _))) (λ_ Z=>En Z [some (bY b (gG l) p (.lst [eD s]) (.lst nf)),some (dC s (l.length+1)),some (.int k),some (tupK st),none,none,none,none]) (λ_ h=>h) λi hi Z y M hI=>by
  obtain⟨x,q0,e⟩:∃x∈l,y.d=.tup [.int 0,.int x,tupK st]:=by
   revert hi M;cases q:l[k]? with
   | none=>intro hi;cases hi|some x=>
    intro hi M;obtain rfl:i=0:=by have:i<1:=hi;omega
    exact⟨x,mG q,M⟩
  obtain⟨h0,h1⟩:=hx x q0;obtain⟨j,I,L⟩:=U h0 h1;obtain⟨G,g1,B⟩:=st3 hI e 4 5 6;obtain⟨_,_,c2⟩:=aAJ (n+2) (bY b (gG l) p (.lst [eD s]) (.lst nf)) st;exact⟨G,G,g1,cs (cG (cK (d_v B 6 rfl) (cO (d_v B 1 rfl) (d_v B 5 rfl) I L) (aFt hs))) (cs (cG (eC (aFV B (i:=0) rfl (aA (d_v B 3 rfl) (aA (d_v B 6 rfl) aH)) (by kernel_rfl) c2))) rfl),((B.un (i:=6) rfl).un (i:=5) rfl).un (i:=4) rfl⟩
 obtain⟨_,_,q1⟩:Rd (R.ok (D.non,true,true)) .non:=⟨_,_,rfl⟩
 obtain⟨q3,e2,E2⟩:=kC (W:=call pg (n+3)) (t:=.t [7,6]) (it:=.seq (.mcl 0 "others_from" (.cons (.v 3) .nil))) (b:=bdS (hdS (tlS (tlS f15.body)))) (xs:=((es s).filter λx=>st != x).map λx=>.tup [.int 0,tupK x]) B
  (jB (aFU B (i:=0) rfl (aA (d_v B 3 rfl) aH) (by kernel_rfl) (wJ (n+2) h6 hs _ _ _ _))) (λ_ Z=>En Z [some (bY b (gG l) p (.lst [eD s]) (.lst nf)),some (dC s (l.length+1)),some (.int k),some (tupK st),none,none,none,none]) (λ_ h=>h) λi hi Z y M hI=>by rw[Ch] at M;have hz:((es s).filter λx=>st != x)[i]'(by simpa using hi)∈es s:=(D7.mp (Bt _)).1;obtain⟨j,I,L⟩:=U (Fb k) (by omega);obtain⟨G,g1,B⟩:=st2 hI M 7 6;exact⟨G,G,g1,cs (cG (cK (d_v B 6 rfl) (cO (d_v B 1 rfl) (d_v B 2 rfl) I L) (aFt hz))) rfl,(B.un (i:=6) rfl).un (i:=7) rfl⟩
 exact fA (F:=f15) rfl rfl (cx (cG t1) (cx e1 (cx e2 (eZ (d_c .non)))))
theorem pQ(n:Nat){p:D}:Rd (call pg (n+6) 12 [bY (bxD s) (gG l) p (.lst [eD s]) (.lst nf),yesD,dC s (l.length+1)]) .non:=by
 have E:=aO [bY (bxD s) (gG l) p (.lst [eD s]) (.lst nf),yesD,dC s (l.length+1)] 5;have c0:=aDy (s:=s) (hl:=l.map λx=>.lst [.tup [yesD,.tup [],.int x]]) (p:=p) (o:=.lst [eD s]) (nt:=.lst nf) n (pP h6 _);rw[lM] at c0;obtain⟨q1,e1,B⟩:=kC (W:=call pg (n+5)) (t:=.n 3) (it:=.seq (.call 7 (.cons (.fld 0 "boxes") (.cons (.v 1) .nil)))) (b:=bdS (hdS (tlS f12.body))) E (jB (bH (aA (uB E rfl) (aA (d_v E 1 rfl) aH)) (gI (n+3) h6))) (λ_ L=>En L [some (bY (bxD s) (gG l) p (.lst [eD s]) (.lst nf)),some yesD,some (dC s (l.length+1)),none,none,none,none,none]) (λ_ h=>h) λi hi L y I Z=>by obtain⟨G,g1,B⟩:=st1 Z y 3;rw[Ch] at I;rw[I] at B;exact⟨G,G,g1,cs (cG (cK (d_v B 3 rfl) (cO (d_v B 2 rfl) (d_c (.int 0)) (j:=0) (cQ (by rw[A4];exact Cj _)) rfl) (aFt (Bt _)))) rfl,B.un rfl⟩
 obtain⟨q2,e2,U⟩:=kC (W:=call pg (n+5)) (t:=.t [4,5]) (it:=.enum (.v 2)) (b:=bdS (hdS (tlS (tlS f12.body)))) B (rB (d_v B 2 rfl)) (λ_ L=>En L [some (bY (bxD s) (gG l) p (.lst [eD s]) (.lst nf)),some yesD,some (dC s (l.length+1)),none,none,none,none,none]) (λ_ h=>h) λi hi L y I Z=>by
  have I:y.d=.tup [.int i,esD s]/\i<=l.length:=by have e:=Ac hi;rw[zB,A7,<-I] at e;split at e;exact⟨by rw[<-Au e,JC],by omega⟩;cases e
  obtain⟨I,q0⟩:=I;obtain⟨G,g1,B⟩:=st2 Z I 4 5;obtain⟨M,e2,U⟩:=kC (W:=call pg (n+5)) (t:=.n 6) (it:=.seq (.v 5)) (b:=bdS (hdS (bdS (hdS (tlS (tlS f12.body)))))) B (jB (d_v B 5 rfl)) (λ_ L=>En L [some (bY (bxD s) (gG l) p (.lst [eD s]) (.lst nf)),some yesD,some (dC s (l.length+1)),none,some (.int i),some (esD s),none,none]) (λ_ h=>h) λj hj L z hz Z=>by obtain⟨G,g1,B⟩:=st1 Z z 6;rw[Ch] at hz;rw[hz] at B;obtain⟨_,_,c⟩:=aAK h6 h3 hx hn (n+1) q0 (Bt (by simpa using hj)) (b:=bxD s) (p:=p);obtain⟨M,g2,U⟩:=cA (i:=7) (W:=call pg (n+5)) B (bH (aA (d_v B 0 rfl) (aA (d_v B 2 rfl) (aA (d_v B 4 rfl) (aA (d_v B 6 rfl) aH)))) c);exact⟨G,M,g1,cs g2 (cs (cG (cK (d_v U 7 rfl) (d_c .non) rfl)) rfl),(U.un (i:=7) rfl).un (i:=6) rfl⟩
  exact⟨G,M,g1,cs e2 rfl,(U.un (i:=5) rfl).un (i:=4) rfl⟩
 exact fA (F:=f12) rfl rfl (cx (yV (aA (d_v E 0 rfl) (aA (d_v E 2 rfl) aH)) c0) (cx e1 (cx e2 (eZ (d_c .non)))))
end
section
variable {s:Nat} (h6:s<6) {hl:List D}
include h6
theorem aDz{i:Nat}{k:Nat}:aDx s (k+1) (.lst (.lst (((es s).eraseIdx i).map tupK)::Ag k (esD s))):=by
 obtain⟨xs,e,l,B⟩:=pP h6 k;cases e;refine⟨_,rfl,by rw[lC,l],λj y e=>?_⟩;cases j with
 | zero=>cases e;exact wG h6 (List.eraseIdx_sublist _ _)|succ j=>exact B j y e
theorem aDA(n:Nat){p o nt:D}{i:Nat}(hi:i<(es s).length):Rd (call pg (n+6) 12 [bY (bxD s) (.lst hl) p o nt,yesD,.lst (.lst (((es s).eraseIdx i).map tupK)::Ag hl.length (esD s))]) (.tup [.str "begin",tupK (es s)[i]]):=by
 have E:=aO [bY (bxD s) (.lst hl) p o nt,yesD,.lst (.lst (((es s).eraseIdx i).map tupK)::Ag hl.length (esD s))] 5;obtain⟨f1,f2⟩:=aFu h6 hi;obtain⟨v,U,Z⟩:=rD (W:=call pg (n+5)) (t:=.n 3) (it:=.seq (.call 7 (.cons (.fld 0 "boxes") (.cons (.v 1) .nil)))) (b:=bdS (hdS (tlS f12.body))) (p:=λo=>∃v,o=.ret v/\v.d=.tup [.str "begin",tupK (es s)[i]]) (λ_ ⟨_,e,_⟩=>by rw[e];rfl) E (jB (bH (aA (uB E rfl) (aA (d_v E 1 rfl) aH)) (gI (n+3) h6))) (λ_ M=>En M [some (bY (bxD s) (.lst hl) p o nt),some yesD,some (.lst (.lst (((es s).eraseIdx i).map tupK)::Ag hl.length (esD s))),none,none,none,none,none]) (λ_ h=>h) i (by simpa using hi) (λj hj M y L G I=>by
  obtain⟨B,g1,l⟩:=st1 I y 3;rw[Ch] at G;rw[G] at l;exact⟨B,B,g1,cs (cG (cK (d_v l 3 rfl) (cO (d_v l 2 rfl) (d_c (.int 0)) (j:=0) (cQ (by simp)) rfl) (aFt (f2 j L)))) rfl,l.un rfl⟩) λM y G I=>by obtain⟨B,g1,l⟩:=st1 I y 3;rw[Ch] at G;rw[G] at l;obtain⟨v,r1,r2⟩:=eZ (ss:=.nil) (nD (aA (d_c (W:=call pg (n+5)) (.str "begin")) (aA (d_v l 3 rfl) aH)));exact⟨B,g1,v,tX ((fP (cK (d_v l 3 rfl) (cO (d_v l 2 rfl) (d_c (.int 0)) (j:=0) (cQ (by simp)) rfl) (aNb f1))).trans r1),r2⟩
 exact fA (F:=f12) rfl rfl (cx (yV (aA (d_v E 0 rfl) (aA (d_v E 2 rfl) aH)) (aDy n (aDz h6))) ⟨v,tX U,Z⟩)
end
section
variable {s:Nat} (h6:s<6) {hl nf:List D}
noncomputable def aLl(x:D):Prop:=isI [.tList] pg x=some false\/∃xs,x=.lst xs/\xs.length≠2
theorem uG(n:Nat){x:D}(h:aLl x):call pg (n+7) 18 [cP s hl nf,x]=npX:=by
 have E:=aO [cP s hl nf,x] 3;rcases h with h|⟨xs,rfl,h⟩
 exact fQ (F:=f18) rfl rfl (cB ((fP (aDo (eC (gL (d_v E 1 rfl) h)))).trans (cB (nE (d_c _)))));have t:=cK (o:=.NotEq) (dP (W:=call pg (n+6)) (d_v E 1 rfl)) (dP (dO (d_v E 0 rfl) (d_c (.int 2)) (j:=2) rfl rfl)) (kZ _ _);rw[beq_eq_false_iff_ne.mpr (show(xs.length:Int)≠_ from λz=>h (by have:(xs.length:Int)=2:=z;omega))] at t;exact fQ (F:=f18) rfl rfl (cB ((fP (kB (eC (gL (d_v E 1 rfl) rfl)) t)).trans (cB (nE (d_c _)))))
theorem iE{W:Caller}{σ:Sg}{x y:D}(E:En σ [some (cP s hl nf),some (.lst [x,y]),none,none,none]):Td W σ (.orr (.nt (.isi (.v 1) [.tList])) (.cmp .NotEq (.bi .len (.cons (.v 1) .nil)) (.bi .len (.cons (.idx (.v 0) (.c (.int 2))) .nil)))) false:=
 kB (eC (gL (d_v E 1 rfl) rfl)) (cK (dP (d_v E 1 rfl)) (dP (dO (d_v E 0 rfl) (d_c (.int 2)) (j:=2) rfl rfl)) (kZ _ _))
abbrev hsB:Ss:=bdS (hdS (tlS f18.body))
include h6
theorem pR(n:Nat){x y:D}(j:Nat)(G:j<2)(Z:j=1->Rd (call pg (n+6) 12 [dtF s hl nf,yesD,x]) .non)(hb:nR s (hl.length+1) ([x,y][j])):call pg (n+7) 18 [cP s hl nf,.lst [x,y]]=npX:=by
 have E:=aO [cP s hl nf,.lst [x,y]] 3;obtain⟨σ',e⟩:=rD (W:=call pg (n+6)) (t:=.t [2,3]) (it:=.enum (.call 17 (.cons (.v 0) .nil))) (b:=hsB) (p:=λo=>∃σ',o=.exc (dS "NoPaper") σ') (λ_ ⟨_,e⟩=>by rw[e];rfl) E (rB (bH (aA (d_v E 0 rfl) aH) (iD (n+2) h6 hl nf))) (λ_ L=>En L [some (cP s hl nf),some (.lst [x,y]),none,none,none]) (λ_ h=>h) j G (λi hi L z q0 hz I=>by
  obtain rfl:j=1:=by omega
  obtain rfl:i=0:=by omega
  obtain⟨B,g1,l⟩:=st2 I hz 2 3;obtain⟨_,_,c⟩:=Z rfl;obtain⟨M,g2,U⟩:=rC (i:=4) (W:=call pg (n+6)) l (aA (d_v l 3 rfl) (aA (dO (d_v l 0 rfl) (d_c (.int 1)) (j:=1) rfl rfl) (aA (cO (d_v l 1 rfl) (d_v l 2 rfl) (j:=0) rfl rfl) aH))) c;exact⟨B,M,g1,cs g2 (cs (cG (cK (d_v U 4 rfl) (d_c .non) rfl)) rfl),((U.un (i:=4) rfl).un (i:=3) rfl).un (i:=2) rfl⟩) λL z hz I=>by
  have hz:z.d=.tup [.int j,dtF s hl nf]:=by
   match j,G with
   | 0,_=>exact hz|1,_=>exact hz
  obtain⟨B,g1,l⟩:=st2 I hz 2 3;exact⟨B,g1,B,cB (aIx (aA (d_v l 3 rfl) (aA (dO (d_v l 0 rfl) (d_c (.int 1)) (j:=1) rfl rfl) (aA (cO (d_v l 1 rfl) (d_v l 2 rfl) (cQ G) (Ac G)) aH))) (uC n _ hb))⟩
 exact fQ (F:=f18) rfl rfl (cs (cG (iE E)) (cB e))
theorem aAL(n:Nat){y:D}{i:Nat}(hi:i<(es s).length):Rd (call pg (n+7) 18 [cP s hl nf,.lst [.lst (.lst (((es s).eraseIdx i).map tupK)::Ag hl.length (esD s)),y]]) (.tup [.int 0,.tup [.str "begin",tupK (es s)[i]]]):=by
 have E:=aO [cP s hl nf,.lst [.lst (.lst (((es s).eraseIdx i).map tupK)::Ag hl.length (esD s)),y]] 3;obtain⟨_,_,c⟩:=aDA h6 (hl:=hl) n hi (p:=eD s) (o:=.lst [eD s]) (nt:=.lst nf);obtain⟨v,M,U⟩:=rD (W:=call pg (n+6)) (t:=.t [2,3]) (it:=.enum (.call 17 (.cons (.v 0) .nil))) (b:=hsB) (p:=λo=>∃v,o=.ret v/\v.d=.tup [.int 0,.tup [.str "begin",tupK (es s)[i]]]) (λ_ ⟨_,e,_⟩=>by rw[e];rfl) E (rB (bH (aA (d_v E 0 rfl) aH) (iD (n+2) h6 hl nf))) (λ_ I=>En I [some (cP s hl nf),some (.lst [.lst (.lst (((es s).eraseIdx i).map tupK)::Ag hl.length (esD s)),y]),none,none,none]) (λ_ h=>h) 0 (Cj _) (λi hi I z G=>absurd G (Ca _)) λI z hz Z=>by obtain⟨L,g1,l⟩:=st2 Z hz 2 3;obtain⟨q0,g2,B⟩:=rC (i:=4) (W:=call pg (n+6)) l (aA (d_v l 3 rfl) (aA (dO (d_v l 0 rfl) (d_c (.int 1)) (j:=1) rfl rfl) (aA (cO (d_v l 1 rfl) (d_v l 2 rfl) (j:=0) rfl rfl) aH))) c;obtain⟨v,r1,r2⟩:=eZ (ss:=.nil) (nD (aA (d_v (W:=call pg (n+6)) B 2 rfl) (aA (d_v B 4 rfl) aH)));exact⟨L,g1,v,cs g2 (tX ((fP (cK (d_v B 4 rfl) (d_c .non) rfl)).trans r1)),r2⟩
 exact fA (F:=f18) rfl rfl (cx (cG (iE E)) ⟨v,tX M,U⟩)
theorem wK(n:Nat){x:D}(M:Rd (call pg (n+6) 12 [dtF s hl nf,yesD,x]) .non):Rd (call pg (n+7) 18 [cP s hl nf,.lst [x,x]]) .non:=by
 have E:=aO [cP s hl nf,.lst [x,x]] 3;obtain⟨σ',e,l⟩:=kC (W:=call pg (n+6)) (t:=.t [2,3]) (it:=.enum (.call 17 (.cons (.v 0) .nil))) (b:=hsB) E (rB (bH (aA (d_v E 0 rfl) aH) (iD (n+2) h6 hl nf))) (λ_ L=>En L [some (cP s hl nf),some (.lst [x,x]),none,none,none]) (λ_ h=>h) λi hi L z hz U=>by
  have hi:i<2:=hi;have hz:z.d=.tup [.int i,dtF s hl nf]:=by
   match i,hi with
   | 0,_=>exact hz|1,_=>exact hz
  obtain⟨B,g1,l⟩:=st2 U hz 2 3;obtain⟨_,_,c⟩:=M;obtain⟨G,g2,I⟩:=rC (i:=4) (W:=call pg (n+6)) l (aA (d_v l 3 rfl) (aA (dO (d_v l 0 rfl) (d_c (.int 1)) (j:=1) rfl rfl) (aA (cO (d_v l 1 rfl) (d_v l 2 rfl) (cQ hi) (d:=x) (by match i,hi with|0,_=>rfl|1,_=>rfl)) aH))) c;exact⟨B,G,g1,cs g2 (cs (cG (cK (d_v I 4 rfl) (d_c .non) rfl)) rfl),((I.un (i:=4) rfl).un (i:=3) rfl).un (i:=2) rfl⟩
 exact fA (F:=f18) rfl rfl (cx (cG (iE E)) (cx e (eZ (d_c .non))))
end
theorem eT(n:Nat){h x:D}(c:call pg (n+7) 18 [h,x]=npX):Rd (call pg (n+8) 27 [h,x]) (.bl true):=by have E:=aO [h,x] 2;obtain⟨L,G,l⟩:=cA (i:=2) (W:=call pg (n+7)) E (d_c .non);obtain⟨M,I,B⟩:=aFZ (c:= "PromiseError") (i:=2) (j:=3) l (yW (aA (d_v l 0 rfl) (aA (d_v l 1 rfl) aH)) c) (by kernel_rfl);exact fA (F:=f27) rfl rfl (cx G (cx I (eZ (bH (aA (d_v B 2 rfl) aH) (pN (n+6))))))
section
variable {W:Caller} {σ:Sg} {ds:List (Option D)}
theorem wL{a:E}{l:List D}(h:Ed W σ a (.lst l)):Ed W σ (.bi .list (.cons a .nil)) (.lst l):=by obtain⟨⟨_,f1,L,I⟩,B,G⟩:=h;cases G;exact⟨_,pM B rfl,rfl⟩
theorem aGc:Ed W σ .emp (.err 0 [.non]):=⟨_,rfl,rfl⟩
theorem jD{f:Nat}{es:Es}{r:List D}{k:Bool}(h:Eds W σ es r)(c:Rd (W f r) (.bl k)):Td W σ (.call f es) k:=by obtain⟨_,_,c⟩:=c;exact aIw h c
theorem rE{f:Nat}{es:Es}{r:List D}{d:D}(h:Eds W σ es r)(c:Rd (W f r) d):Ed W σ (.call f es) d:=by obtain⟨_,_,c⟩:=c;exact bH h c
theorem zC:∀dss:List (List D),(∀r∈dss,noLs r=true)->fC (dss.map D.lst)=some dss
 | [],_=>rfl|r::dss,h=>by rw[mC,fC,if_pos (h r Aj),zC dss λx l=>h x (Ae _ l)]
theorem aDB{i y:Nat}{dss:List (List D)}(E:En σ ds)(I:ds[y]? = some (some (.lst (dss.map D.lst))))(G:∀r∈dss,noLs r=true)(hl:dss.length<=lim):ex pg W σ (.set2 i y)=.next (σ.set i (.own2 dss)):=by obtain⟨v,l,B⟩:=E.at y _ I;show O.from σ (bU σ y) _=_;rw[l,cM,B];show(match fC (dss.map D.lst),rS σ with|some dss',true=>if (dss.map D.lst).length<=lim then O.next (σ.set i (.own2 dss')) else .bad|_,_=>.bad)=_;rw[zC dss G,E.no2];show(if (dss.map D.lst).length<=lim then O.next (σ.set i (.own2 dss)) else .bad)=_;rw[if_pos (by rwa [lM])]
theorem aFv(E:En σ ds){i j:Nat}{x:Sl}{d:D}(hi:i≠j)(h:ds[j]? = some (some d)):Ed W (σ.set i x) (.v j) d:=by obtain⟨v,l,B⟩:=E.at j d h;exact⟨v,by show bU (σ.set i x) j=_;unfold bU at l ⊢;rwa [Ah hi],B⟩
theorem En.own(E:En σ ds)(i:Nat)(x:Sl)(pa:Bool)(l:List D):En ((σ.set i x).set i (.own pa l)) (ds.set i (some (.lst l))):=by rw[EL];exact E.put ⟨.lst l,true,pa,[]⟩ i
theorem aLm{i:Nat}{a:E}{dss:List (List D)}{k:Int}(hi:i<σ.length)(h:Ed W (σ.set i (.sh false (o2D dss))) a (.int k)):Ed W (σ.set i (.own2 dss)) (.hid i a) (.int k):=by
 obtain⟨v,l,B⟩:=h;refine⟨.cl (.int k),?_,rfl⟩;show(match (σ.set i (.own2 dss))[i]? with
  | some (.own2 dss')=>ev pg W ((σ.set i (.own2 dss)).set i (.sh false (o2D dss'))) a >>= λv=>R.iff (noL v.d) (R.ok (Vl.cl v.d))|_=>.bad)=_
 rw[Ar hi];show(ev pg W ((σ.set i (.own2 dss)).set i (.sh false (o2D dss))) a >>= λv=>R.iff (noL v.d) (R.ok (Vl.cl v.d)))=_;rw[EL,l,aG,B];rfl
theorem aGd{i:Nat}{k m:E}{es:Es}{dss:List (List D)}{a b:Int}{j:Nat}{vs:List Vl}{σ':Sg}(hi:i<σ.length)(G:Ed W (σ.set i (.own2 dss)) k (.int a))(hm:Ed W (σ.set i (.sh false (o2D dss))) m (.int b))(I:evs pg W (σ.set i (.own2 dss)) es=.ok vs)(B:ixN dss.length a=some j)
 (h:lP (σ.set i (.own2 dss)) i dss j (dss.getD j []) b vs=.next σ'):ex pg W (σ.set i (.own2 dss)) (.chg i k (.hid i m) es)=.next σ':=by
 obtain⟨l,k1,k2⟩:=G;obtain⟨mv,m1,m2⟩:=aLm hi hm;show O.from (σ.set i (.own2 dss)) (ev pg W (σ.set i (.own2 dss)) k) (λl=>O.from (σ.set i (.own2 dss)) (ev pg W (σ.set i (.own2 dss)) (.hid i m)) λmv=>O.from (σ.set i (.own2 dss)) (evs pg W (σ.set i (.own2 dss)) es) λvs=>match (σ.set i (.own2 dss))[i]?,l.d,mv.d with
  | some (.own2 dss'),.int k,.int m=>(match ixN dss'.length k with
   | some k=>lP (σ.set i (.own2 dss)) i dss' k (dss'.getD k []) m vs|none=>.bad)
  | _,_,_=>.bad)=_
 rw[k1,cM,m1,cM,I,cM,Ar hi,k2,m2];show(match ixN dss.length a with|some k=>lP (σ.set i (.own2 dss)) i dss k (dss.getD k []) b vs|none=>.bad)=_;rw[B];exact h
theorem aLn{i:Nat}{k m:E}{dss:List (List D)}{a b:Int}{j:Nat}(E:En σ ds)(hi:i<σ.length)(L:Ed W (σ.set i (.own2 dss)) k (.int a))(hm:Ed W (σ.set i (.sh false (o2D dss))) m (.int b))(I:ixN dss.length a=some j)(l:0<=b)(B:b<((dss.getD j []).length:Int))(G:b<1000000):∃σ',ex pg W (σ.set i (.own2 dss)) (.chg i k (.hid i m) .nil)=.next σ'/\En σ' (ds.set i (some (.lst ((dss.map D.lst).set j (.lst ((dss.getD j []).eraseIdx b.toNat)))))):=
 ⟨_,aGd hi L hm rfl I (if_pos ⟨l,B,G⟩),E.own i _ false _⟩
theorem aAM(l:List (List Int))(i:Nat):(l.map tupK).eraseIdx i=(l.eraseIdx i).map tupK:=by
 induction l generalizing i with
 | nil=>rfl|cons x l B=>
  cases i with
  | zero=>rfl|succ i=>exact congrArg (tupK x::·) (B i)
end
theorem fR:∀l:List (List Int),noLs (l.map tupK)=true
 | []=>rfl|x::l=>by have:∀x:List Int,noLs (x.map D.int)=true:=λx=>fO (λ_=>rfl) x;rw[mC,noLs,fR l,show noL (tupK x)=true from this x];rfl
theorem jU{l:List D}{c k:Int}(M:(l.length:Int)=k)(B:0<k):∃(j:Nat) (L:j<l.length),ixN l.length (c % k)=some j/\l[j]? = some l[j]:=by have G:=Cb c (b:=k) (by omega);have I:=BM c B;have:=cQ (n:=l.length) (k:=(c % k).toNat) (by omega);rw[EG G] at this;exact⟨(c % k).toNat,by omega,this,Ac _⟩
theorem rF(n:Nat){s:Nat}(M:s<6){l:List Int}(h3:l.length<=3)(hx:∀x∈l,0<=x/\x<=(l.length:Int)){nl:List D}(hn:nl.length=l.length+1){x:D}(hb:nR s (l.length+1) x){c:Int}:Rd (call pg (n+9) 28 [bxD s,esD s,gG l,.lst nl,x,.int c]) (.bl true):=by
 have E:=aO [bxD s,esD s,gG l,.lst nl,x,.int c] 5;obtain⟨q4,e1,G⟩:=cA (i:=6) (W:=call pg (n+8)) E (jT (k:=1) (caps:=[]) (t:=.n 0) (elt:=.tup (.cons (.c (.str "yes")) .nil)) (ys:=Ag (l.length+1) yesD) E (jB (d_v E 3 rfl)) (by rw[A4,hn]) (by rw[A4];unfold lim;omega) λi x y hx I τ L=>by
  obtain⟨U,g1,G⟩:=st1 L x 0;rw[A7] at I;split at I;cases I;exact⟨U,g1,nH⟩;cases I)
 obtain⟨q5,e2,E2⟩:=cA (i:=7) (W:=call pg (n+8)) G (nD (aA (d_v G 0 rfl) (aA nH (aA (bS (aA (d_v G 2 rfl) (aA (d_v G 2 rfl) aH))) (aA (bS (aA nH (aA nH aH))) (aA (bS (aA (d_v G 6 rfl) (aA (wL (d_v G 6 rfl)) aH))) aH))))));obtain⟨q2,e3,B⟩:=cA (i:=8) (W:=call pg (n+8)) E2 (jT (k:=1) (caps:=[1]) (t:=.n 0) (it:=.rng (.c (.int 0)) (.op .Add (.bi .len (.cons (.v 2) .nil)) (.c (.int 1)))) (elt:=.bi .list (.cons (.v 1) .nil)) (ys:=Ag (l.length+1) (esD s)) E2 (tW (n:=l.length+1) (by
  have:=gK (dP (d_v (W:=call pg (n+8)) E2 2 rfl)) (d_c (.int 1));rwa [lM] at this) (by omega)) (by simp) (by rw[A4];unfold lim;omega) λi x y hx I τ L=>by
  obtain⟨U,g1,G⟩:=st1 L x 0;rw[A7] at I;split at I;cases I;exact⟨U,g1,wL (d_v G 1 rfl)⟩;cases I)
 have q1:=pQ M h3 hx (nf:=Ag (l.length+1) yesD) (λk hk=>by rw[A7,if_pos (by omega)]) (n+1) (p:=eD s);have q0:nR s ((l.map λx=>D.lst [.tup [yesD,.tup [],.int x]]).length+1) x:=by rwa [lM]
 have c1:=eT n (pR M n (hl:=l.map λx=>.lst [.tup [yesD,.tup [],.int x]]) (nf:=Ag (l.length+1) yesD) (x:=dC s (l.length+1)) (y:=x) 1 (by omega) (λ_=>pQ M h3 hx (nf:=Ag (l.length+1) yesD) (λk hk=>by rw[A7,if_pos (by omega)]) n (p:=eD s)) q0);have c2:=eT n (pR M n (hl:=l.map λx=>.lst [.tup [yesD,.tup [],.int x]]) (nf:=Ag (l.length+1) yesD) (x:=x) (y:=dC s (l.length+1)) 0 (by omega) (λz=>nomatch z) q0);have t1:=kB (eC (jD (W:=call pg (n+8)) (aA (d_v B 7 rfl) (aA (bS (aA (d_v B 8 rfl) (aA (d_v B 4 rfl) aH))) aH)) c1)) (eC (jD (aA (d_v B 7 rfl) (aA (bS (aA (d_v B 4 rfl) (aA (d_v B 8 rfl) aH))) aH)) c2));have t2:∃d,Ed (call pg (n+8)) q2 (.idx (.lst (.cons (.lst (.cons (.v 8) .nil)) (.cons (.lst (.cons (.v 8) (.cons (.v 8) (.cons (.v 8) .nil)))) (.cons (.tup (.cons (.v 8) (.cons (.v 8) .nil))) (.cons (.c .non) (.cons (.c (.int 5)) (.cons .emp .nil))))))) (.op .Mod (.v 5) (.c (.int 6)))) d/\aLl d:=by
  obtain⟨j,hj,j1,j2⟩:=jU (c:=c) (l:=[.lst [dC s (l.length+1)],.lst [dC s (l.length+1),dC s (l.length+1),dC s (l.length+1)],.tup [dC s (l.length+1),dC s (l.length+1)],.non,.int 5,.err 0 [.non]]) (k:=6) rfl (by omega);have w:=d_v (W:=call pg (n+8)) B 8 rfl;refine⟨_,cO (bS (aA (bS (aA w aH)) (aA (bS (aA w (aA w (aA w aH)))) (aA (nD (aA w (aA w aH))) (aA (d_c .non) (aA (d_c (.int 5)) (aA aGc aH))))))) (dF (d_v B 5 rfl) (d_c _) (by omega)) j1 j2,?_⟩
  match j,hj with
  | 0,_=>exact .inr ⟨_,rfl,by simp⟩|1,_=>exact .inr ⟨_,rfl,by simp⟩|2,_=>exact .inl rfl|3,_=>exact .inl rfl|4,_=>exact .inl rfl|5,_=>exact .inl rfl
 obtain⟨d,t2,hd⟩:=t2;have t2:=eC (jD (aA (d_v B 7 rfl) (aA t2 aH)) (eT n (uG n (s:=s) (hl:=l.map λx=>.lst [.tup [yesD,.tup [],.int x]]) (nf:=Ag (l.length+1) yesD) hd)));have q3:0<(es s).length/\(es s).length<9:=by apply sh6 (P:=λs=>0<(es s).length/\(es s).length<9) M <;> decide
 have e4:=aDB (W:=call pg (n+8)) (i:=9) (y:=8) (dss:=((es s).map tupK)::Ag l.length ((es s).map tupK)) B (congrArg (λz=>some (some (D.lst z))) (show Ag (l.length+1) (esD s)=((es s).map tupK::Ag l.length ((es s).map tupK)).map D.lst by rw[mC,Hf];rfl)) (λr hr=>by
  rcases Ao.mp hr with rfl|hr;exact fR _;rw[List.eq_of_mem_replicate hr];exact fR _) (by rw[lC,A4];unfold lim;omega)
 have E4:=B.put ⟨o2D (((es s).map tupK)::Ag l.length ((es s).map tupK)),false,false,[]⟩ 9;have m0:=Cb (c / 6) (b:=((es s).length:Int)) (by omega);have m1:=BM (c / 6) (b:=((es s).length:Int)) (by omega);obtain⟨q6,e5,E5⟩:=aLn (W:=call pg (n+8)) (i:=9) (k:=.c (.int 0)) (m:=.op .Mod (.op .FloorDiv (.v 5) (.c (.int 6))) (.bi .len (.cons (.idx (.v 9) (.c (.int 0))) .nil))) (dss:=((es s).map tupK)::Ag l.length ((es s).map tupK)) (j:=0) B (by rw[B.len];exact Gn rfl) (d_c _) (dF (pO (d_v E4 5 rfl) (d_c (.int 6)) rfl) (dP (cO (d_v E4 9 rfl) (d_c (.int 0)) (j:=0) (cQ (Cj _)) rfl)) (by rw[lM];omega)) (cQ (Cj _)) (by rw[lM];exact m0) (by rw[lM];show _<(((es s).map tupK).length:Int);rw[lM];exact m1) (by rw[lM];omega);rw[lM,show((((es s).map tupK)::Ag l.length ((es s).map tupK)).map D.lst).set 0 (.lst (((((es s).map tupK)::Ag l.length ((es s).map tupK)).getD 0 []).eraseIdx (c / 6 % ((es s).length:Int)).toNat))=.lst (((es s).eraseIdx (c / 6 % ((es s).length:Int)).toNat).map tupK)::Ag l.length (esD s) by rw[mC,Hf,lZ,List.getD_cons_zero,aAM]] at E5;have fw:=aAL M (n+1) (hl:=l.map λx=>.lst [.tup [yesD,.tup [],.int x]]) (nf:=Ag (l.length+1) yesD) (y:=x) (i:=(c / 6 % ((es s).length:Int)).toNat) (by omega);rw[lM] at fw;obtain⟨_,_,fw⟩:=fw;obtain⟨q7,e6,Z⟩:=rC (i:=10) (W:=call pg (n+8)) E5 (aA (d_v E5 7 rfl) (aA (bS (aA (d_v E5 9 rfl) (aA (d_v E5 4 rfl) aH))) aH)) fw;obtain⟨_,_,ff⟩:=wK M (n+1) q1;refine fA (F:=f28) rfl rfl (cx e1 (cx e2 (cx e3 (cx (cG t1) (cx (cG t2) (cx e4 (cx e5 (cx e6 ?_))))))));refine eZ (aDp (aLc (d_v Z 10 rfl) rfl) (aDp (tV (aIv (d_v Z 10 rfl)) (d_c (.int 2)) rfl) (aDp (tV (dO (d_v Z 10 rfl) (d_c (.int 0)) (j:=0) rfl rfl) (d_c (.int 0)) rfl) (tV (bH (aA (d_v Z 7 rfl) (aA (bS (aA (d_v Z 8 rfl) (aA (d_v Z 8 rfl) aH))) aH)) ff) (d_c .non) rfl))))
section
variable {W:Caller} {σ:Sg} {ds:List (Option D)}
theorem iF{a b:E}{x y:Int}(h:Ed W σ a (.int x))(g:Ed W σ b (.int y))(l:0<=y)(B:y<=1000000000000000):Ed W σ (.op .Mult a b) (.int (x*y)):=aLb h g (by
 simp only[lK,BZ,bA,Bo];right;omega)
theorem zD{a b:E}{x:Int}(h:Ed W σ (.op .Mod a b) (.int x)):ev pg W σ (.op .Mod a b)=.ok (.cl (.int x)):=by
 obtain⟨v,l,G⟩:=h;rw[l];rw[aFT] at l;cases q:ev pg W σ a with
 | ok u=>
  rw[q,aG] at l;cases B:ev pg W σ b with
  | ok w=>rw[B,aG] at l;have l:rR (λi j=>.iff (decide (0<j)) (.ok (.cl (.int (i % j))))) u w=.ok v:=l;unfold rR at l;split at l;rename_i i j _ _;have l:(if decide (0<j)=true then R.ok (Vl.cl (.int (i % j))) else .bad)=.ok v:=l;split at l;cases l;cases G;rfl;cases l;cases l|exc e=>rw[B] at l;cases l|bad=>rw[B] at l;cases l
 | exc e=>rw[q] at l;cases l|bad=>rw[q] at l;cases l
theorem aGe{i:Nat}{e:E}{v:Vl}{pa:Bool}{l:List D}(h:ev pg W σ e=.ok v)(B:v.al=[])(G:σ[i]? = some (.own pa l))(hl:l.length<lim):ex pg W σ (.app i e)=.next (σ.set i (.own (pa||v.pa) (l++[v.d]))):=by rw[aIp,h,cM];unfold put rV;rw[B,qZ,G];exact if_pos (by rw[lA];exact hl)
end
theorem dJ(n:Nat)(x:Int){k:Int}(l:0<=k)(M:k<=1000):∃m:Nat,call pg (n+1) 19 [.int x,.int k]=.ok (.int m,false,false):=by
 have E:=aO [.int x,.int k] 1;have U:0<=2*k*k/\2*k*k<=2000000:=⟨Int.mul_nonneg (by omega) l,by
  calc 2*k*k<=2*k*1000:=Int.mul_le_mul_of_nonneg_left M (by omega)
   _<=2000000:=by omega⟩
 have B:=Cb ((x+k+1)*(48271+2*k*k)) (show(2147483647:Int)≠0 by decide);have Z:=BM ((x+k+1)*(48271+2*k*k)) (show(0:Int)<2147483647 by decide);obtain⟨q0,I,G⟩:=cA (i:=2) (W:=call pg n) E (dF (iF (gK (gK (d_v E 0 rfl) (d_v E 1 rfl)) (d_c (.int 1))) (gK (d_c (.int 48271)) (iF (iF (d_c (.int 2)) (d_v E 1 rfl) l (by omega)) (d_v E 1 rfl) l (by omega))) (by omega) (by omega)) (d_c (.int 2147483647)) (by decide));have r:=zD (dF (iF (d_v (W:=call pg n) G 2 rfl) (d_v G 2 rfl) B (by omega)) (d_c (.int 2147483629)) (by decide));obtain⟨m,L⟩:=FG (Cb ((x+k+1)*(48271+2*k*k) % 2147483647*((x+k+1)*(48271+2*k*k) % 2147483647)) (show(2147483629:Int)≠0 by decide));rw[L] at r;exact⟨m,tY (F:=f19) rfl rfl (cs I (aDj r))⟩
theorem aDC(n:Nat)(c:Int):∃l:List Int,l.length<=3/\(∀x∈l,0<=x/\x<=(l.length:Int))/\Rd (call pg (n+2) 21 [.int c]) (gG l):=by
 have Z:=Cb c (show(4:Int)≠0 by decide);have h1:=BM c (show(0:Int)<4 by decide);obtain⟨r,U⟩:=FG Z;have k2:ex pg (call pg (n+1)) [.sh true (.int c),.own false [],.dead,.dead] (hdS (tlS f21.body))=.next [.sh true (.int c),.own false [],.sh false (.int r),.dead]:=
  aKZ (U▸zD (dF (x:=c) ⟨_,rfl,rfl⟩ (d_c (.int 4)) (by decide)))
 obtain⟨σ',M,l,w,hl,G,rfl⟩:=aDg (P:=pg) (W:=call pg (n+1)) (σ:=[.sh true (.int c),.own false [],.sh false (.int r),.dead]) (t:=.n 3) (it:=.rng (.c (.int 0)) (.v 2)) (b:=bdS (hdS (tlS (tlS f21.body))))
  (λi L=>∃(l:List Int) (w:Sl),l.length=i/\(∀x∈l,0<=x/\x<=(r:Int))/\L=[.sh true (.int c),.own false (l.map λx=>.lst [.tup [yesD,.tup [],.int x]]),.sh false (.int r),w])
  (iC (v:=.cl (.int r)) rfl rfl (by omega)) ⟨[],.dead,rfl,(λ_ h=>absurd h DY),rfl⟩ λi hi L ⟨l,w,hl,G,e⟩=>by
  subst e;rw[lM,Bp] at hi;obtain⟨m,hm⟩:=dJ n c (k:=i) (by omega) (by omega);have E:En [.sh true (.int c),.own false (l.map λx=>.lst [.tup [yesD,.tup [],.int x]]),.sh false (.int r),.sh false (.int i)] [some (.int c),none,some (.int r),some (.int i)]:=by
   have E0:=aO [D.int c] 3;have:=(((E0.put ⟨.lst (l.map λx=>.lst [.tup [yesD,.tup [],.int x]]),true,false,[]⟩ 1).put (.cl (.int r)) 2).put (.cl (.int i)) 3)
   exact this.less rfl λj d e=>by
    match j,e with
    | 0,e=>exact e|2,e=>exact e|3,e=>exact e
  have hz:=zD (dF (bH (aA (d_v E 0 rfl) (aA (d_v E 3 rfl) aH)) hm) (gK (d_v E 2 rfl) (d_c (.int 1))) (by omega));have B:ev pg (call pg (n+1)) [.sh true (.int c),.own false (l.map λx=>.lst [.tup [yesD,.tup [],.int x]]),.sh false (.int r),.sh false (.int i)] (.lst (.cons (.tup (.cons (.tup (.cons (.c (.str "yes")) .nil)) (.cons (.tup .nil) (.cons (.op .Mod (.call 19 (.cons (.v 0) (.cons (.v 3) .nil))) (.op .Add (.v 2) (.c (.int 1)))) .nil)))) .nil))=.ok ⟨.lst [.tup [yesD,.tup [],.int ((m:Int) % ((r:Int)+1))]],true,false,[]⟩:=by rw[wB,cN,aDa,cN,cN,cN,hz];rfl
  have m0:=Cb (m:Int) (show(r:Int)+1≠0 by omega);have m1:=BM (m:Int) (show(0:Int)<(r:Int)+1 by omega);refine⟨_,_,by rw[Ch,Fc];exact yS _ _ _,cs (aGe (i:=1) (v:=⟨.lst [.tup [yesD,.tup [],.int ((m:Int) % ((r:Int)+1))]],true,false,[]⟩) B rfl rfl (by rw[lM];unfold lim;omega)) rfl,l++[(m:Int) % ((r:Int)+1)],.sh false (.int i),by rw[lA,hl];rfl,λx I=>?_,?_⟩;rcases Bx.mp I with z|z;exact G x z;rw[A3.mp z];omega;rw[Cp];rfl
 rw[lM,Bp] at hl;refine⟨l,by omega,by rw[hl];exact G,true,false,?_⟩;exact tY (F:=f21) rfl rfl (v:=⟨gG l,true,false,[]⟩) (cs rfl (cs k2 (cs M rfl)))
theorem zE(x:List Int):noL (tupK x)=true:=fO (λ_=>rfl) x
abbrev ppD(ps:List (List (List Int))):D:=.lst (ps.map λp=>.lst (p.map tupK))
theorem aAN(n:Nat){s:Nat}(B:s<6)(c:Int)(k:Nat)(hk:k<=4):∃ps:List (List (List Int)),ps.length=k/\(∀p∈ps,p.Sublist (es s))/\Rd (call pg (n+2) 22 [.int c,esD s,.int k]) (ppD ps):=by
 obtain⟨σ',U,ps,w,hl,G,rfl⟩:=aDg (P:=pg) (W:=call pg (n+1)) (σ:=[.sh true (.int c),.sh true (esD s),.sh true (.int k),.own false [],.dead]) (t:=.n 4) (it:=.rng (.c (.int 0)) (.v 2)) (b:=bdS (hdS (tlS f22.body)))
  (λi M=>∃(ps:List (List (List Int))) (w:Sl),ps.length=i/\(∀p∈ps,p.Sublist (es s))/\M=[.sh true (.int c),.sh true (esD s),.sh true (.int k),.own false (ps.map λp=>.lst (p.map tupK)),w])
  (iC (v:=.cl (.int k)) rfl rfl (by omega)) ⟨[],.dead,rfl,(λ_ h=>absurd h DY),rfl⟩ λi hi M ⟨ps,w,hl,G,e⟩=>by
  subst e;rw[lM,Bp] at hi;obtain⟨m,hm⟩:=dJ n c (k:=i) (by omega) (by omega);have l:∃q:List (List Int),q.Sublist (es s)/\ev pg (call pg (n+1)) [.sh true (.int c),.sh true (esD s),.sh true (.int k),.own false (ps.map λp=>.lst (p.map tupK)),.sh false (.int i)] (.comp 1 [0,4] (.n 0) (.seq (.v 1)) (.cons (.cmp .Gt (.op .Mod (.op .Add (.op .Add (.call 19 (.cons (.v 1) (.cons (.v 2) .nil))) (.idx (.v 0) (.c (.int 0)))) (.op .Mult (.c (.int 3)) (.idx (.v 0) (.neg (.c (.int 1)))))) (.c (.int 3))) (.c (.int 0))) .nil) (.v 0))=.ok ⟨.lst (q.map tupK),true,false,[]⟩:=by
   refine⟨_,List.filter_sublist,aIu (al:=[]) (ts:=es s) (λst=>Vl.cl (tupK st)) tupK (λst=>decide (0<((m:Int)+st.headD 0+3*st.getLastD 0) % 3)) zE ?_ ?_ λst hs=>?_⟩;rw[tR];show R.ok (items _ ((es s).map tupK),[])=_;rw[aAG zE];have:(es s).length<=lim:=by apply sh6 (P:=λs=>(es s).length<=lim) B <;> decide
   exact this;have E:En [.sh false (tupK st),.sh true (.int c),.sh false (.int i)] [some (tupK st),some (.int c),some (.int i)]:=by have:=((aO [tupK st,.int c,.int i] 0).put (.cl (tupK st)) 0).put (.cl (.int i)) 2;exact this
   have L:Ed (call pg (n+1)) [.sh false (tupK st),.sh true (.int c),.sh false (.int i)] (.idx (.v 0) (.c (.int 0))) (.int (st.headD 0))/\Ed (call pg (n+1)) [.sh false (tupK st),.sh true (.int c),.sh false (.int i)] (.idx (.v 0) (.neg (.c (.int 1)))) (.int (st.getLastD 0)):=by
    rcases es_len B hs with⟨a,rfl⟩|⟨a,b,rfl⟩
    exact⟨dO (d_v E 0 rfl) (d_c (.int 0)) (j:=0) rfl rfl,dO (k:=-1) (d_v E 0 rfl) ⟨_,rfl,rfl⟩ (j:=0) rfl rfl⟩;exact⟨dO (d_v E 0 rfl) (d_c (.int 0)) (j:=0) rfl rfl,dO (k:=-1) (d_v E 0 rfl) ⟨_,rfl,rfl⟩ (j:=1) rfl rfl⟩
   have hb:0<=st.getLastD 0/\st.getLastD 0<=1000:=by
    have:((es s).all λst=>decide (0<=st.getLastD 0/\st.getLastD 0<=1000))=true:=by apply sh6 (P:=λs=>((es s).all λst=>decide (0<=st.getLastD 0/\st.getLastD 0<=1000))=true) B <;> decide +kernel
    exact of_decide_eq_true (A9.mp this st hs)
   refine⟨_,yS _ _ _,cK (dF (gK (gK (bH (aA (d_v E 1 rfl) (aA (d_v E 2 rfl) aH)) hm) L.1) (iF (d_c (.int 3)) L.2 hb.1 (by omega))) (d_c (.int 3)) (by decide)) (d_c (.int 0)) (aDi _ _),?_⟩;show bU _ 0=_;exact aFg 0 false (zE st)
  obtain⟨q,Z,l⟩:=l;refine⟨_,_,by rw[Ch,Fc];exact yS _ _ _,cs (aGe (i:=3) (v:=⟨.lst (q.map tupK),true,false,[]⟩) l rfl rfl (by rw[lM];unfold lim;omega)) rfl,ps++[q],.sh false (.int i),by rw[lA,hl];rfl,λx I=>?_,?_⟩;rcases Bx.mp I with z|z;exact G x z;rw[A3.mp z];exact Z;rw[Cp];rfl
 rw[lM,Bp] at hl;exact⟨ps,hl,G,true,false,tY (F:=f22) rfl rfl (v:=⟨ppD ps,true,false,[]⟩) (cs rfl (cs U rfl))⟩
theorem rG(n:Nat){s:Nat}(B:s<6)(c:Int):∃d∈bads s (c % 9).toNat,(c % 9).toNat<9/\call pg (n+1) 23 [dN s,.int c]=.ok (d,false,false):=by
 have G:=Cb c (show(9:Int)≠0 by decide);have U:=BM c (show(0:Int)<9 by decide);rw[EG G];have hz:∃z,exs pg (call pg n) [.sh true (dN s),.sh true (.int c),.dead,.dead] f23.body=exs pg (call pg n) [.sh true (dN s),.sh true (.int c),.sh false z,.own false (bads s (c % 9))] (tlS (tlS (tlS (tlS f23.body)))):=by apply sh6 (P:=λs=>∃z,exs pg (call pg n) [.sh true (dN s),.sh true (.int c),.dead,.dead] f23.body=exs pg (call pg n) [.sh true (dN s),.sh true (.int c),.sh false z,.own false (bads s (c % 9))] (tlS (tlS (tlS (tlS f23.body))))) B;exact⟨.tup [.int 0],by kernel_rfl⟩;exact⟨.tup [.int 0],by kernel_rfl⟩;exact⟨.tup [.int 0,.int 0],by kernel_rfl⟩;exact⟨.tup [.int 0,.int 0],by kernel_rfl⟩;exact⟨.tup [.int 0],by kernel_rfl⟩;exact⟨.tup [.int 0,.int 0],by kernel_rfl⟩
 obtain⟨z,hz⟩:=hz;have hl:(bads s (c % 9)).length=12:=by apply sh6 (P:=λs=>(bads s (c % 9)).length=12) B <;> rfl
 obtain⟨j,Z,L,M⟩:=jU (c:=c / 16) (l:=bads s (c % 9)) (k:=12) (by rw[hl];rfl) (by decide);refine⟨(bads s (c % 9))[j],Bt _,by omega,?_⟩;have E:En [.sh true (dN s),.sh true (.int c),.sh false z,.own false (bads s (c % 9))] [some (dN s),some (.int c),none,none]:=by
  have:=((aO [dN s,.int c] 2).put (.cl z) 2).put ⟨.lst (bads s (c % 9)),true,false,[]⟩ 3;rw[yR] at this;exact this.less rfl λi d e=>by
   match i,e with
   | 0,e=>exact e|1,e=>exact e|2,e=>cases e|3,e=>cases e
 have hi:=zD (dF (pO (d_v (W:=call pg n) E 1 rfl) (d_c (.int 16)) rfl) (d_c (.int 12)) (by decide));have I:exs pg (call pg n) [.sh true (dN s),.sh true (.int c),.dead,.dead] f23.body=.ret (Vl.sub ⟨.lst (bads s (c % 9)),false,false,[3]⟩ (bads s (c % 9))[j]):=hz.trans (aDj (aMY (x:=⟨.lst (bads s (c % 9)),false,false,[3]⟩) rfl hi (by
  show(match ixN (bads s (c % 9)).length (c / 16 % 12) with|some j=>(match (bads s (c % 9))[j]? with|some d=>R.ok (Vl.sub _ d)|none=>.bad)|none=>.bad)=_;rw[L];show(match (bads s (c % 9))[j]? with|some d=>R.ok (Vl.sub _ d)|none=>.bad)=_;rw[M])))
 refine(tY (F:=f23) rfl rfl I).trans ?_;unfold Vl.sub;split <;> rfl
section
variable {W:Caller} {σ:Sg} {ds:List (Option D)}
noncomputable def Ea(W:Caller)(σ:Sg)(e:E)(d:D):Prop:=∃v,ev pg W σ e=.ok v/\v.d=d/\v.al=[]
noncomputable def Eas(W:Caller)(σ:Sg)(es:Es)(ds:List D):Prop:=∃vs,evs pg W σ es=.ok vs/\vs.map (·.d)=ds/\bI vs=[]
theorem aLo:Eas W σ .nil []:=⟨[],rfl,rfl,rfl⟩
theorem nJ{e:E}{es:Es}{d:D}{r:List D}(h:Ea W σ e d)(t:Eas W σ es r):Eas W σ (.cons e es) (d::r):=by obtain⟨v,l,rfl,B⟩:=h;obtain⟨vs,G,rfl,I⟩:=t;refine⟨v::vs,by rw[cN,l,aG,G];rfl,rfl,?_⟩;show v.al++bI vs=_;rw[B,I];rfl
theorem a_c(d:D):Ea W σ (.c d) d:=⟨_,rfl,rfl,rfl⟩
theorem aLp:Ea W σ .emp (.err 0 [.non]):=⟨_,rfl,rfl,rfl⟩
theorem aLq{es:Es}{r:List D}(h:Eas W σ es r):Ea W σ (.lst es) (.lst r):=by obtain⟨vs,l,rfl,B⟩:=h;exact⟨_,by rw[wB,l,aG],rfl,B⟩
theorem aLr{a b:E}{l:List D}{k:Int}{j:Nat}{d:D}(h:Ea W σ a (.lst l))(g:Ed W σ b (.int k))(L:ixN l.length k=some j)(hd:l[j]? = some d):Ea W σ (.idx a b) d:=by obtain⟨⟨_,f1,M,U⟩,B,G,I⟩:=h;obtain⟨⟨_,f2,p2,Z⟩,g1,g2⟩:=g;cases G;cases g2;cases I;refine⟨Vl.sub ⟨.lst l,f1,M,[]⟩ d,?_,gJ _ _,by unfold Vl.sub;split <;> rfl⟩;rw[iB,B,aG,g1,aG];show(match ixN l.length k with|some j=>(match l[j]? with|some d=>R.ok (Vl.sub _ d)|none=>.bad)|none=>.bad)=_;rw[L];show(match l[j]? with|some d=>R.ok (Vl.sub _ d)|none=>.bad)=_;rw[hd]
theorem aLs{a b:E}{l:List D}{k:Int}{j:Nat}{d:D}(h:Ed W σ a (.lst l))(g:Ed W σ b (.int k))(L:ixN l.length k=some j)(hd:l[j]? = some d)(M:noL d=true):Ea W σ (.idx a b) d:=by obtain⟨⟨_,f1,U,B⟩,G,I⟩:=h;obtain⟨⟨_,f2,p2,Z⟩,g1,g2⟩:=g;cases I;cases g2;refine⟨Vl.sub ⟨.lst l,f1,U,B⟩ d,?_,gJ _ _,by unfold Vl.sub;rw[if_pos M];rfl⟩;rw[iB,G,aG,g1,aG];show(match ixN l.length k with|some j=>(match l[j]? with|some d=>R.ok (Vl.sub _ d)|none=>.bad)|none=>.bad)=_;rw[L];show(match l[j]? with|some d=>R.ok (Vl.sub _ d)|none=>.bad)=_;rw[hd]
theorem aFw{a:E}{l:List D}(h:Ed W σ a (.lst l))(L:noLs l=true):Ea W σ (.bi .tuple (.cons a .nil)) (.tup l):=by obtain⟨⟨_,f1,M,B⟩,G,I⟩:=h;cases I;exact⟨_,pM G rfl,rfl,by show(if noLs l then [] else B)=[];rw[L];rfl⟩
theorem aFx{a:E}{l:List D}(h:Ed W σ a (.lst l)):Ed W σ (.bi .tuple (.cons a .nil)) (.tup l):=by obtain⟨⟨_,f1,L,I⟩,B,G⟩:=h;cases G;exact⟨_,pM B rfl,rfl⟩
theorem aLt{a:E}{l:List D}(h:Ed W σ a (.lst l))(I:noLs l=true)(hl:l.length<=lim):Ea W σ (.lrv a) (.lst l.reverse):=by obtain⟨v,B,G⟩:=h;refine⟨⟨.lst l.reverse,true,false,[]⟩,?_,rfl,rfl⟩;show(ev pg W σ a >>= λx=>(match x.d with|.lst ds=>R.iff (noLs ds&&decide (ds.length<=lim)) (R.ok (⟨.lst ds.reverse,true,false,[]⟩:Vl))|_=>.bad))=_;rw[B,aG,G];show R.iff (noLs l&&decide (l.length<=lim)) _=_;rw[I,AR hl];rfl
theorem aGf{a:E}{l:List D}{k:Int}(h:Ed W σ a (.lst l))(M:noLs l=true)(L:aT k=true):Ea W σ (.sli a .nil (.cons (.c (.int k)) .nil)) (.lst (cut l none (some k))):=by obtain⟨⟨_,f1,U,B⟩,G,I⟩:=h;cases I;refine⟨⟨.lst (cut l none (some k)),true,U&&!noLs l,if noLs l then [] else B⟩,?_,rfl,by rw[M];rfl⟩;rw[aEY,G,aG];show R.iff (aT k) _=_;rw[L];rfl
theorem aLu{a:E}{l:List D}{k:Int}(h:Ed W σ a (.lst l))(L:aT k=true):Ed W σ (.sli a (.cons (.c (.int k)) .nil) .nil) (.lst (cut l (some k) none)):=by obtain⟨⟨_,f1,M,B⟩,G,I⟩:=h;cases I;refine⟨⟨.lst (cut l (some k) none),true,M&&!noLs l,if noLs l then [] else B⟩,?_,rfl⟩;show(ev pg W σ a >>= λx=>R.iff (aT k) (gO x (some k) none))=_;rw[G,aG,L];rfl
theorem aLv{a:E}{l:List D}{k:Int}(h:Ed W σ a (.lst l))(M:noLs l=true)(L:aT k=true):Ea W σ (.sli a (.cons (.c (.int k)) .nil) .nil) (.lst (cut l (some k) none)):=by obtain⟨⟨_,f1,U,B⟩,G,I⟩:=h;cases I;refine⟨⟨.lst (cut l (some k) none),true,U&&!noLs l,if noLs l then [] else B⟩,?_,rfl,by rw[M];rfl⟩;show(ev pg W σ a >>= λx=>R.iff (aT k) (gO x (some k) none))=_;rw[G,aG,L];rfl
theorem aIC{a b:E}{x y:List D}(h:Ea W σ a (.lst x))(g:Ea W σ b (.lst y))(hl:x.length+y.length<=lim):Ea W σ (.op .Add a b) (.lst (x++y)):=by obtain⟨⟨_,f1,M,I⟩,l,B,G⟩:=h;obtain⟨⟨_,f2,U,L⟩,g1,g2,g3⟩:=g;cases B;cases g2;cases G;cases g3;refine⟨_,aIt l g1 (show R.iff (decide (x.length+y.length<=lim)) _=_ by rw[AR hl];rfl),rfl,?_⟩;show(if noLs x then [] else [])++(if noLs y then [] else [])=_;split <;> split <;> rfl
theorem aID{a:E}{k:Bool}(h:Ed W σ a (.bl k)):Ed W σ (.bi .int (.cons a .nil)) (.int (b2i k)):=by obtain⟨⟨_,f1,I,G⟩,l,B⟩:=h;cases B;exact⟨_,pM l rfl,rfl⟩
theorem rH{i j:Nat}{k e:E}{pa:Bool}{l:List D}{d:D}{B:Int}(E:En σ ds)(Z:σ[i]? = some (.own pa l))(L:Ea W σ e d)(U:Ed W σ k (.int B))(M:ixN l.length B=some j)(hl:l.length<=lim):∃σ',ex pg W σ (.setIx i k e)=.next σ'/\En σ' (ds.set i (some (.lst (l.set j d)))):=by obtain⟨v,G,rfl,I⟩:=L;obtain⟨kv,k1,k2⟩:=U;refine⟨σ.set i (.own (pa||v.pa) (l.set j v.d)),?_,E.put ⟨.lst (l.set j v.d),true,pa||v.pa,[]⟩ i⟩;rw[aDe,G,cM,k1,cM,k2];show put σ i v (λds=>match ixN ds.length B with|some j=>some (ds.set j v.d)|none=>none)=_;unfold put rV;rw[I,qZ,Z];show(match (match ixN l.length B with|some j=>some (l.set j v.d)|none=>none) with|some ds'=>if ds'.length<=lim then O.next (σ.set i (.own (pa||v.pa) ds')) else .bad|none=>.bad)=_;rw[M];exact if_pos (by rwa [Ay])
theorem rJ{i:Nat}{ss:Ss}{d:D}(E:En σ ds)(h:ds[i]? = some (some d)):∃v,exs pg W σ (.cons (.retv i) ss)=.ret v/\v.d=d:=by
 obtain⟨v,G,I⟩:=E.at i d h;rw[fN,aFc];have B:=G;unfold bU at B;cases q:σ[i]? with
 | none=>rw[q] at B;cases B|some s=>
  rw[q] at B;have B:s.val i=.ok v:=B;cases s with
  | dead=>cases B|sh pa x=>exact⟨v,by show(O.from σ (bU σ i) .ret).on _=_;rw[G];rfl,I⟩|own pa l=>cases B;exact⟨_,rfl,I⟩|own2 dss=>cases B
theorem aIE{i:Nat}{dss:List (List D)}(E:En σ ds)(hi:i<σ.length):ex pg W (σ.set i (.own2 dss)) (.thaw i)=.next ((σ.set i (.own2 dss)).set i (.own false (dss.map D.lst))):=by show(match (σ.set i (.own2 dss))[i]? with|some (.own2 dss')=>O.next ((σ.set i (.own2 dss)).set i (.own false (dss'.map D.lst)))|_=>.bad)=_;rw[Ar hi]
end
theorem aLw{W:Caller}{σ:Sg}{ds:List (Option D)}{i:Nat}{k m:E}{es:Es}{dss:List (List D)}{a b:Int}{j:Nat}{d:D}(E:En σ ds)(hi:i<σ.length)(L:Ed W (σ.set i (.own2 dss)) k (.int a))(hm:Ed W (σ.set i (.sh false (o2D dss))) m (.int b))(M:evs pg W (σ.set i (.own2 dss)) es=.ok [⟨d,false,false,[]⟩])(I:ixN dss.length a=some j)(l:0<=b)(B:b<1000000)(G:(dss.getD j []).length<lim):∃σ',ex pg W (σ.set i (.own2 dss)) (.chg i k (.hid i m) es)=.next σ'/\En σ' (ds.set i (some (.lst ((dss.map D.lst).set j (.lst ((dss.getD j []).take b.toNat++d::(dss.getD j []).drop b.toNat)))))):=
 ⟨_,aGd hi L hm M I (if_pos ⟨l,B,G,rfl,rfl⟩),E.own i _ false _⟩
theorem cyr{W:Caller}{σ:Sg}{c:E}{a ss:Ss}{d:D}(h:Td W σ c true)(r:∃v,exs pg W σ a=.ret v/\v.d=d):∃v,exs pg W σ (.cons (.iff c a .nil) ss)=.ret v/\v.d=d:=by obtain⟨v,r,l⟩:=r;exact⟨v,tX ((fP h).trans r),l⟩
section
variable {s:Nat} (h6:s<6) {ps:List (List (List Int))} (hp:∀p∈ps,p.Sublist (es s))
include h6 hp
theorem aIF{j:Nat}(G:j<ps.length){x:D}(B:Bd s x):nR s ps.length (.lst ((ps.map λp=>.lst (p.map tupK)).set j x)):=by refine .inr ⟨_,rfl,.inr ⟨j,x,Ar (by rwa [lM]),B,λi z hi hz=>?_⟩⟩;rw[Ah (by omega),Ak] at hz;obtain⟨q,l,rfl⟩:=A1.mp hz;exact wG h6 (hp q (mG l))
omit h6 hp in
theorem lB{xs:List D}{k:Nat}(h:xs.length≠k):nR s k (.lst xs):=.inr ⟨_,rfl,.inl h⟩
theorem uH(n:Nat)(h0:0<ps.length)(h4:ps.length<=4)(c:Nat):∃x,nR s ps.length x/\Rd (call pg (n+3) 24 [ppD ps,esD s,dN s,.int c]) x:=by
 have hL:(ps.map λp=>D.lst (p.map tupK))=(ps.map λp=>p.map tupK).map D.lst:=by rw[Bb];rfl
 obtain⟨L,eL⟩:∃L:List D,(ps.map λp=>D.lst (p.map tupK))=L:=⟨_,rfl⟩
 have lL:L.length=ps.length:=by rw[<-eL,lM]
 have I:=λ(j:Nat) (hj:j<ps.length) (x:D) (hx:Bd s x)=>aIF h6 hp hj hx;rw[eL] at I;have q3:∀(j:Nat) (hj:j<ps.length),L[j]? = some (.lst (ps[j].map tupK)):=λj hj=>by rw[<-eL,Ak,Ac hj];rfl
 show ∃x,nR s ps.length x/\Rd (call pg (n+3) 24 [.lst (ps.map λp=>D.lst (p.map tupK)),esD s,dN s,.int c]) x;rw[eL];have E:=aO [.lst L,esD s,dN s,.int c] 4;obtain⟨w4,e1,E1⟩:=cA (i:=4) (W:=call pg (n+2)) E (dF (d_v E 3 rfl) (d_c (.int 8)) (by decide));obtain⟨w5,e2,E2⟩:=cA (i:=5) (W:=call pg (n+2)) E1 (dF (pO (d_v E1 3 rfl) (d_c (.int 8)) rfl) (dP (d_v E1 0 rfl)) (by rw[lL];omega));obtain⟨G,e3,E3⟩:=cA (i:=6) (W:=call pg (n+2)) E2 (pO (d_v E2 3 rfl) (d_c (.int 64)) rfl);have e4:=aDB (W:=call pg (n+2)) (i:=7) (y:=0) (dss:=ps.map λp=>p.map tupK) E3 (by rw[<-hL,eL];rfl) (λr hr=>by
  obtain⟨q,_,rfl⟩:=AA.mp hr;exact fR q) (by rw[lM];unfold lim;omega)
 have hi:7<G.length:=by rw[E3.len];exact Gn rfl
 have tk:∀k:Int,Td (call pg (n+2)) (G.set 7 (.own2 (ps.map λp=>p.map tupK))) (.cmp .Eq (.v 4) (.c (.int k))) (((c:Int) % 8)==k):=λk=>cK (aFv E3 (by decide) rfl) (d_c (.int k)) (rA _ _);have U:=aIE (W:=call pg (n+2)) (dss:=ps.map λp=>p.map tupK) E3 hi;have M:=E3.own 7 (.own2 (ps.map λp=>p.map tupK)) false ((ps.map λp=>p.map tupK).map D.lst);rw[<-hL,eL] at U M;have Z:((G.set 7 (.own2 (ps.map λp=>p.map tupK))).set 7 (.own false L))[7]? = some (.own false L):=Ar (by rw[Ay];exact hi);obtain⟨j,hj,j1,j2⟩:=jU (c:=(c:Int) / 8) (l:=L) (k:=(L.length:Int)) rfl (by omega);have B:j<ps.length:=by omega
 have go:∀{x:D},(∃v,exs pg (call pg (n+2)) (G.set 7 (.own2 (ps.map λp=>p.map tupK))) (tlS (tlS (tlS (tlS f24.body))))=.ret v/\v.d=x)->Rd (call pg (n+3) 24 [.lst L,esD s,dN s,.int c]) x:=λh=>fA (F:=f24) rfl rfl (cx e1 (cx e2 (cx e3 (cx e4 h))));have q0:(es s).length<=9/\0<(es s).length:=by apply sh6 (P:=λs=>(es s).length<=9/\0<(es s).length) h6 <;> decide
 have v7:=d_v (W:=call pg (n+2)) M 7 rfl;have v5:=d_v (W:=call pg (n+2)) M 5 rfl;by_cases w0:(c:Int) % 8=0
 . have t:=tk 0;rw[w0] at t;obtain⟨q,hq,q1,q2⟩:=jU (c:=(c:Int) / 64) (l:=[.lst (cut L (some 1) none),.lst (L++[.lst []]),.lst [],.tup L,.non,.int 0,.err 0 [.non],.lst (L++L)]) (k:=8) rfl (by decide);have q5:=iF (dF (d_v (W:=call pg (n+2)) M 6 rfl) (d_c (.int 8)) (by decide)) (aID (tV (dP v7) (d_c (.int 0)) (aDi _ _))) (by rw[AR (by omega)];decide) (by rw[AR (by omega)];decide);rw[AR (show(0:Int)<L.length by omega),show b2i true=1 from rfl,JS] at q5;refine⟨_,?_,go (cyr t (cx U (eZ (cO (bS (aA (aLu v7 rfl) (aA (wF v7 (bS (aA (bS aH) aH)) (by show L.length+1<=lim;unfold lim;omega)) (aA (bS aH) (aA (aFx v7) (aA (d_c .non) (aA (d_c (.int 0)) (aA aGc (aA (wF v7 v7 (by unfold lim;omega)) aH))))))))) q5 q1 q2))))⟩
   match q,hq with
   | 0,_=>exact lB (by
    show(cut L (some 1) none).length≠_;unfold cut;rw[AI,BO];show min (L.length-min 1 L.length) _≠_;omega)
   | 1,_=>exact lB (by rw[lA,lL];show ps.length+1≠_;omega)|2,_=>exact lB (by show 0≠_;omega)|3,_=>exact .inl rfl|4,_=>exact .inl rfl|5,_=>exact .inl rfl|6,_=>exact .inl rfl|7,_=>exact lB (by rw[lA];omega)
 have n0:Td (call pg (n+2)) (G.set 7 (.own2 (ps.map λp=>p.map tupK))) (.cmp .Eq (.v 4) (.c (.int 0))) false:=by have:=tk 0;rwa [beq_eq_false_iff_ne.mpr w0] at this
 by_cases w1:(c:Int) % 8=1
 . have t:=tk 1;rw[w1] at t;obtain⟨q,hq,q1,q2⟩:=jU (c:=(c:Int) / 64) (l:=[.tup (ps[j].map tupK),.non,tupK ((es s)[0]'q0.2),.int 0,.err 0 [.non]]) (k:=5) rfl (by decide);obtain⟨q4,e6,E6⟩:=rH M Z (aLr (aLq (nJ (aFw (cO v7 v5 j1 (q3 j B)) (fR _)) (nJ (a_c .non) (nJ (aLs (d_v M 1 rfl) (d_c (.int 0)) (cQ (k:=0) (by rw[lM];exact q0.2)) (by rw[Ak,Ac q0.2];rfl) (zE _)) (nJ (a_c (.int 0)) (nJ aLp aLo)))))) (dF (d_v M 6 rfl) (d_c (.int 5)) (by decide)) q1 q2) v5 j1 (by unfold lim;omega);refine⟨_,I j B _ ?_,go (cx (cG n0) (cyr t (cx U (cx e6 (rJ E6 rfl)))))⟩
   match q,hq with
   | 0,_=>exact jC rfl|1,_=>exact jC rfl|2,_=>exact jC rfl|3,_=>exact jC rfl|4,_=>exact jC rfl
 have n1:Td (call pg (n+2)) (G.set 7 (.own2 (ps.map λp=>p.map tupK))) (.cmp .Eq (.v 4) (.c (.int 1))) false:=by have:=tk 1;rwa [beq_eq_false_iff_ne.mpr w1] at this
 by_cases w2:(c:Int) % 8=2;have t:=tk 2;rw[w2] at t;obtain⟨q4,e6,E6⟩:=rH M Z (aLt (d_v M 1 rfl) (fR _) (by rw[lM];unfold lim;omega)) v5 j1 (by unfold lim;omega);rw[<-List.map_reverse] at E6;exact⟨_,I j B _ (aDv h6 (l:=(es s).reverse) Aj),go (cx (cG n0) (cx (cG n1) (cyr t (cx U (cx e6 (rJ E6 rfl))))))⟩;have n2:Td (call pg (n+2)) (G.set 7 (.own2 (ps.map λp=>p.map tupK))) (.cmp .Eq (.v 4) (.c (.int 2))) false:=by have:=tk 2;rwa [beq_eq_false_iff_ne.mpr w2] at this
 by_cases w3:(c:Int) % 8=3;have t:=tk 3;rw[w3] at t;have ec:cut ((es s).map tupK) none (some 2)++cut ((es s).map tupK) (some 1) none=((es s).take 2++(es s).drop 1).map tupK:=by apply sh6 (P:=λs=>cut ((es s).map tupK) none (some 2)++cut ((es s).map tupK) (some 1) none=((es s).take 2++(es s).drop 1).map tupK) h6 <;> rfl
 obtain⟨q4,e6,E6⟩:=rH M Z (aIC (aGf (k:=2) (d_v M 1 rfl) (fR _) rfl) (aLv (k:=1) (d_v M 1 rfl) (fR _) rfl) (by
  rw[<-lA,ec,lM,lA,AI,BO];unfold lim;omega)) v5 j1 (by unfold lim;omega)
 rw[ec] at E6;exact⟨_,I j B _ (aDv h6 (l:=(es s).take 2++(es s).drop 1) (Ae _ Aj)),go (cx (cG n0) (cx (cG n1) (cx (cG n2) (cyr t (cx U (cx e6 (rJ E6 rfl)))))))⟩;have n3:Td (call pg (n+2)) (G.set 7 (.own2 (ps.map λp=>p.map tupK))) (.cmp .Eq (.v 4) (.c (.int 3))) false:=by have:=tk 3;rwa [beq_eq_false_iff_ne.mpr w3] at this
 obtain⟨d,hd,q6,hc⟩:=rG (n+1) h6 ((c:Int) / 64);have q9:ps[j].length<=9:=AX (hp _ (Bt B)).length_le q0.1;have E4:=E3.put ⟨o2D (ps.map λp=>p.map tupK),false,false,[]⟩ 7;have eo:o2D (ps.map λp=>p.map tupK)=.lst L:=by rw[<-eL,hL];rfl
 have q8:evs pg (call pg (n+2)) (G.set 7 (.own2 (ps.map λp=>p.map tupK))) (.cons (.call 23 (.cons (.v 2) (.cons (.v 6) .nil))) .nil)=.ok [⟨d,false,false,[]⟩]:=by obtain⟨vs,u1,u2⟩:=aA (aFv (W:=call pg (n+2)) E3 (i:=7) (j:=2) (x:=.own2 (ps.map λp=>p.map tupK)) (by decide) rfl) (aA (aFv E3 (i:=7) (j:=6) (by decide) rfl) aH);rw[cN,yO,u1,aG,u2,hc];rfl
 have gD:(ps.map λp=>p.map tupK).getD j []=ps[j].map tupK:=by rw[AJ,Ak,Ac B];rfl
 have m0:=Cb ((c:Int) / 64) (b:=((ps[j].map tupK).length:Int)+1) (by omega);have m1:=BM ((c:Int) / 64) (b:=((ps[j].map tupK).length:Int)+1) (by omega);have q7:=dF (d_v (W:=call pg (n+2)) E4 6 rfl) (gK (dP (cO (l:=L) (d_v E4 7 (by rw[eo];rfl)) (d_v E4 5 rfl) j1 (q3 j B))) (d_c (.int 1))) (by omega);obtain⟨q4,e6,E6⟩:=aLw E3 hi (aFv E3 (i:=7) (j:=5) (by decide) rfl) q7 q8 (by rw[lM,<-lL];exact j1) m0 (by rw[lM] at m1 ⊢;omega) (by rw[gD,lM];unfold lim;omega);rw[gD,<-hL,eL] at E6;refine⟨_,I j B _ (aIA h6 (hp _ (Bt B)) q6 hd ((c:Int) / 64 % (((ps[j].map tupK).length:Int)+1)).toNat),go (cx (cG n0) (cx (cG n1) (cx (cG n2) (cx (cG n3) (cx e6 (rJ E6 rfl))))))⟩
end
theorem aLx{W:Caller}{σ:Sg}{a:E}{l:List D}{k:Int}(h:Ed W σ a (.lst l))(L:noLs l=true)(I:aT k=true):Ed W σ (.sli a .nil (.cons (.c (.int k)) .nil)) (.lst (cut l none (some k))):=by obtain⟨v,B,G,_⟩:=aGf h L I;exact⟨v,B,G⟩
theorem aFy{W:Caller}{σ:Sg}{e:E}{c:Nat}(h:Ed W σ e (.int c)):∃s,s<6/\Ed W σ (.idx (.lst (.cons (.lst (.cons (.c (.int 1)) .nil)) (.cons (.lst (.cons (.c (.int 3)) .nil)) (.cons (.lst (.cons (.c (.int 1)) (.cons (.c (.int 2)) .nil))) (.cons (.lst (.cons (.c (.int 2)) (.cons (.c (.int 1)) .nil))) (.cons (.lst (.cons (.c (.int 4)) .nil)) (.cons (.lst (.cons (.c (.int 1)) (.cons (.c (.int 1)) .nil))) .nil))))))) (.op .Mod e (.c (.int 6)))) (dN s):=by
 obtain⟨j,B,G,I⟩:=jU (c:=(c:Int)) (l:=[dN 0,dN 1,dN 2,dN 3,dN 4,dN 5]) (k:=6) rfl (by decide);refine⟨j,B,cO (bS (aA (bS (aA (d_c _) aH)) (aA (bS (aA (d_c _) aH)) (aA (bS (aA (d_c _) (aA (d_c _) aH))) (aA (bS (aA (d_c _) (aA (d_c _) aH))) (aA (bS (aA (d_c _) aH)) (aA (bS (aA (d_c _) (aA (d_c _) aH))) aH))))))) (dF h (d_c (.int 6)) (by decide)) G ?_⟩
 match j,B with
 | 0,_=>rfl|1,_=>rfl|2,_=>rfl|3,_=>rfl|4,_=>rfl|5,_=>rfl
theorem aNc{W:Caller}{σ:Sg}{e:E}{i:Nat}(h:Ed W σ e (.int i))(hi:i<2):Ed W σ (.idx (.c (.str "ab")) e) (.str (["a", "b"].getD i "")):=by
 obtain⟨⟨_,f,p,al⟩,l,B⟩:=h;cases B
 match i,hi with
 | 0,_=>exact⟨.cl (.str "a"),by rw[iB,aIk,aG,l,aG];kernel_rfl,rfl⟩|1,_=>exact⟨.cl (.str "b"),by rw[iB,aIk,aG,l,aG];kernel_rfl,rfl⟩
theorem aDD{W:Caller}{σ:Sg}{ds:List (Option D)}{s:Nat}(Z:s<6)(E:En σ ds)(e:ds[4]? = some (some (dN s))):Ed W σ (.comp 1 [4] (.n 0) (.rng (.c (.int 0)) (.bi .len (.cons (.v 4) .nil))) .nil (.tup (.cons (.idx (.c (.str "ab")) (.v 0)) (.cons (.idx (.v 1) (.v 0)) .nil)))) (bxD s):=by
 have hl:(nQ s).length<=2:=by apply sh6 (P:=λs=>(nQ s).length<=2) Z <;> decide
 have hb:bxD s=.lst ((AD (nQ s).length).map λi=>.tup [.str (["a", "b"].getD i ""),.int ((nQ s).getD i 0)]):=by apply sh6 (P:=λs=>bxD s=.lst ((AD (nQ s).length).map λi=>.tup [.str (["a", "b"].getD i ""),.int ((nQ s).getD i 0)])) Z <;> rfl
 rw[hb];have l:=dP (d_v (W:=W) E 4 e);rw[lM] at l;refine jT E (tW l (by omega)) (by simp) (by rw[lM,Bp];unfold lim;omega) λi x y L G τ B=>?_;rw[Ak] at L G;obtain⟨k,hk,L⟩:=A1.mp L;rw[hk] at G;have G:=Au G;subst G;have M:k<(nQ s).length:=AQ.mp (mG hk);rw[mC,e] at B;obtain⟨U,g1,I⟩:=st1 B x 0;rw[<-L] at I;exact⟨U,g1,nD (aA (aNc (d_v I 0 rfl) (by omega)) (aA (cO (d_v I 1 rfl) (d_v I 0 rfl) (cQ (by rwa [lM])) (by rw[Ak,AJ,Ac M];rfl)) aH))⟩
theorem aDE{σ:Sg}{ds:List (Option D)}{c k:Nat}{n:Nat}(hk:k<=4){a:E}(E:En σ ds)(Z:ds[3]? = some (some (.int c)))(e9:ds[9]? = some (some (.lst [yesD,aIB])))(ha:Ed (call pg (n+1)) σ a (.int k)):∃nl:List D,nl.length=k/\Ed (call pg (n+1)) σ (.comp 1 [3,9] (.n 0) (.rng (.c (.int 0)) a) .nil (.idx (.v 2) (.op .Mod (.call 19 (.cons (.v 1) (.cons (.v 0) .nil))) (.c (.int 2))))) (.lst nl):=by
 have l:∀i:Nat,∃m:Nat,i<=1000->call pg (n+1) 19 [.int c,.int i]=.ok (.int m,false,false):=λi=>by by_cases h:i<=1000;obtain⟨m,hm⟩:=dJ n c (k:=i) (by omega) (by omega);exact⟨m,λ_=>hm⟩;exact⟨0,λz=>absurd z h⟩
 refine⟨(AD k).map λi=>[yesD,aIB].getD ((Dv (l i)) % 2) .non,by simp,jT E (tW ha (by omega)) (by simp) (by rw[lM,Bp];unfold lim;omega) λi x y L G τ B=>?_⟩;rw[Ak] at L G;obtain⟨j,W,L⟩:=A1.mp L;rw[W] at G;have G:=Au G;subst G;have q0:j<k:=AQ.mp (mG W);have hc:=JN (l j) (by omega);rw[mC,mC,Z,e9] at B;obtain⟨U,g1,I⟩:=st1 B x 0;rw[<-L] at I;refine⟨U,g1,cO (d_v I 2 rfl) (dF (bH (aA (d_v I 1 rfl) (aA (d_v I 0 rfl) aH)) hc) (d_c (.int 2)) (by decide)) (cQ (n:=2) (k:=Dv (l j) % 2) (Ee _ (by decide))) ?_⟩;show _=some ([yesD,aIB].getD (Dv (l j) % 2) .non);have M:=Ee (Dv (l j)) (show 0<2 by decide);revert M;generalize Dv (l j) % 2=q;intro M
 match q,M with
 | 0,_=>rfl|1,_=>rfl
theorem pure(ns:List Int)(hn:ns.length<=63):∃fr pa,call pg 60 29 [.lst (ns.map D.int)]=.ok (.bl true,fr,pa):=by
 have E0:=aO [.lst (ns.map D.int)] 11;have M:cut (ns.map D.int) none (some 40)=(cut ns none (some 40)).map D.int:=by unfold cut;rw[lM,Js,Jt]
 have z2:(cut ns none (some 40)).length<=40:=by unfold cut;rw[AI];show min (min 40 ns.length-0) _<=40;omega
 have w7:noLs (ns.map D.int)=true:=fO (λ_=>rfl) ns;obtain⟨z5,e1,E1⟩:=cA (i:=1) (W:=call pg 59) E0 (wF (wL (aLx (k:=40) (d_v E0 0 rfl) w7 rfl)) (jT (k:=1) (caps:=[]) (t:=.n 0) (elt:=.op .Mult (.v 0) (.v 0)) (ys:=(AD 6).map λ(k:Nat)=>D.int ((k:Int)*k)) E0 (tW (n:=6) (d_c _) (by decide)) rfl (by decide) λi x y hx hy τ q2=>by
  rw[Ak] at hx hy;obtain⟨j,hj,hx⟩:=A1.mp hx;rw[hj] at hy;have hy:=Au hy;subst hy;have z4:j<6:=AQ.mp (mG hj);obtain⟨w8,g1,E1⟩:=st1 q2 x 0;rw[<-hx] at E1;exact⟨w8,g1,iF (d_v E1 0 rfl) (d_v E1 0 rfl) (by omega) (by omega)⟩) (by rw[M,lM];show _+6<=lim;unfold lim;omega))
 obtain⟨cs,q9,z3⟩:∃cs:List Int,cs.map D.int=cut (ns.map D.int) none (some 40)++(AD 6).map (λ(k:Nat)=>D.int ((k:Int)*k))/\cs.length<=46:=⟨cut ns none (some 40)++(AD 6).map (λ(k:Nat)=>(k:Int)*k),by rw[Cp,M,Bb];rfl,by rw[lA];show _+6<=46;omega⟩
 rw[<-q9] at E1;have U:=dP (d_v (W:=call pg 59) E1 1 rfl);rw[lM] at U;obtain⟨z6,e2,E2⟩:=kC (W:=call pg 59) (t:=.n 2) (it:=.rng (.c (.int 0)) (.bi .len (.cons (.v 1) .nil))) (b:=bdS (hdS (tlS f29.body))) E1 (tW U (by omega)) (λ_ τ=>En τ [some (.lst (ns.map D.int)),some (.lst (cs.map D.int)),none,none,none,none,none,none,none,none,none,none]) (λ_ h=>h) λi hi τ y hy hI=>by
  rw[lM,Bp] at hi;rw[Ch,Fc] at hy;obtain⟨w9,g2,E2⟩:=st1 hI y 2;rw[hy] at E2;obtain⟨c,hc⟩:=dJ 58 cs[i] (k:=i) (by omega) (by omega);obtain⟨z7,g3,E3⟩:=cA (i:=3) (W:=call pg 59) E2 (bH (aA (cO (d_v E2 1 rfl) (d_v E2 2 rfl) (cQ (by rwa [lM])) (by rw[Ak,Ac hi];rfl)) (aA (d_v E2 2 rfl) aH)) hc);obtain⟨s,h6,ht⟩:=aFy (d_v (W:=call pg 59) E3 3 rfl);obtain⟨z8,g4,E4⟩:=cA (i:=4) E3 ht;obtain⟨z9,g5,E5⟩:=cA (i:=5) (W:=call pg 59) E4 (aDD h6 E4 rfl);obtain⟨x0,g6,E6⟩:=cA (i:=6) (W:=call pg 59) E5 (bH (aA (d_v E5 4 rfl) aH) (aAH 58 h6));obtain⟨l,h3,hx,hh⟩:=aDC 57 ((c:Int) / 6);obtain⟨x1,g7,E7⟩:=cA (i:=7) (W:=call pg 59) E6 (rE (aA (pO (d_v E6 3 rfl) (d_c (.int 6)) rfl) aH) hh);have q0:=gK (dP (d_v (W:=call pg 59) E7 7 rfl)) (d_c (.int 1));rw[lM] at q0;obtain⟨ps,w5,q1,hp⟩:=aAN 57 h6 ((c:Int) / 24) (l.length+1) (by omega);obtain⟨x2,g8,E8⟩:=cA (i:=8) (W:=call pg 59) E7 (rE (aA (pO (d_v E7 3 rfl) (d_c (.int 24)) rfl) (aA (d_v E7 6 rfl) (aA q0 aH))) hp);obtain⟨x3,g9,E9⟩:=cA (i:=9) (W:=call pg 59) E8 (bS (aA nH (aA (nD (aA (d_c (.str "not")) (aA nH aH))) aH)));have Z:=gK (dP (d_v (W:=call pg 59) E9 7 rfl)) (d_c (.int 1));rw[lM] at Z;obtain⟨nl,w3,w4⟩:=aDE (k:=l.length+1) (n:=58) (by omega) E9 rfl rfl Z;obtain⟨z0,q4,I⟩:=cA (i:=10) E9 w4;obtain⟨c5,q7⟩:=dJ 58 (c:Int) (k:=50) (by decide) (by decide);obtain⟨x,hb,w6⟩:=uH h6 q1 56 (by omega) (by omega) c5;rw[w5] at hb;obtain⟨z1,q5,G⟩:=cA (i:=11) (W:=call pg 59) I (rE (aA (d_v I 8 rfl) (aA (d_v I 6 rfl) (aA (d_v I 4 rfl) (aA (bH (aA (d_v I 3 rfl) (aA (d_c (.int 50)) aH)) q7) aH)))) w6);have t1:=eC (jD (W:=call pg 59) (aA (d_v G 5 rfl) (aA (d_v G 7 rfl) (aA (d_v G 10 rfl) (aA (d_v G 11 rfl) aH)))) (uD 51 (s:=s) (hl:=l.map λx=>.lst [.tup [yesD,.tup [],.int x]]) (nl:=nl) (by rwa [lM])));obtain⟨c6,q8⟩:=dJ 58 (c:Int) (k:=60) (by decide) (by decide);obtain⟨L,q6,B⟩:=cA (i:=3) (W:=call pg 59) G (bH (aA (d_v G 3 rfl) (aA (d_c (.int 60)) aH)) q8);have t2:=eC (jD (W:=call pg 59) (aA (d_v B 5 rfl) (aA (d_v B 6 rfl) (aA (d_v B 7 rfl) (aA (d_v B 10 rfl) (aA (d_v B 11 rfl) (aA (d_v B 3 rfl) aH)))))) (rF 50 h6 h3 hx w3 hb));have t3:=cK (o:=.Eq) (dF (d_v (W:=call pg 59) B 2 rfl) (d_c (.int 3)) (by decide)) (d_c (.int 0)) (rA _ _);have q3:ex pg (call pg 59) L (hdS (Nat.repeat tlS 11 (bdS (hdS (tlS f29.body)))))=.next L:=by
   revert t3;cases((i:Int) % 3==0) with
   | false=>exact λt3=>cG t3|true=>exact λt3=>(fP t3).trans (HpS.cs (cG t2) rfl)
  refine⟨w9,L,g2,HpS.cs g3 (HpS.cs g4 (HpS.cs g5 (HpS.cs g6 (HpS.cs g7 (HpS.cs g8 (HpS.cs g9 (HpS.cs q4 (HpS.cs q5 (HpS.cs (cG t1) (HpS.cs q6 (HpS.cs q3 rfl))))))))))),B.less rfl λj d e=>?_⟩
  match j,e with
  | 0,e=>exact e|1,e=>exact e|2,e=>cases e|3,e=>cases e|4,e=>cases e|5,e=>cases e|6,e=>cases e|7,e=>cases e|8,e=>cases e|9,e=>cases e|10,e=>cases e|11,e=>cases e
 exact fA (n:=59) (F:=f29) rfl rfl (cx e1 (cx e2 (eZ (d_c (.bl true)))))
end K39
noncomputable section
open PySem PySem.W PyProof.Rows Hh
set_option maxRecDepth 100000 in
set_option maxHeartbeats 0 in
theorem PySem.Challenge.cw_handpromise_k39_no_papers_holds : PySem.Challenge.rw_handpromise_k39_no_papers.Holds := by
 refine holds_law K39.ws λ said => ?_;refine aIj (l := CV) (k := 59) (f := 29) (x := "_law_script") (sl := ["_law_cells", "_law_k", "_law_cell", "_law_tops", "_law_boxes", "_law_every_here", "_law_hand_here", "_law_paper_here", "_law_some", "_law_notes", "_law_bad"]) said K39.lft (by kernel_rfl) (by kernel_rfl) rfl rfl (by decide +kernel) ⟨rfl, rfl, rfl, rfl, rfl, by decide +kernel⟩ ?hw rfl rfl (by decide +kernel) (by decide +kernel) K39.chk rfl (by decide +kernel) (by kernel_rfl) (by decide +kernel) (by decide +kernel) rfl (by decide +kernel) ⟨rfl, rfl, by decide, by decide⟩ (by kernel_rfl) rfl K39.pure
 w_witness2
end
